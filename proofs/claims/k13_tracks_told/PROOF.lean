import PyProof.Rows.All
import Wide.All
import OpenK.AllK
import Wide.FinOn
import Lean
import PyProof.EqAt
import PyProof.EqKinds
import PyProof.TupleCall
import PyProof.NeKinds
import KE.KEqDict
import KE.KPairComp
import PyProof.EnumStmt
import PyProof.EnumMake
import PyProof.Rows.EnumRows
import KE.KDictList
import PyProof.ListRange
import PyProof.StationsW
import PyProof.Rows.SortStr
import KE.KDictSum
import PyProof.InstStoreFacts
import KE.KIsAll
import PyProof.ExcAttrAll.ValueError
import PyProof.ExcClass2
import PyProof.RulesAs
import KE.KDictOf
import PyProof.IsiH_list
import PyProof.StrOps2
import PyProof.FitsStr
import PyProof.SumWalkG
import KE.KRevSl
import KE.KLam
import KE.KNestM
import PyProof.Rows.TupAssign
import PySem.Challenge.RW_yardkeep_k13_tracks_told
set_option Elab.async false
set_option linter.all false
set_option maxRecDepth 100000
set_option maxHeartbeats 4000000
namespace L2
open PySem PySem.Spec PyProof.Rows
abbrev Key:=Sum Int Str
def keyIs:Key→Value→Bool
 | .inl k,v=>Value.isInt k v
 | .inr x,v=>Value.isStrOf x v
def keyH (w:World):Key→Int
 | .inl k=>hashInt k
 | .inr x=>hashStr w x
theorem keyIs_shape:∀ {k:Key} {v:Value},keyIs k v=true→(∃ i t,k=Sum.inl i∧v=Value.int i t)∨(∃ x t,k=Sum.inr x∧v=Value.str x t)
 | .inl i,v,h=>by
  obtain ⟨t,e⟩:=Value.isInt_shape (k:=i) (v:=v) h
  exact .inl ⟨i,t,rfl,e⟩
 | .inr x,v,h=>by
  obtain ⟨t,e⟩:=Value.isStrOf_shape (x:=x) (v:=v) h
  exact .inr ⟨x,t,rfl,e⟩
theorem keyIs_int (i:Int) (t:Tok):keyIs (.inl i) (.int i t)=true:=by simp [keyIs,Value.isInt]
theorem keyIs_str (x:Str) (t:Tok):keyIs (.inr x) (.str x t)=true:=by simp [keyIs,Value.isStrOf]
theorem key_ll (a b:Int):decide ((Sum.inl a:Key)=Sum.inl b)=(a == b):=by
 by_cases e:a=b
 ·subst e; simp
 ·have h:¬ (Sum.inl a:Key)=Sum.inl b:=fun q=>e (Sum.inl.inj q)
  rw [decide_eq_false h]
  exact (beq_eq_false_iff_ne.mpr e).symm
theorem key_rr (a b:Str):decide ((Sum.inr a:Key)=Sum.inr b)=decide (a=b):=by
 by_cases e:a=b
 ·subst e; simp
 ·have h:¬ (Sum.inr a:Key)=Sum.inr b:=fun q=>e (Sum.inr.inj q)
  rw [decide_eq_false h,decide_eq_false e]
theorem key_lr (a:Int) (b:Str):decide ((Sum.inl a:Key)=Sum.inr b)=false:=decide_eq_false (fun q=>nomatch q)
theorem key_rl (a:Str) (b:Int):decide ((Sum.inr a:Key)=Sum.inl b)=false:=decide_eq_false (fun q=>nomatch q)
def mixKind (prog:Program) (w:World):PySem.KeyKind prog w Key where
 is:=keyIs
 hash:=keyH w
 inj:=fun v a b ha hb=>by
  rcases keyIs_shape ha with ⟨i,t,rfl,rfl⟩ | ⟨x,t,rfl,rfl⟩
  ·rcases keyIs_shape hb with ⟨j,u,rfl,e⟩ | ⟨y,u,rfl,e⟩
   ·injection e with e1 _; rw [e1]
   ·exact nomatch e
  ·rcases keyIs_shape hb with ⟨j,u,rfl,e⟩ | ⟨y,u,rfl,e⟩
   ·exact nomatch e
   ·injection e with e1 _; rw [e1]
 byValue:=fun k v h=>by
  rcases keyIs_shape h with ⟨i,t,rfl,rfl⟩ | ⟨x,t,rfl,rfl⟩ <;> rfl
 pyHash:=fun hv h=>by
  rcases keyIs_shape hv with ⟨i,t,rfl,rfl⟩ | ⟨x,t,rfl,rfl⟩
  ·exact wpAny_pyHash_int h
  ·exact wpAny_pyHash_str h
 eqBool:=fun hu hv h=>by
  rcases keyIs_shape hu with ⟨i,t,rfl,rfl⟩ | ⟨x,t,rfl,rfl⟩
  ·rcases keyIs_shape hv with ⟨j,u,rfl,rfl⟩ | ⟨y,u,rfl,rfl⟩
   ·rw [key_ll] at h; exact wpAny_eqBool_int h
   ·rw [key_lr] at h; exact SeqAt.EqAt.int_str i t y u _ _ _ _ h
  ·rcases keyIs_shape hv with ⟨j,u,rfl,rfl⟩ | ⟨y,u,rfl,rfl⟩
   ·rw [key_rl] at h; exact SeqAt.EqAt.str_int x t j u _ _ _ _ h
   ·rw [key_rr] at h; exact wpAny_eqBool_str h
 «strs» := fun k x t v h=>by
  rcases keyIs_shape h with ⟨i,u,rfl,e⟩ | ⟨y,u,rfl,e⟩
  ·exact nomatch e
  ·injection e with e1 _
   subst e1
   cases v <;> rfl
theorem mixKind_int (prog:Program) (w:World) (i:Int) (t:Tok):(mixKind prog w).is (.inl i) (.int i t)=true:=keyIs_int i t
theorem mixKind_str (prog:Program) (w:World) (x:Str) (t:Tok):(mixKind prog w).is (.inr x) (.str x t)=true:=keyIs_str x t
end L2
namespace L2
open PySem PySem.Spec PyProof.Rows
inductive V where
 | non | bl (b:Bool) | int (i:Int) | str (x:Str) | byt (b:Array UInt8) | flt (b:UInt64) | ref (a:Addr) | ty (n:String)
 deriving DecidableEq
def RelV:V→Value→Prop
 | .non,u=>u=Value.none
 | .bl b,u=>u=Value.bool b
 | .int i,u=>∃ t,u=Value.int i t
 | .str x,u=>∃ t,u=Value.str x t
 | .byt b,u=>∃ t,u=Value.bytes b t
 | .flt b,u=>∃ t,u=Value.float b t
 | .ref a,u=>u=Value.ref a
 | .ty n,u=>u=Value.type n
abbrev Vals:List V→List Value→Prop:=Paired RelV
theorem Vals.length {xs:List V} {us:List Value} (r:Vals xs us):xs.length=us.length:=Paired.length r
theorem Vals.get:∀ {xs:List V} {us:List Value} {i:Nat} {x:V},Vals xs us→xs[i]? = some x→∃ u,us[i]? = some u∧RelV x u
 | _,_,_,_,.nil,e=>by simp at e
 | _,_,0,_,.cons r _,e=>by simp at e; subst e; exact ⟨_,rfl,r⟩
 | _,_,i + 1,x,.cons _ t,e=>by
  obtain ⟨u,h1,h2⟩:=Vals.get (i:=i) (x:=x) t (by simpa using e)
  exact ⟨u,by simpa using h1,h2⟩
theorem Vals.set {x:V} {u:Value} (r:RelV x u):∀ {xs:List V} {us:List Value} (i:Nat),Vals xs us→Vals (xs.set i x) (us.set i u)
 | _,_,_,.nil=>.nil
 | _,_,0,.cons _ t=>.cons r t
 | _,_,i + 1,.cons q t=>.cons q (Vals.set r i t)
theorem Vals.append:∀ {xs ys:List V} {us ws:List Value},Vals xs us→Vals ys ws→Vals (xs ++ ys) (us ++ ws)
 | _,_,_,_,.nil,s=>s
 | _,_,_,_,.cons r t,s=>.cons r (Vals.append t s)
theorem Vals.take:∀ {xs:List V} {us:List Value} (n:Nat),Vals xs us→Vals (xs.take n) (us.take n)
 | _,_,0,_=>.nil
 | _,_,_ + 1,.nil=>.nil
 | _,_,n + 1,.cons r t=>.cons r (Vals.take n t)
theorem Vals.drop:∀ {xs:List V} {us:List Value} (n:Nat),Vals xs us→Vals (xs.drop n) (us.drop n)
 | _,_,0,r=>r
 | _,_,_ + 1,.nil=>.nil
 | _,_,n + 1,.cons _ t=>Vals.drop n t
def RelO:Option V→Option Value→Prop
 | some v,some u=>RelV v u
 | none,none=>True
 | _,_=>False
def KV {κ:Type}:List (κ×V)→List (κ×Value)→Prop:=Paired fun (p:κ×V) (q:κ×Value)=>p.1=q.1∧RelV p.2 q.2
def kV:Key→V
 | .inl i=>.int i
 | .inr x=>.str x
inductive HO where
  | lst (xs:List V)
  | tup (xs:List V)
  | dK (kvs:List (Key×V)) | dT (kvs:List (List Key×V))
  | set (S:Int→Bool) (n:Nat)
  | ins (C dx:Addr) (fs:List (Str×V))
  | own (x:Addr)
  | xd (fs:List (Str×V))
  | met (f x:Addr)
  | rng (lo hi:Int)
  | frz (o:Obj) (u:HO)
  | tbl (ps:Array Value)
  | ext (φ:Heap→Prop)
abbrev Hp:=Addr→Option HO
def upd (H:Hp) (a:Addr) (o:HO):Hp:=fun b=>if b=a then some o else H b
theorem upd_same {H:Hp} {a:Addr} {o:HO}:upd H a o a=some o:=by unfold upd; rw [if_pos rfl]
theorem upd_ne {H:Hp} {a b:Addr} {o:HO} (h:b ≠ a):upd H a o b=H b:=by unfold upd; rw [if_neg h]
theorem ne_of {H:Hp} {a b:Addr} {o u:HO} (h:H a=some o) (h':H b=some u) (d:o ≠ u):a ≠ b:=by
 intro e; subst e; rw [h] at h'; exact d (Option.some.inj h')
theorem ne_of_none {H:Hp} {a b:Addr} {o:HO} (h:H a=some o) (h':H b=none):a ≠ b:=by
 intro e; subst e; rw [h] at h'; cases h'
section
variable (P:Program) (w:World)
def ObjOk (H:Hp) (h:Heap) (a:Addr):HO→Prop
 | .lst xs=>xs.length ≤ sizeLine∧∃ (its:List Value) (n:Nat),Vals xs its∧h.get? a=some { cls:=.type "list",data:=.seq its.toArray n }
 | .tup xs=>xs.length ≤ sizeLine∧∃ its:List Value,Vals xs its∧IsTup h a its.toArray
 | .dK kvs=>kvs.length ≤ sizeLine∧(a == sysModules)=false∧∃ vs,KV kvs vs∧h.DictOf (mixKind P w) a vs
 | .dT kvs=>kvs.length ≤ sizeLine∧(a == sysModules)=false∧∃ xs:List (List Key×Addr×Value),
   Paired (fun (p:List Key×V) (q:List Key×Addr×Value)=>p.1=q.1∧H q.2.1=some (.tup (p.1.map kV))∧RelV p.2 q.2.2) kvs xs ∧
   ∃ o es ep,h.get? a=some o∧o.ExactDict∧o.data=.dict es ep∧es.toList=xs.map (entryOfKey (tupleKind (mixKind P w)))∧(xs.map (·.1)).Nodup
 | .set S n=>h.SetOf (intKind P w) a S n
 | .ins C dx fs=>H dx=some (.own a)∧fs.length ≤ 1000∧dx ≠ a∧h.get? a=some (PySem.W.instObj C dx) ∧
   ∃ mA,h.Ns1 dx mA∧(∀ f,RelO (fs.lookup f) (mA f))∧PySem.Within mA (fs.map (·.1))
 | .own _=>∃ o,h.get? a=some o
 | .xd fs=>∃ mA,h.Ns1 a mA∧∀ f,RelO (fs.lookup f) (mA f)
 | .rng lo hi=>∃ t u v,h.get? a=some { cls:=.type "range",data:=.fields #[.int lo t,.int hi u,.int 1 v] }
 | .frz o u=>h.get? a=some o∧ObjOk H h a u
 | .tbl ps=>∃ (ln cl:Value) (q:Str) (t:Nat),ps[0]? = some ln∧ps[1]? = some cl∧ps[2]? = some (.str q t) ∧
   (h.get? a=some { cls:=.none,data:=.fields #[] }∨∃ (c:Addr) (oc:Obj) (vs:Array Value) (tt:Nat),H c=some (.frz oc (.own a))∧oc.data=.fields vs∧vs[1]? = some (.str q tt) ∧
    h.get? a=some { cls:=.none,data:=.fields #[ln,cl,.ref c] })
 | .met f x=>h.get? a=some (PySem.W.methodObj (.ref f) (.ref x))
 | .ext φ=>φ h∧(∃ o,h.get? a=some o)∧∀ h1 h2:Heap,φ h1→(∀ o,h1.get? a=some o→h2.get? a=some o)→φ h2
def HOk (H:Hp) (h:Heap):Prop:=∀ a o,H a=some o→ObjOk P w H h a o
end
section
variable {P:Program} {w:World} {H H':Hp} {h h':Heap} {a:Addr} {o:HO}
theorem ObjOk.lt (x:ObjOk P w H h a o):a < h.objs.size:=by
 cases o with
 | lst xs=>obtain ⟨_,_,_,_,e⟩:=x; exact Heap.lt_size e
 | tup xs=>obtain ⟨_,_,_,p⟩:=x; exact p.lt
 | dK kvs=>obtain ⟨_,_,_,_,o,_,_,e,_⟩:=x; exact Heap.lt_size e
 | dT kvs=>obtain ⟨_,_,_,_,o,_,_,e,_⟩:=x; exact Heap.lt_size e
 | set S n=>obtain ⟨o,_,_,_,e,_⟩:=x; exact Heap.lt_size e
 | ins C dx fs=>obtain ⟨_,_,_,e,_⟩:=x; exact Heap.lt_size e
 | own y=>obtain ⟨_,e⟩:=x; exact Heap.lt_size e
 | xd fs=>obtain ⟨_,⟨_,_,_,e,_⟩,_⟩:=x; exact Heap.lt_size e
 | rng lo hi=>obtain ⟨_,_,_,e⟩:=x; exact Heap.lt_size e
 | frz ob u=>obtain ⟨e,_⟩:=x; exact Heap.lt_size e
 | tbl ps =>
  obtain ⟨_,_,_,_,_,_,_,e | ⟨_,_,_,_,_,_,_,e⟩⟩:=x
  ·exact Heap.lt_size e
  ·exact Heap.lt_size e
 | met f y=>exact Heap.lt_size (show h.get? a=some _ from x)
 | ext φ=>obtain ⟨_,⟨_,e⟩,_⟩:=x; exact Heap.lt_size e
theorem Paired.mapP {α β:Type} {F G:α→β→Prop}:∀ {l₁:List α} {l₂:List β},Paired F l₁ l₂→(∀ a b,F a b→G a b)→Paired G l₁ l₂
 | _,_,.nil,_=>.nil
 | _,_,.cons r t,f=>.cons (f _ _ r) (Paired.mapP t f)
theorem ObjOk.stay (x:ObjOk P w H h a o) (k:∀ b u,(b=a∨H b=some (.own a))→h.get? b=some u→h'.get? b=some u)
  (ho:∀ b,H b=some (.own a)→H' b=some (.own a)) (ht:∀ b xs,H b=some (.tup xs)→H' b=some (.tup xs))
  (hz:∀ b o,H b=some (.frz o (.own a))→H' b=some (.frz o (.own a)):=by first | exact fun _ _ q=>q | (intro b o q; rw [upd_ne (ne_of_none q (by assumption))]; exact q)):ObjOk P w H' h' a o:=by
 induction o with
 | lst xs=>obtain ⟨z,its,n,r,e⟩:=x; exact ⟨z,its,n,r,k _ _ (.inl rfl) e⟩
 | tup xs=>obtain ⟨z,its,r,ob,e,c⟩:=x; exact ⟨z,its,r,ob,k _ _ (.inl rfl) e,c⟩
 | dK kvs=>obtain ⟨z,y,vs,r,ob,es,ep,e,c⟩:=x; exact ⟨z,y,vs,r,ob,es,ep,k _ _ (.inl rfl) e,c⟩
 | dT kvs =>
  obtain ⟨z,y,xs,r,ob,es,ep,e,c⟩:=x
  exact ⟨z,y,xs,Paired.mapP r fun p q z=>⟨z.1,ht _ _ z.2.1,z.2.2⟩,ob,es,ep,k _ _ (.inl rfl) e,c⟩
 | set S n=>obtain ⟨ob,es,ep,t,e,c⟩:=x; exact ⟨ob,es,ep,t,k _ _ (.inl rfl) e,c⟩
 | ins C dx fs =>
  obtain ⟨d,z,ne,e,mA,⟨od,es,ep,e2,c⟩,r⟩:=x
  exact ⟨ho _ d,z,ne,k _ _ (.inl rfl) e,mA,⟨od,es,ep,k _ _ (.inr d) e2,c⟩,r⟩
 | own y=>obtain ⟨ob,e⟩:=x; exact ⟨ob,k _ _ (.inl rfl) e⟩
 | xd fs=>obtain ⟨mA,⟨od,es,ep,e,c⟩,r⟩:=x; exact ⟨mA,⟨od,es,ep,k _ _ (.inl rfl) e,c⟩,r⟩
 | rng lo hi=>obtain ⟨t,u,v,e⟩:=x; exact ⟨t,u,v,k _ _ (.inl rfl) e⟩
 | frz ob u ih=>obtain ⟨e,q⟩:=x; exact ⟨k _ _ (.inl rfl) e,ih q⟩
 | tbl ps =>
  obtain ⟨ln,cl,q,t,e1,e2,e3,e | ⟨c,oc,vs,tt,f1,f2,f3,e⟩⟩:=x
  ·exact ⟨ln,cl,q,t,e1,e2,e3,.inl (k a _ (.inl rfl) e)⟩
  ·exact ⟨ln,cl,q,t,e1,e2,e3,.inr ⟨c,oc,vs,tt,hz _ _ f1,f2,f3,k a _ (.inl rfl) e⟩⟩
 | met f y =>
  have e:h.get? a=some (PySem.W.methodObj (.ref f) (.ref y)):=x
  show h'.get? a=some (PySem.W.methodObj (.ref f) (.ref y))
  exact k a _ (.inl rfl) e
 | ext φ=>obtain ⟨p,⟨o,e⟩,st⟩:=x; exact ⟨st _ _ p fun o q=>k _ _ (.inl rfl) q,⟨o,k _ _ (.inl rfl) e⟩,st⟩
theorem HOk.lt (x:HOk P w H h) (e:H a=some o):a < h.objs.size:=(x a o e).lt
theorem HOk.fresh (x:HOk P w H h) (e:h.objs.size ≤ a):H a=none:=by
 cases q:H a with
 | none=>rfl
 | some u=>exact absurd (Nat.lt_of_lt_of_le (x.lt q) e) (Nat.lt_irrefl _)
theorem HOk.kept (x:HOk P w H h) (k:∀ b u,h.get? b=some u→h'.get? b=some u):HOk P w H h':=fun a o e =>
 (x a o e).stay (fun b u _ q=>k b u q) (fun _ q=>q) fun _ _ q=>q
theorem HOk.laid (x:HOk P w H h) (k:∀ b u,h.get? b=some u→h'.get? b=some u) (hp:h.objs.size ≤ a) (new:ObjOk P w (upd H a o) h' a o):HOk P w (upd H a o) h':=fun b u e=>by
 have hn:=x.fresh hp
 by_cases hb:b=a
 ·subst hb; rw [upd_same] at e; cases e; exact new
 ·rw [upd_ne hb] at e
  exact (x b u e).stay (fun c v _ q=>k c v q) (fun c q=>by rw [upd_ne (ne_of_none q hn)]; exact q) fun c xs q=>by rw [upd_ne (ne_of_none q hn)]; exact q
end
def Rd (H:Hp) (a:Addr) (u:HO):Prop:=H a=some u∨∃ o,H a=some (.frz o u)
theorem Rd.ok {P:Program} {w:World} {H:Hp} {h:Heap} {a:Addr} {u:HO} (r:Rd H a u) (x:HOk P w H h):ObjOk P w H h a u:=by
 rcases r with r | ⟨o,r⟩
 ·exact x a u r
 ·obtain ⟨_,q⟩:=x a _ r
  exact q
def Mut:Option HO→Prop
 | some (.lst _)=>True
 | some (.dK _)=>True
 | some (.dT _)=>True
 | some (.set _ _)=>True
 | some (.ins _ _ _)=>True
 | some (.ext _)=>True
 | _=>False
section
variable {P:Program} {w:World} {H:Hp} {h h':Heap} {x e:Addr} {o':HO}
theorem HOk.write (ok:HOk P w H h) (mu:Mut (H x)) (he:e=x∨H e=some (.own x)) (k:∀ b u,b ≠ e→h.get? b=some u→h'.get? b=some u) (heo:∃ u,h'.get? e=some u)
  (new:ObjOk P w (upd H x o') h' x o'):HOk P w (upd H x o') h':=fun b u q=>by
 have nown:∀ c y,H c=some (.own y)→c ≠ x:=fun c y r z=>by subst z; rw [r] at mu; exact mu
 have ntup:∀ c xs,H c=some (.tup xs)→c ≠ x:=fun c xs r z=>by subst z; rw [r] at mu; exact mu
 have nfrz:∀ c o y,H c=some (.frz o (.own y))→c ≠ x:=fun c o y r z=>by subst z; rw [r] at mu; exact mu
 by_cases hb:b=x
 ·subst hb; rw [upd_same] at q; cases q; exact new
 ·rw [upd_ne hb] at q
  by_cases hbe:b=e
  ·have q':H b=some (.own x):=by
    rcases he with z | z
    ·exact absurd (hbe.trans z) hb
    ·rw [hbe]; exact z
   rw [q] at q'; cases q'
   obtain ⟨v,hv⟩:=heo
   exact ⟨v,by rw [hbe]; exact hv⟩
  ·refine (ok b u q).stay (fun c v hc r=>k c v ?_ r) (fun c r=>by rw [upd_ne (nown c b r)]; exact r) (fun c xs r=>by rw [upd_ne (ntup c xs r)]; exact r) (fun c o r=>by rw [upd_ne (nfrz c o b r)]; exact r)
   rcases hc with rfl | hc
   ·exact hbe
   ·rintro rfl
    rcases he with z | z
    ·exact nown c b hc z
    ·rw [hc] at z; cases z; exact hb rfl
end
structure Un (fs ex:List Addr) (H H':Hp) (h h':Heap):Prop where
 keep:∀ b o,h.get? b=some o→H b=none→b ∉ fs→b ∉ ex→h'.get? b=some o
 slot:∀ b o,h.get? b=some o→H b=none→b ∈ fs→b ∉ ex→∃ sl,h'.get? b=some { o with slots:=sl }
 free:∀ b o,h.get? b=some o→H b=none→b ∉ ex→H' b=none
 there:∀ b o,h.get? b=some o→b ∉ ex→∃ o',h'.get? b=some o'
 tups:∀ b xs,H b=some (.tup xs)→H' b=some (.tup xs)
 frzs:∀ b o u,H b=some (.frz o u)→H' b=some (.frz o u)
 tbls:∀ b ps,H b=some (.tbl ps)→∃ more,H' b=some (.tbl (ps ++ more))
section
variable {fs fs' ex ex':List Addr} {H H1 H2:Hp} {h h1 h2 h':Heap} {a x e:Addr} {o:HO}
theorem Un.any (u:Un fs ex H H1 h h1) {b:Addr} {ob:Obj} (q:h.get? b=some ob) (n:H b=none) (hx:b ∉ ex):∃ sl,h1.get? b=some { ob with slots:=sl }:=by
 by_cases hb:b ∈ fs
 ·exact u.slot b ob q n hb hx
 ·exact ⟨ob.slots,u.keep b ob q n hb hx⟩
theorem Un.kept (k:∀ b u,h.get? b=some u→h'.get? b=some u):Un fs ex H H h h' :=
 ⟨fun b ob q _ _ _=>k b ob q,fun b ob q _ _ _=>⟨ob.slots,k b ob q⟩,fun _ _ _ n _=>n,fun b ob q _=>⟨ob,k b ob q⟩,fun _ _ q=>q,fun _ _ _ q=>q,fun _ ps q=>⟨#[],by rw [q]; simp⟩⟩
theorem Un.refl:Un fs ex H H h h:=Un.kept fun _ _ q=>q
theorem Un.laid (k:∀ b u,h.get? b=some u→h'.get? b=some u) (hp:h.objs.size ≤ a) (hn:H a=none):Un fs ex H (upd H a o) h h' where
 keep:=fun b u q _ _ _=>k b u q
 slot:=fun b u q _ _ _=>⟨u.slots,k b u q⟩
 free:=fun b u q n _=>by rw [upd_ne (Nat.ne_of_lt (Nat.lt_of_lt_of_le (Heap.lt_size q) hp))]; exact n
 there:=fun b u q _=>⟨u,k b u q⟩
 tups:=fun b xs q=>by rw [upd_ne (ne_of_none q hn)]; exact q
 frzs:=fun b u xs q=>by rw [upd_ne (ne_of_none q hn)]; exact q
 tbls:=fun b ps q=>⟨#[],by rw [upd_ne (ne_of_none q hn),q]; simp⟩
theorem Un.write (mu:Mut (H x)) (he:e=x∨H e=some (.own x)) (k:∀ b u,b ≠ e→h.get? b=some u→h'.get? b=some u) (heo:∃ u,h'.get? e=some u):Un fs ex H (upd H x o) h h':=by
 have hx:∀ b,H b=none→b ≠ x:=fun b n z=>by subst z; rw [n] at mu; exact mu
 have hb:∀ b,H b=none→b ≠ e:=fun b n z=>by
  subst z
  rcases he with r | r
  ·exact hx b n r
  ·rw [n] at r; cases r
 have hm:∀ b u,H b=some u→¬ Mut (some u)→b ≠ x:=fun b u q nm z=>by subst z; rw [q] at mu; exact nm mu
 refine ⟨fun b u q n _ _=>k b u (hb b n) q,fun b u q n _ _=>⟨u.slots,k b u (hb b n) q⟩,fun b u q n _=>by rw [upd_ne (hx b n)]; exact n,fun b u q _=>?_,
  fun b xs q=>by rw [upd_ne (hm b _ q fun z=>z)]; exact q,fun b u xs q=>by rw [upd_ne (hm b _ q fun z=>z)]; exact q,fun b ps q=>⟨#[],by rw [upd_ne (hm b _ q fun z=>z),q]; simp⟩⟩
 by_cases hbe:b=e
 ·subst hbe; exact heo
 ·exact ⟨u,k b u hbe q⟩
end
def trk (h:Heap) (H:Hp):List Addr:=(List.range h.objs.size).filter fun a=>(H a).isSome
def hidT (h:Heap) (H:Hp):Heap:=PySem.W.hideAll h (trk h H)
theorem hidT_size (h:Heap) (H:Hp):(hidT h H).objs.size=h.objs.size:=PySem.W.hideAll_size _ _
theorem hidT_get {h:Heap} {H:Hp} {b:Addr} {o:Obj} (e:h.get? b=some o) (n:H b=none):(hidT h H).get? b=some o :=
 PySem.W.hideAll_get _ e fun hm=>by
  have q:(H b).isSome=true:=(List.mem_filter.mp hm).2
  rw [n] at q; simp at q
theorem of_hidT {h:Heap} {H:Hp} {b:Addr} {o:Obj} (e:(hidT h H).get? b=some o):h.get? b=some o∧H b=none:=by
 have e':h.get? b=some o:=PySem.W.of_hideAll (trk h H) e
 refine ⟨e',?_⟩
 cases q:H b with
 | none=>rfl
 | some x =>
  have hm:b ∈ trk h H:=List.mem_filter.mpr ⟨List.mem_range.mpr (Heap.lt_size e'),by simp [q]⟩
  have z:(hidT h H).get? b=none:=PySem.W.hideAll_none (trk h H) hm
  rw [z] at e; cases e
def allNews (g h:Heap) (L:Addr):List (Addr×Obj):=(List.range h.objs.size).filterMap fun a=>if a=L∨(g.get? a).isSome=true then none else (h.get? a).map fun o=>(a,o)
def rest (g h:Heap) (L d:Addr):List (Addr×Obj):=(allNews g h L).filter fun p=>decide (p.1 ≠ d)
end L2
namespace L2
open PySem PySem.Spec PyProof.Rows
def BMain (mg:Str→Option Value) (h:Heap):Prop:=∃ bm ob,mg "__builtins__" = some (.ref bm)∧bm ≠ builtinsNs∧h.get? bm=some ob∧ob.cls=.type "module" ∧ ob.dict=some builtinsNs∧ob.data=.plain
structure Mod (K:PySem.W.Frag) (mg:Str→Option Value) (base:Heap):Prop where
 kin:K.In base
 glob:base.Ns mainGlobals mg
 blt:∃ mb,base.Ns builtinsNs mb∧∀ x:Str,x ≠ "__name__" → mb x=bootBuiltins x
 nolimit:base.NoLimit
 bm:BMain mg base
structure Cx where
 prog:Program
 w:World
 K:PySem.W.Frag
 mg:Str→Option Value
 base:Heap
 A:Around
 N:List Str
 s₀:Shared
 H₀:Hp
 env:Env
 outer:List Env
 stack:List Env
 ex:List Addr
 fn:Str→Bool
 calm:Bool
 pn:List (Addr×Obj)
 xe:Value→Shared→Prop
def frs (l:List Env):List Addr:=l.filterMap (·.frame)
abbrev Cx.fs (X:Cx):List Addr:=frs X.outer
def Vis (sc:Scope) (x:Str):Prop:=sc.names.lookup x=some .local∨sc.names.lookup x=some .cell∨sc.names.lookup x=some .free
def Loc (sc:Scope) (x:Str):Prop:=sc.names.lookup x=some .local∨sc.names.lookup x=some .cell
def Look (env:Env) (h:Heap) (m:Str→Option Value) (x:Str) (u:Value):Prop :=
 (env.kindOf x=some .local∧m x=some u)∨((env.kindOf x=some .cell∨env.kindOf x=some .free)∧∃ c,env.cells.lookup x=some c∧h.IsCell c (some u))
structure Cx.Ok (X:Cx):Prop where
 mod:Mod X.K X.mg X.base
 kind:X.env.scope.kind=.function
 glob:X.env.globals=mainGlobals
 blt:X.env.builtins=builtinsNs
 above:X.s₀.heap.objs.size ≤ X.env.locals
 inj:∀ x y c,X.env.cells.lookup x=some c→X.env.cells.lookup y=some c→x=y
 has:∀ x,(X.env.kindOf x=some .cell∨X.env.kindOf x=some .free)→∃ c,X.env.cells.lookup x=some c
 cab:∀ x c,X.fn x=true→X.env.cells.lookup x=some c→X.s₀.heap.objs.size ≤ c
 hd:X.calm=true→X.A.handled=none
 frames:X.A.frames=some X.stack
 stk:X.stack=X.outer∨(X.stack=X.env :: X.outer∧X.env.frame=some X.env.locals)
 exf:∀ b ∈ X.ex,b ≠ X.env.locals∧∀ x c,X.env.cells.lookup x=some c→c ≠ b
 bs:∀ b o,X.base.get? b=some o→X.s₀.heap.get? b=some o∧X.H₀ b=none
 bsz:X.base.objs.size ≤ X.s₀.heap.objs.size
 noex:∀ b o,X.base.get? b=some o→b ∉ X.ex
 exfs:∀ b ∈ X.ex,b ∉ X.fs
 funs:X.s₀.heap.FunFrames X.base X.outer
 frf:∀ b ∈ X.fs,X.H₀ b=none
structure Inv (X:Cx) (pins:List (Addr×Obj)) (σ:List (Option V)) (H:Hp) (s:Shared):Prop where
 ok:X.Ok
 os:s.os=X.s₀.os
 bare:AllBare s.gens
 base:Un X.fs X.ex X.H₀ H X.s₀.heap s.heap
 loc:∃ m,s.heap.Ns X.env.locals m∧∀ (i:Nat) (x:Str) (v:V),X.N[i]? = some x→σ[i]? = some (some v)→Vis X.env.scope x→∃ u,RelV v u∧Look X.env s.heap m x u
 cell:∀ x c,X.env.cells.lookup x=some c→∃ v,s.heap.IsCell c v
 free:H X.env.locals=none
 freeC:∀ x c,X.env.cells.lookup x=some c→H c=none
 pin:∀ p ∈ X.pn ++ pins,s.heap.get? p.1=some p.2∧H p.1=none∧p.1 ≠ X.env.locals∧p.1 ∉ X.fs∧∀ v,p.2.data ≠ .cell v
 hok:HOk X.prog X.w H s.heap
 len:σ.length=X.N.length
section
variable {X:Cx} {pins:List (Addr×Obj)} {σ:List (Option V)} {H H':Hp} {s:Shared} {h':Heap}
theorem Cx.Ok.nofr (ok:X.Ok) {b:Addr} {o:Obj} (e:X.base.get? b=some o):b ∉ X.fs:=fun hb=>by
 have:=(ok.funs.mem hb).1
 rw [e] at this; cases this
theorem Inv.bs (I:Inv X pins σ H s):∀ b o,X.base.get? b=some o→s.heap.get? b=some o∧H b=none:=fun b o e =>
 ⟨I.base.keep b o (I.ok.bs b o e).1 (I.ok.bs b o e).2 (I.ok.nofr e) (I.ok.noex b o e),I.base.free b o (I.ok.bs b o e).1 (I.ok.bs b o e).2 (I.ok.noex b o e)⟩
theorem Inv.bk (I:Inv X pins σ H s):∀ b o,X.base.get? b=some o→s.heap.get? b=some o:=fun b o e=>(I.bs b o e).1
theorem Inv.mod (I:Inv X pins σ H s):Mod X.K X.mg X.base:=I.ok.mod
theorem Inv.kIn (I:Inv X pins σ H s):X.K.In s.heap:=I.ok.mod.kin.keeps I.bk
theorem Inv.fr (I:Inv X pins σ H s):∃ m,Fr X.base X.env.locals s.heap m :=
 let ⟨m,hn,_⟩:=I.loc
 ⟨m,hn,I.bk,Nat.le_trans I.ok.bsz I.ok.above⟩
theorem Inv.lt (I:Inv X pins σ H s):X.env.locals < s.heap.objs.size:=let ⟨_,hn,_⟩:=I.loc; hn.lt
theorem Inv.sz (I:Inv X pins σ H s):X.s₀.heap.objs.size ≤ s.heap.objs.size:=Nat.le_trans I.ok.above (Nat.le_of_lt I.lt)
theorem Inv.nofs (I:Inv X pins σ H s) {a:Addr} (h:s.heap.objs.size ≤ a):a ∉ X.fs:=fun hb=>by
 obtain ⟨_,o,ho,_⟩:=I.ok.funs.mem hb
 exact absurd (Nat.lt_of_lt_of_le (Heap.lt_size ho) (Nat.le_trans I.sz h)) (Nat.lt_irrefl _)
theorem Inv.cne (I:Inv X pins σ H s):∀ x c,X.env.cells.lookup x=some c→c ≠ X.env.locals:=fun x c e z=>by
 obtain ⟨v,o,ho,hd⟩:=I.cell x c e
 obtain ⟨m,⟨o',es,ep,ho',hd',_⟩,_⟩:=I.loc
 rw [z,ho'] at ho; cases ho; rw [hd'] at hd; cases hd
theorem Inv.funs (I:Inv X pins σ H s):s.heap.FunFrames X.base X.outer:=by
 have all:∀ (l:List Env),(∀ b ∈ frs l,b ∈ X.fs)→X.s₀.heap.FunFrames X.base l→s.heap.FunFrames X.base l:=by
  intro l
  induction l with
  | nil=>intro _ _; trivial
  | cons env r ih =>
   intro hs hl
   obtain ⟨hk,⟨L,o,hf,hn,ho,hd⟩,hr⟩:=hl
   have hL:L ∈ X.fs:=hs L (by unfold frs; rw [List.filterMap_cons,hf]; exact List.mem_cons_self)
   obtain ⟨sl,e⟩:=I.base.slot L o ho (I.ok.frf L hL) hL fun z=>I.ok.exfs L z hL
   exact ⟨hk,⟨L,_,hf,hn,e,hd⟩,ih (fun b hb=>hs b (by unfold frs; rw [List.filterMap_cons,hf]; exact List.mem_cons_of_mem _ hb)) hr⟩
 exact all X.outer (fun _ hb=>hb) I.ok.funs
theorem Inv.stack (I:Inv X pins σ H s):s.heap.FunFrames X.base X.stack:=by
 rcases I.ok.stk with e | ⟨e,hf⟩
 ·rw [e]; exact I.funs
 ·rw [e]
  obtain ⟨m,hn,_⟩:=I.loc
  refine .cons (by rw [I.ok.kind]; decide) hf hn ?_ I.funs
  exact Heap.get?_none_of_le (Nat.le_trans I.ok.bsz I.ok.above)
theorem Inv.stkSub (I:Inv X pins σ H s):∀ b ∈ frs X.stack,b ∈ X.env.locals :: X.fs:=fun b hb=>by
 rcases I.ok.stk with e | ⟨e,hf⟩
 ·rw [e] at hb; exact List.mem_cons_of_mem _ hb
 ·rw [e] at hb
  unfold frs at hb
  rw [List.filterMap_cons,hf] at hb
  exact hb
theorem Inv.stkFree (I:Inv X pins σ H s):∀ b ∈ frs X.stack,H b=none:=fun b hb=>by
 rcases List.mem_cons.mp (I.stkSub b hb) with e | hb
 ·rw [e]; exact I.free
 ·obtain ⟨_,o,ho,_⟩:=I.ok.funs.mem hb
  exact I.base.free b o ho (I.ok.frf b hb) fun z=>I.ok.exfs b z hb
theorem Inv.step {g':Array GenState} {t':Nat} {d':Drawn} {ch:List Addr} (I:Inv X pins σ H s)
  (hch:∀ b ∈ ch,(b ∈ X.ex∨X.s₀.heap.objs.size ≤ b)∧b ≠ X.env.locals∧(∀ x c,X.env.cells.lookup x=some c→c ≠ b)∧∀ p ∈ X.pn ++ pins,p.1 ≠ b)
  (keep:∀ b o,b ≠ X.env.locals→b ∉ X.fs→b ∉ ch→s.heap.get? b=some o→H b=none→h'.get? b=some o)
  (slot:∀ b o,b ≠ X.env.locals→b ∈ X.fs→b ∉ ch→s.heap.get? b=some o→H b=none→∃ sl,h'.get? b=some { o with slots:=sl }) (free:∀ b o,b ∉ ch→s.heap.get? b=some o→H b=none→H' b=none)
  (there:∀ b o,b ∉ ch→s.heap.get? b=some o→∃ o',h'.get? b=some o')
  (tups:∀ b xs,H b=some (.tup xs)→H' b=some (.tup xs)) (frzs:∀ b o u,H b=some (.frz o u)→H' b=some (.frz o u)) (tbls:∀ b ps,H b=some (.tbl ps)→∃ more,H' b=some (.tbl (ps ++ more)))
  (ns:∀ m,s.heap.Ns X.env.locals m→h'.Ns X.env.locals m) (hok:HOk X.prog X.w H' h') (hg:AllBare g') :
  Inv X pins σ H' { s with heap:=h',gens:=g',drawn:=d',toks:=t' }:=by
 have neL:∀ b o,X.s₀.heap.get? b=some o→b ≠ X.env.locals:=fun b o e=>Nat.ne_of_lt (Nat.lt_of_lt_of_le (Heap.lt_size e) I.ok.above)
 have neC:∀ b o,X.s₀.heap.get? b=some o→b ∉ X.ex→b ∉ ch:=fun b o e hx hb=>by
  rcases (hch b hb).1 with z | z
  ·exact hx z
  ·exact absurd (Nat.lt_of_lt_of_le (Heap.lt_size e) z) (Nat.lt_irrefl _)
 have cellK:∀ x c,X.env.cells.lookup x=some c→∀ v,s.heap.IsCell c v→h'.IsCell c v:=fun x c e v ⟨o,ho,hd⟩=>by
  have nch:c ∉ ch:=fun z=>(hch c z).2.2.1 x c e rfl
  by_cases hc:c ∈ X.fs
  ·obtain ⟨sl,q⟩:=slot c o (I.cne x c e) hc nch ho (I.freeC x c e)
   exact ⟨_,q,hd⟩
  ·exact ⟨o,keep c o (I.cne x c e) hc nch ho (I.freeC x c e),hd⟩
 refine ⟨I.ok,I.os,hg,⟨fun b o e n hb hx=>?_,fun b o e n hb hx=>?_,fun b o e n hx=>?_,fun b o e hx=>?_,fun b xs e=>tups b xs (I.base.tups b xs e),fun b o xs e=>frzs b o xs (I.base.frzs b o xs e),fun b ps e=>?_⟩,?_,fun x c e=>?_,?_,fun x c e=>?_,fun p hp=>?_,hok,I.len⟩
 ·exact keep b o (neL b o e) hb (neC b o e hx) (I.base.keep b o e n hb hx) (I.base.free b o e n hx)
 ·obtain ⟨sl,e1⟩:=I.base.slot b o e n hb hx
  obtain ⟨sl',e2⟩:=slot b _ (neL b o e) hb (neC b o e hx) e1 (I.base.free b o e n hx)
  exact ⟨sl',e2⟩
 ·obtain ⟨o',e1⟩:=I.base.there b o e hx
  exact free b o' (neC b o e hx) e1 (I.base.free b o e n hx)
 ·obtain ⟨o',e1⟩:=I.base.there b o e hx
  exact there b o' (neC b o e hx) e1
 ·obtain ⟨m1,e1⟩:=I.base.tbls b ps e
  obtain ⟨m2,e2⟩:=tbls b _ e1
  exact ⟨m1 ++ m2,by rw [e2,Array.append_assoc]⟩
 ·obtain ⟨m,hn,hl⟩:=I.loc
  refine ⟨m,ns m hn,fun i x v e1 e2 e3=>?_⟩
  obtain ⟨u,r,l⟩:=hl i x v e1 e2 e3
  refine ⟨u,r,?_⟩
  rcases l with l | ⟨k,c,e,z⟩
  ·exact .inl l
  ·exact .inr ⟨k,c,e,cellK x c e _ z⟩
 ·obtain ⟨v,z⟩:=I.cell x c e
  exact ⟨v,cellK x c e v z⟩
 ·obtain ⟨m,⟨o,_,_,ho,_⟩,_⟩:=I.loc
  exact free _ o (fun z=>(hch _ z).2.1 rfl) ho I.free
 ·obtain ⟨v,o,ho,hd⟩:=I.cell x c e
  exact free c o (fun z=>(hch c z).2.2.1 x c e rfl) ho (I.freeC x c e)
 ·obtain ⟨e,n,ne,nf,d⟩:=I.pin p hp
  have nch:p.1 ∉ ch:=fun z=>(hch p.1 z).2.2.2 p hp rfl
  exact ⟨keep p.1 p.2 ne nf nch e n,free p.1 p.2 nch e n,ne,nf,d⟩
theorem Inv.un {t':Nat} (I:Inv X pins σ H s) (u:Un X.fs [] H H' s.heap h') (hok:HOk X.prog X.w H' h'):Inv X pins σ H' { s with heap:=h',toks:=t' }:=by
 obtain ⟨m,⟨o,es,ep,ho,r⟩,_⟩:=id I.loc
 obtain ⟨sl,hL⟩:=u.any ho I.free (by simp)
 exact I.step (g':=s.gens) (d':=s.drawn) (ch:=[]) (fun _ z=>nomatch z) (fun b o _ hb _ e n=>u.keep b o e n hb (by simp)) (fun b o _ hb _ e n=>u.slot b o e n hb (by simp)) (fun b o _ e n=>u.free b o e n (by simp)) (fun b o _ e=>u.there b o e (by simp)) u.tups u.frzs u.tbls (fun m' hm=>by
  obtain ⟨o',es',ep',ho',r'⟩:=hm
  rw [ho] at ho'; cases ho'
  exact ⟨_,es',ep',hL,r'⟩) hok I.bare
theorem Inv.call {g':Array GenState} {t':Nat} {d':Drawn} {ch:List Addr} (I:Inv X pins σ H s) (u:Un (frs X.stack) ch H H' s.heap h') (hok:HOk X.prog X.w H' h') (hg:AllBare g')
  (hch:∀ b ∈ ch,(b ∈ X.ex∨X.s₀.heap.objs.size ≤ b)∧b ≠ X.env.locals∧(∀ x c,X.env.cells.lookup x=some c→c ≠ b)∧∀ p ∈ X.pn ++ pins,p.1 ≠ b) :
  Inv X pins σ H' { s with heap:=h',gens:=g',drawn:=d',toks:=t' }:=by
 obtain ⟨m,⟨o,es,ep,ho,r⟩,_⟩:=id I.loc
 obtain ⟨sl,hL⟩:=u.any ho I.free fun z=>(hch _ z).2.1 rfl
 exact I.step (ch:=ch) hch (fun b o hL hb hc e n=>u.keep b o e n (fun z=>(List.mem_cons.mp (I.stkSub b z)).elim hL hb) hc) (fun b o _ _ hc e n=>u.any e n hc) (fun b o hc e n=>u.free b o e n hc) (fun b o hc e=>u.there b o e hc) u.tups u.frzs u.tbls (fun m' hm=>by
  obtain ⟨o',es',ep',ho',r'⟩:=hm
  rw [ho] at ho'; cases ho'
  exact ⟨_,es',ep',hL,r'⟩) hok hg
theorem Inv.turned {t':Nat} {it:Addr} (I:Inv X pins σ H s) (k:∀ b o,b ≠ it→s.heap.get? b=some o→h'.get? b=some o) (hn:H it=none) (hL:it ≠ X.env.locals)
  (h1:it ∈ X.ex∨X.s₀.heap.objs.size ≤ it) (h2:∀ x c,X.env.cells.lookup x=some c→c ≠ it) (h3:∀ p ∈ X.pn ++ pins,p.1 ≠ it):Inv X pins σ H { s with heap:=h',toks:=t' }:=by
 have nit:∀ b u,H b=some u→b ≠ it:=fun b u e z=>by rw [z,hn] at e; cases e
 refine I.step (g':=s.gens) (d':=s.drawn) (ch:=[it]) (fun b hb=>?_) (fun b o _ _ hc e _=>k b o (fun z=>hc (by simp [z])) e) (fun b o _ _ hc e _=>⟨o.slots,k b o (fun z=>hc (by simp [z])) e⟩) (fun _ _ _ _ n=>n)
  (fun b o hc e=>⟨o,k b o (fun z=>hc (by simp [z])) e⟩) (fun _ _ e=>e) (fun _ _ _ e=>e) (fun b ps e=>⟨#[],by rw [e]; simp⟩) (fun m hm=>?_) (fun b u e=>?_) I.bare
 ·have e:b=it:=by simpa using hb
  subst e
  exact ⟨h1,hL,h2,h3⟩
 ·obtain ⟨o,es,ep,ho,r⟩:=hm
  exact ⟨o,es,ep,k _ o (Ne.symm hL) ho,r⟩
 ·refine (I.hok b u e).stay (fun c v hc q=>k c v ?_ q) (fun _ q=>q) fun _ _ q=>q
  rcases hc with z | z
  ·rw [z]; exact nit b u e
  ·exact nit c _ z
theorem Inv.tok (I:Inv X pins σ H s) (t:Nat):Inv X pins σ H { s with toks:=t }:=I.un (h':=s.heap) (t':=t) Un.refl I.hok
theorem Inv.kept {t':Nat} (I:Inv X pins σ H s) (k:∀ b u,s.heap.get? b=some u→h'.get? b=some u):Inv X pins σ H { s with heap:=h',toks:=t' }:=I.un (Un.kept k) (I.hok.kept k)
theorem Inv.laid {a:Addr} {o:HO} {t':Nat} (I:Inv X pins σ H s) (k:∀ b u,s.heap.get? b=some u→h'.get? b=some u) (hp:s.heap.objs.size ≤ a) (new:ObjOk X.prog X.w (upd H a o) h' a o) :
  Inv X pins σ (upd H a o) { s with heap:=h',toks:=t' }:=I.un (Un.laid k hp (I.hok.fresh hp)) (I.hok.laid k hp new)
theorem Inv.write {x e:Addr} {o:HO} {t':Nat} (I:Inv X pins σ H s) (mu:Mut (H x)) (he:e=x∨H e=some (.own x)) (k:∀ b u,b ≠ e→s.heap.get? b=some u→h'.get? b=some u) (heo:∃ u,h'.get? e=some u)
  (new:ObjOk X.prog X.w (upd H x o) h' x o):Inv X pins σ (upd H x o) { s with heap:=h',toks:=t' }:=I.un (Un.write mu he k heo) (I.hok.write mu he k heo new)
theorem Inv.weak {σ':List (Option V)} (I:Inv X pins σ H s) (hl:σ'.length=σ.length) (w:∀ (i:Nat) v,σ'[i]? = some (some v)→σ[i]? = some (some v)):Inv X pins σ' H s :=
 ⟨I.ok,I.os,I.bare,I.base,let ⟨m,hn,hl'⟩:=I.loc; ⟨m,hn,fun i x v e1 e2 e3=>hl' i x v e1 (w i v e2) e3⟩,I.cell,I.free,I.freeC,I.pin,I.hok,hl.trans I.len⟩
theorem Inv.pins_of {pins':List (Addr×Obj)} (I:Inv X pins σ H s) (h:∀ p ∈ pins',s.heap.get? p.1=some p.2∧H p.1=none∧p.1 ≠ X.env.locals∧p.1 ∉ X.fs∧∀ v,p.2.data ≠ .cell v):Inv X pins' σ H s :=
 ⟨I.ok,I.os,I.bare,I.base,I.loc,I.cell,I.free,I.freeC,fun p hp=>(List.mem_append.mp hp).elim (fun z=>I.pin p (List.mem_append_left _ z)) (h p),I.hok,I.len⟩
theorem nodup_ix {N:List Str} (hN:N.Nodup) {i j:Nat} {x:Str} (a:N[i]? = some x) (b:N[j]? = some x):i=j:=by
 obtain ⟨h1,e1⟩:=List.getElem?_eq_some_iff.mp a
 obtain ⟨h2,e2⟩:=List.getElem?_eq_some_iff.mp b
 exact (List.getElem_inj hN).mp (e1.trans e2.symm)
theorem store_ok2 {M:Model} {A:Around} {E:Value→Shared→Prop} {i:Nat} {x:Str} {v:V} {u:Value} {Q:Unit→Shared→Prop} (I:Inv X pins σ H s) (hN:X.N.Nodup) (hi:X.N[i]? = some x) (hx:Loc X.env.scope x) (r:RelV v u)
  (h:∀ s',Inv X pins (σ.set i (some v)) H s'→(∃ a,Heap.SameBut a s.heap s'.heap∧(a=X.env.locals∨X.env.cells.lookup x=some a))→Q () s') (hf:X.fn x=true∨X.env.scope.names.lookup x=some .local:=by first | exact .inl rfl | exact .inr rfl | assumption):wpAny M A (storeName X.env x u) Q E s:=by
 obtain ⟨m,hn,hl⟩:=id I.loc
 have hcls:(X.env.scope.kind == .class || (X.env.scope.kind == .module && X.env.locals != X.env.globals))=false:=by rw [I.ok.kind]; rfl
 have hiσ:i < σ.length:=by rw [I.len]; exact (List.getElem?_eq_some_iff.mp hi).1
 have cne:=I.cne
 have tracked:∀ {a:Addr} {h':Heap},(∃ o,s.heap.get? a=some o∧H a=none)→Heap.SameBut a s.heap h'→HOk X.prog X.w H h':=fun {a h'} ha hs b ob e=>by
  obtain ⟨_,_,hfree⟩:=ha
  refine (I.hok b ob e).stay (fun c w' hc q=>(hs.2 c ?_).trans q) (fun _ q=>q) fun _ _ q=>q
  rintro rfl
  rcases hc with rfl | hc
  ·rw [hfree] at e; cases e
  ·rw [hfree] at hc; cases hc
 rcases hx with hk | hk
 ·refine wpAny_storeName_local hk hn (fun h' hn' hs=>?_) hcls
  obtain ⟨oL,_,_,hoL,_⟩:=id hn
  refine h _ ⟨I.ok,I.os,I.bare,⟨fun b o e n hb hx=>?_,fun b o e n hb hx=>?_,I.base.free,fun b o e hx=>?_,I.base.tups,I.base.frzs,I.base.tbls⟩,⟨_,hn',fun j y v' e1 e2 e3=>?_⟩,fun y c e=>?_,I.free,I.freeC,fun p hp=>?_,tracked ⟨oL,hoL,I.free⟩ hs,by simpa using I.len⟩ ⟨_,hs,.inl rfl⟩
  ·exact (hs.2 b (Nat.ne_of_lt (Nat.lt_of_lt_of_le (Heap.lt_size e) I.ok.above))).trans (I.base.keep b o e n hb hx)
  ·obtain ⟨sl,e1⟩:=I.base.slot b o e n hb hx
   exact ⟨sl,(hs.2 b (Nat.ne_of_lt (Nat.lt_of_lt_of_le (Heap.lt_size e) I.ok.above))).trans e1⟩
  ·obtain ⟨o',e1⟩:=I.base.there b o e hx
   exact ⟨o',(hs.2 b (Nat.ne_of_lt (Nat.lt_of_lt_of_le (Heap.lt_size e) I.ok.above))).trans e1⟩
  ·by_cases hj:j=i
   ·subst hj
    rw [hi] at e1; cases e1
    rw [List.getElem?_set_self hiσ] at e2
    cases e2
    exact ⟨u,r,.inl ⟨hk,by simp⟩⟩
   ·rw [List.getElem?_set_ne (Ne.symm hj)] at e2
    obtain ⟨u',r',q⟩:=hl j y v' e1 e2 e3
    refine ⟨u',r',?_⟩
    rcases q with ⟨k,e⟩ | ⟨k,c,e,z⟩
    ·refine .inl ⟨k,?_⟩
     have:y ≠ x:=fun e=>hj (nodup_ix hN e1 (e ▸ hi))
     simp [this,e]
    ·exact .inr ⟨k,c,e,z.sameBut hs (cne y c e)⟩
  ·obtain ⟨w',z⟩:=I.cell y c e
   exact ⟨w',z.sameBut hs (cne y c e)⟩
  ·obtain ⟨e,n,ne,nf,d⟩:=I.pin p hp
   exact ⟨(hs.2 p.1 ne).trans e,n,ne,nf,d⟩
 ·have hfn:X.fn x=true:=by
   rcases hf with z | z
   ·exact z
   ·rw [z] at hk; cases hk
  obtain ⟨c,hc⟩:=I.ok.has x (.inl hk)
  obtain ⟨w',z⟩:=I.cell x c hc
  refine wpAny_storeName_cell I.ok.kind hk hc z (fun h' hc' hs=>?_)
  obtain ⟨oc,hoc,hocd⟩:=id z
  refine h { s with heap:=h' } ⟨I.ok,I.os,I.bare,⟨fun b o e n hb hx=>?_,fun b o e n hb hx=>?_,I.base.free,fun b o e hx=>?_,I.base.tups,I.base.frzs,I.base.tbls⟩,⟨m,hn.sameBut hs (Ne.symm (cne x c hc)),fun j y v' e1 e2 e3=>?_⟩,fun y c' e=>?_,I.free,I.freeC,fun p hp=>?_,tracked ⟨oc,hoc,I.freeC x c hc⟩ hs,by simpa using I.len⟩ ⟨c,hs,.inr hc⟩
  ·exact (hs.2 b (Nat.ne_of_lt (Nat.lt_of_lt_of_le (Heap.lt_size e) (I.ok.cab x c hfn hc)))).trans (I.base.keep b o e n hb hx)
  ·obtain ⟨sl,e1⟩:=I.base.slot b o e n hb hx
   exact ⟨sl,(hs.2 b (Nat.ne_of_lt (Nat.lt_of_lt_of_le (Heap.lt_size e) (I.ok.cab x c hfn hc)))).trans e1⟩
  ·obtain ⟨o',e1⟩:=I.base.there b o e hx
   exact ⟨o',(hs.2 b (Nat.ne_of_lt (Nat.lt_of_lt_of_le (Heap.lt_size e) (I.ok.cab x c hfn hc)))).trans e1⟩
  ·by_cases hj:j=i
   ·subst hj
    rw [hi] at e1; cases e1
    rw [List.getElem?_set_self hiσ] at e2
    cases e2
    exact ⟨u,r,.inr ⟨.inl hk,c,hc,hc'⟩⟩
   ·rw [List.getElem?_set_ne (Ne.symm hj)] at e2
    obtain ⟨u',r',q⟩:=hl j y v' e1 e2 e3
    refine ⟨u',r',?_⟩
    rcases q with q | ⟨k,c',e,z'⟩
    ·exact .inl q
    ·refine .inr ⟨k,c',e,z'.sameBut hs ?_⟩
     rintro rfl
     exact hj (nodup_ix hN e1 (I.ok.inj _ _ _ e hc ▸ hi))
  ·by_cases hcc:c'=c
   ·subst hcc; exact ⟨_,hc'⟩
   ·obtain ⟨w2,z2⟩:=I.cell y c' e
    exact ⟨w2,z2.sameBut hs hcc⟩
  ·obtain ⟨e,n,ne,nf,d⟩:=I.pin p hp
   refine ⟨(hs.2 p.1 ?_).trans e,n,ne,nf,d⟩
   intro q
   rw [q,hoc] at e
   have q':oc=p.2:=Option.some.inj e
   exact d w' (by rw [← q']; exact hocd)
theorem store_ok {M:Model} {A:Around} {E:Value→Shared→Prop} {i:Nat} {x:Str} {v:V} {u:Value} {Q:Unit→Shared→Prop} (I:Inv X pins σ H s) (hN:X.N.Nodup) (hi:X.N[i]? = some x) (hx:Loc X.env.scope x) (r:RelV v u)
  (h:∀ s',Inv X pins (σ.set i (some v)) H s'→Q () s') (hf:X.fn x=true∨X.env.scope.names.lookup x=some .local:=by first | exact .inl rfl | exact .inr rfl | assumption):wpAny M A (storeName X.env x u) Q E s :=
 store_ok2 I hN hi hx r (fun s' I' _=>h s' I') hf
theorem Inv.call' {s':Shared} {ch:List Addr} (I:Inv X pins σ H s) (ho:s'.os=s.os) (u:Un (frs X.stack) ch H H' s.heap s'.heap) (hok:HOk X.prog X.w H' s'.heap) (hg:AllBare s'.gens)
  (hch:∀ b ∈ ch,(b ∈ X.ex∨X.s₀.heap.objs.size ≤ b)∧b ≠ X.env.locals∧(∀ x c,X.env.cells.lookup x=some c→c ≠ b)∧∀ p ∈ X.pn ++ pins,p.1 ≠ b):Inv X pins σ H' s':=by
 obtain ⟨h',g',d',t',o'⟩:=s'
 have e:o'=s.os:=ho
 subst e
 exact I.call (g':=g') (t':=t') (d':=d') u hok hg hch
end
abbrev XK:=Value→Option Addr→Hp→Prop
abbrev St:=List (Option V)
abbrev VK:=V→Hp→Prop
abbrev TE:=St→Hp→VK→Prop
abbrev TT:=St→Hp→(Bool→Hp→Prop)→Prop
abbrev TA:=St→Hp→(List V→Hp→Prop)→Prop
structure Ends where
 nx:St→Hp→Prop
 rt:VK
 bk:St→Hp→Prop:=fun _ _=>False
 ct:St→Hp→Prop:=fun _ _=>False
abbrev TS:=Ends→St→Hp→Prop
def EP (X:Cx) (pins:List (Addr×Obj)) (σ:St) (Q:VK) (u:Value) (s':Shared):Prop:=∃ v H',Inv X pins σ H' s'∧RelV v u∧Q v H'
def TP (X:Cx) (pins:List (Addr×Obj)) (σ:St) (Q:Bool→Hp→Prop) (b:Bool) (s':Shared):Prop:=∃ H',Inv X pins σ H' s'∧Q b H'
def AP (X:Cx) (pins:List (Addr×Obj)) (σ:St) (Q:List V→Hp→Prop) (us:List Value) (s':Shared):Prop:=∃ vs H',Inv X pins σ H' s'∧Vals vs us∧Q vs H'
def SP (X:Cx) (pins:List (Addr×Obj)) (D:Ends) (f:Flow) (s':Shared):Prop :=
 match f with
 | .next=>∃ σ' H',Inv X pins σ' H' s'∧D.nx σ' H'
 | .brk=>∃ σ' H',Inv X pins σ' H' s'∧D.bk σ' H'
 | .cont=>∃ σ' H',Inv X pins σ' H' s'∧D.ct σ' H'
 | .ret u=>∃ v σ' H',Inv X pins σ' H' s'∧RelV v u∧D.rt v H'
def PE (X:Cx) (e:Expr) (t:TE):Prop :=
 ∀ (pins:List (Addr×Obj)) (s:Shared) (σ:St) (H:Hp) (Q:VK),Inv X pins σ H s→t σ H Q→wpAny (model X.prog X.w) X.A (eval e X.env) (EP X pins σ Q) X.xe s
def PT (X:Cx) (e:Expr) (t:TT):Prop :=
 ∀ (pins:List (Addr×Obj)) (s:Shared) (σ:St) (H:Hp) (Q:Bool→Hp→Prop),Inv X pins σ H s→t σ H Q→wpAny (model X.prog X.w) X.A (isTrue e X.env (eval e X.env)) (TP X pins σ Q) X.xe s
def PW (X:Cx) (e:Expr) (t:TT):Prop :=
 ∀ (whole:Sem Value) (pins:List (Addr×Obj)) (s:Shared) (σ:St) (H:Hp) (Q:Bool→Hp→Prop),Inv X pins σ H s→t σ H Q→wpAny (model X.prog X.w) X.A (isTrue e X.env whole) (TP X pins σ Q) X.xe s
theorem PW.pt {X:Cx} {e:Expr} {t:TT} (h:PW X e t):PT X e t:=h _
def PA (X:Cx) (es:List Expr) (t:TA):Prop :=
 ∀ (pos:Pos) (pins:List (Addr×Obj)) (s:Shared) (σ:St) (H:Hp) (Q:List V→Hp→Prop),Inv X pins σ H s→t σ H Q→wpAny (model X.prog X.w) X.A (spliced (backTo pos (starEach es X.env))) (AP X pins σ Q) X.xe s
def PS (X:Cx) (st:Stmt) (t:TS):Prop :=
 ∀ (pins:List (Addr×Obj)) (s:Shared) (σ:St) (H:Hp) (D:Ends),Inv X pins σ H s→t D σ H→wpAny (model X.prog X.w) X.A (exec st X.env) (SP X pins D) X.xe s
def PSs (X:Cx) (st:List Stmt) (t:TS):Prop :=
 ∀ (pins:List (Addr×Obj)) (s:Shared) (σ:St) (H:Hp) (D:Ends),Inv X pins σ H s→t D σ H→wpAny (model X.prog X.w) X.A (execs st X.env) (SP X pins D) X.xe s
theorem thn {α:Type} {t:Sem α} {Q Q':α→Shared→Prop} {M:Model} {A:Around} {E:Value→Shared→Prop} {s:Shared} (h:wpAny M A t Q E s) (hQ:∀ a s,Q a s→Q' a s):wpAny M A t Q' E s:=wpAny_mono h hQ fun _ _ x=>x
end L2
namespace L2
open PySem PySem.Spec PyProof.Rows
section
variable {X:Cx}
theorem bin {a b:Expr} {ta tb:TE} (ha:PE X a ta) (hb:PE X b tb) {pins:List (Addr×Obj)} {s:Shared} {σ:St} {H:Hp} {R:V→V→Hp→Prop} (I:Inv X pins σ H s) (h:ta σ H fun x H1=>tb σ H1 fun y H2=>R x y H2)
  {α:Type} {Q:α→Shared→Prop} {f:Value→Value→Sem α}
  (hf:∀ v u s2 x y H2,Inv X pins σ H2 s2→RelV x v→RelV y u→R x y H2→wpAny (model X.prog X.w) X.A (f v u) Q X.xe s2) :
  wpAny (model X.prog X.w) X.A (eval a X.env) (fun v s₁=>wpAny (model X.prog X.w) X.A (eval b X.env) (fun u s₂=>wpAny (model X.prog X.w) X.A (f v u) Q X.xe s₂) X.xe s₁) X.xe s:=by
 refine thn (ha pins s σ H _ I h) fun v s1 ⟨x,H1,I1,r1,q1⟩=>?_
 refine thn (hb pins s1 σ H1 _ I1 q1) fun u s2 ⟨y,H2,I2,r2,q2⟩=>?_
 exact hf v u s2 x y H2 I2 r1 r2 q2
def tVar (i:Nat):TE:=fun σ H Q=>∃ v,σ[i]? = some (some v)∧Q v H
def tC (v:V):TE:=fun _ H Q=>Q v H
theorem pe_var {i:Nat} {x:Str} {pos:Pos} (hN:X.N[i]? = some x) (hv:Vis X.env.scope x) (hd:(x == ("__debug__" : Str))=false:=by decide) (hcd:(x == ("__classdict__" : Str))=false:=by decide):PE X (.Name x pos) (tVar i):=by
 intro pins s σ H Q I h
 obtain ⟨v,e,h⟩:=h
 obtain ⟨m,hn,hl⟩:=I.loc
 obtain ⟨u,r,l⟩:=hl i x v hN e hv
 have fin:EP X pins σ Q u s:=⟨v,H,I,r,h⟩
 rcases l with ⟨hk,hm⟩ | ⟨hk,c,hc,hcell⟩
 ·exact wpAny_Name (wpAny_loadName_local I.ok.kind hk hn hm fin) hd
 ·rcases hk with hk | hk
  ·exact wpAny_Name (wpAny_loadName_cell I.ok.kind hk hc hcell fin) hd
  ·exact wpAny_Name (wpAny_loadName_free I.ok.kind hk hc hcell fin hcd) hd
theorem pe_int {i j pos}:PE X (.Constant (.int i) j pos) (tC (.int i)):=fun _ _ _ H _ I h=>wpAny_Constant_int ⟨.int i,H,I.tok _,⟨_,rfl⟩,h⟩
theorem pe_bl {b j pos}:PE X (.Constant (.bool b) j pos) (tC (.bl b)):=fun _ _ _ H _ I h=>Constant_bool ⟨.bl b,H,I,rfl,h⟩
theorem pe_non {j pos}:PE X (.Constant .none j pos) (tC .non):=fun _ _ _ H _ I h=>Constant_none ⟨.non,H,I,rfl,h⟩
theorem pe_str {x j pos}:PE X (.Constant (.str x) j pos) (tC (.str x)):=fun _ _ _ H _ I h=>Calls.Constant_str ⟨.str x,H,I.tok _,⟨_,rfl⟩,h⟩
def Gl (X:Cx) (x:Str):Prop:=X.env.kindOf x=some .globalImplicit
theorem ld_glob {E:Value→Shared→Prop} {pins:List (Addr×Obj)} {s:Shared} {σ:St} {H:Hp} {x:Str} {u:Value} {pos:Pos} {Q:Value→Shared→Prop} (I:Inv X pins σ H s) (hg:Gl X x) (hm:X.mg x=some u) (h:Q u s)
  (hd:(x == ("__debug__" : Str))=false:=by decide):wpAny (model X.prog X.w) X.A (eval (.Name x pos) X.env) Q E s :=
 Calls.Name_function_global I.ok.kind hg (Calls.loadGlobal_global (by rw [I.ok.glob]; exact I.mod.glob.keeps I.bk) hm h) hd
theorem ld_blt {E:Value→Shared→Prop} {pins:List (Addr×Obj)} {s:Shared} {σ:St} {H:Hp} {x:Str} {u:Value} {pos:Pos} {Q:Value→Shared→Prop} (I:Inv X pins σ H s) (hg:Gl X x) (hm:X.mg x=none) (hv:bootBuiltins x=some u) (h:Q u s)
  (hn:x ≠ "__name__" := by decide) (hd:(x == ("__debug__" : Str))=false:=by decide):wpAny (model X.prog X.w) X.A (eval (.Name x pos) X.env) Q E s:=by
 obtain ⟨mb,h1,h2⟩:=I.mod.blt
 exact Calls.Name_function_global I.ok.kind hg (Calls.loadGlobal_builtin (by rw [I.ok.glob]; exact I.mod.glob.keeps I.bk) hm (by rw [I.ok.blt]; exact h1.keeps I.bk) ((h2 x hn).trans hv) h) hd
theorem pe_glob {x:Str} {v:V} {u:Value} {pos:Pos} (hg:Gl X x) (hm:X.mg x=some u) (r:RelV v u) (hd:(x == ("__debug__" : Str))=false:=by decide):PE X (.Name x pos) (tC v) :=
 fun _ _ _ H _ I h=>ld_glob I hg hm ⟨v,H,I,r,h⟩ hd
theorem pe_bltn {x:Str} {v:V} {u:Value} {pos:Pos} (hg:Gl X x) (hm:X.mg x=none) (hv:bootBuiltins x=some u) (r:RelV v u) (hn:x ≠ "__name__" := by decide) (hd:(x == ("__debug__" : Str))=false:=by decide):PE X (.Name x pos) (tC v) :=
 fun _ _ _ H _ I h=>ld_blt I hg hm hv ⟨v,H,I,r,h⟩ hn hd
def t2I (ta tb:TE) (k:Int→Int→Hp→Prop):St→Hp→Prop:=fun σ H=>ta σ H fun x H1=>tb σ H1 fun y H2=>∃ i j,x=.int i∧y=.int j∧k i j H2
def tAdd (ta tb:TE):TE:=fun σ H Q=>t2I ta tb (fun i j H2=>Q (.int (i + j)) H2) σ H
def tSub (ta tb:TE):TE:=fun σ H Q=>t2I ta tb (fun i j H2=>Q (.int (i - j)) H2) σ H
def tMul (ta tb:TE):TE:=fun σ H Q=>t2I ta tb (fun i j H2=>(-(2 ^ 64) < i∧i < 2 ^ 64)∧Q (.int (i * j)) H2) σ H
variable {a b:Expr} {ta tb:TE} {pos:Pos}
def PC (X:Cx) (op:CmpOp) (a b:Expr) (t:TE):Prop :=
 ∀ (pins:List (Addr×Obj)) (s:Shared) (σ:St) (H:Hp) (Q:VK),Inv X pins σ H s→t σ H Q →
  wpAny (model X.prog X.w) X.A (eval a X.env) (fun v s₁=>wpAny (model X.prog X.w) X.A (eval b X.env) (fun u s₂=>wpAny (model X.prog X.w) X.A (compareOp op v u) (EP X pins σ Q) X.xe s₂) X.xe s₁) X.xe s
def tCmp (p:Int→Int→Bool) (ta tb:TE):TE:=fun σ H Q=>t2I ta tb (fun i j H2=>Q (.bl (p i j)) H2) σ H
abbrev tLt:TE→TE→TE:=tCmp fun i j=>decide (i < j)
abbrev tLe:TE→TE→TE:=tCmp fun i j=>decide (i ≤ j)
abbrev tGt:TE→TE→TE:=tCmp fun i j=>decide (j < i)
abbrev tGe:TE→TE→TE:=tCmp fun i j=>decide (j ≤ i)
abbrev tEqI:TE→TE→TE:=tCmp fun i j=>decide (i=j)
abbrev tNeI:TE→TE→TE:=tCmp fun i j=>!decide (i=j)
def tIsN (ta:TE):TE:=fun σ H Q=>ta σ H fun x H1=>Q (.bl (decide (x=.non))) H1
def tNotN (ta:TE):TE:=fun σ H Q=>ta σ H fun x H1=>Q (.bl (!decide (x=.non))) H1
def tB (t:TE):TT:=fun σ H Q=>t σ H fun x H1=>∃ c,x=.bl c∧Q c H1
theorem pt_cmp {op:CmpOp} {t:TE} (h:PC X op a b t) (h1:behindInMarks op b=false:=by first | exact nobehind _ (by decide) (by decide) | rfl):PT X (.Compare a [op] [b] pos) (tB t):=by
 intro pins s σ H Q I hw
 refine wpAny_isTrue_Compare1 (thn (h pins s σ H _ I hw) fun v s1 h1=>thn h1 fun u s2 h2=>thn h2 fun c s3 ⟨x,H1,I1,r1,q1⟩=>?_) h1
 obtain ⟨d,rfl,q⟩:=q1
 cases r1
 exact wpAny_truthy_bool ⟨H1,I1,q⟩
theorem pt_val {e:Expr} {t:TE} (h:PE X e t) (he:∀ whole,isTrue e X.env whole=(do let v ← whole; standAt e.pos; holding [v] (truthy v)):=by intro _; rfl):PT X e (tB t):=by
 intro pins s σ H Q I hw
 refine isTrue_plain (thn (h pins s σ H _ I hw) fun v s1 ⟨x,H1,I1,r1,q1⟩=>?_) (he _)
 obtain ⟨d,rfl,q⟩:=q1
 cases r1
 exact wpAny_truthy_bool ⟨H1,I1,q⟩
variable {tA tB':TT} {rest:List Expr}
def tAnd (t u:TT):TT:=fun σ H Q=>t σ H fun c H1=>if c=true then u σ H1 Q else Q false H1
def tOr (t u:TT):TT:=fun σ H Q=>t σ H fun c H1=>if c=true then Q true H1 else u σ H1 Q
def tNot (t:TT):TT:=fun σ H Q=>t σ H fun c H1=>Q (!c) H1
theorem pw_and1 (ha:PT X a tA):PW X (.BoolOp .And [a] pos) tA:=by
 intro wh pins s σ H Q I h
 refine isTrue_and (thn (ha pins s σ H Q I h) fun c s1 e=>?_)
 cases c with
 | true=>exact isTrue_and_nil e
 | false=>exact e
theorem pw_or1 (ha:PT X a tA):PW X (.BoolOp .Or [a] pos) tA:=by
 intro wh pins s σ H Q I h
 refine isTrue_or (thn (ha pins s σ H Q I h) fun c s1 e=>?_)
 cases c with
 | false=>exact isTrue_or_nil e
 | true=>exact e
theorem pw_and (ha:PT X a tA) (hb:PW X (.BoolOp .And (b :: rest) pos) tB'):PW X (.BoolOp .And (a :: b :: rest) pos) (tAnd tA tB'):=by
 intro wh pins s σ H Q I h
 refine isTrue_and (thn (ha pins s σ H _ I h) fun c s1 ⟨H1,I1,q1⟩=>?_)
 cases c with
 | true=>exact hb wh pins s1 σ H1 Q I1 q1
 | false=>exact ⟨H1,I1,q1⟩
theorem pw_or (ha:PT X a tA) (hb:PW X (.BoolOp .Or (b :: rest) pos) tB'):PW X (.BoolOp .Or (a :: b :: rest) pos) (tOr tA tB'):=by
 intro wh pins s σ H Q I h
 refine isTrue_or (thn (ha pins s σ H _ I h) fun c s1 ⟨H1,I1,q1⟩=>?_)
 cases c with
 | true=>exact ⟨H1,I1,q1⟩
 | false=>exact hb wh pins s1 σ H1 Q I1 q1
theorem pt_not (ha:PT X a tA):PT X (.UnaryOp .Not a pos) (tNot tA):=by
 intro pins s σ H Q I h
 exact isTrue_not (ha pins s σ H (fun c H1=>Q (!c) H1) I h)
def tAndV (ta tb:TE):TE:=fun σ H Q=>ta σ H fun x H1=>∃ c,x=.bl c∧if c=true then tb σ H1 Q else Q (.bl false) H1
def tOrV (ta tb:TE):TE:=fun σ H Q=>ta σ H fun x H1=>∃ c,x=.bl c∧if c=true then Q (.bl true) H1 else tb σ H1 Q
def tNotV (ta:TE):TE:=fun σ H Q=>ta σ H fun x H1=>∃ c,x=.bl c∧Q (.bl (!c)) H1
theorem pe_one {op} {t:TE} (h:PE X a t):PE X (.BoolOp op [a] pos) t:=fun pins s σ H Q I hw=>BoolOp_one (h pins s σ H Q I hw)
theorem pe_and (ha:PE X a ta) (hb:PE X (.BoolOp .And (b :: rest) pos) tb):PE X (.BoolOp .And (a :: b :: rest) pos) (tAndV ta tb):=by
 intro pins s σ H Q I h
 refine BoolOp_and (thn (ha pins s σ H _ I h) fun v s1 ⟨x,H1,I1,r1,q1⟩=>?_)
 obtain ⟨c,rfl,q1⟩:=q1
 cases r1
 refine wpAny_truthy_bool ?_
 cases c with
 | true=>exact hb pins s1 σ H1 Q I1 q1
 | false=>exact ⟨.bl false,H1,I1,rfl,q1⟩
def tIf (t:TT) (ta tb:TE):TE:=fun σ H Q=>t σ H fun c H1=>if c=true then ta σ H1 Q else tb σ H1 Q
theorem pe_ifExp {c:Expr} (hc:PT X c tA) (ha:PE X a ta) (hb:PE X b tb):PE X (.IfExp c a b pos) (tIf tA ta tb):=by
 intro pins s σ H Q I h
 refine wpAny_IfExp (thn (hc pins s σ H _ I h) fun d s1 ⟨H1,I1,q1⟩=>?_)
 cases d with
 | true=>exact ha pins s1 σ H1 Q I1 q1
 | false=>exact hb pins s1 σ H1 Q I1 q1
end
end L2
namespace L2
open PySem PySem.Spec PyProof.Rows
def SqL (K:PySem.W.Frag) (H:Hp) (a:Addr) (xs:List V):Prop :=
 Rd H a (.lst xs) ∨
  ∃ (o:Obj) (its:Array Value) (n:Nat),K.lookup a=some o∧o.cls=.type "list" ∧ o.dict=none∧o.data=.seq its n∧its.size ≤ sizeLine∧Vals xs its.toList
def SqT (K:PySem.W.Frag) (H:Hp) (a:Addr) (xs:List V):Prop :=
 Rd H a (.tup xs) ∨
  ∃ (o:Obj) (its:Array Value) (n:Nat),K.lookup a=some o∧o.cls=.type "tuple" ∧ o.data=.seq its n∧its.size ≤ sizeLine∧Vals xs its.toList
def absV:Value→Option V
 | .none=>some .non
 | .bool b=>some (.bl b)
 | .int i _=>some (.int i)
 | .str x _=>some (.str x)
 | .bytes b _=>some (.byt b)
 | .float b _=>some (.flt b)
 | .ref a=>some (.ref a)
 | .type n=>some (.ty n)
 | _=>none
theorem RelV.abs {x:V} {u:Value} (r:RelV x u):absV u=some x:=by
 cases x with
 | non=>cases r; rfl
 | bl _=>cases r; rfl
 | int _=>obtain ⟨t,rfl⟩:=r; rfl
 | str _=>obtain ⟨t,rfl⟩:=r; rfl
 | byt _=>obtain ⟨t,rfl⟩:=r; rfl
 | flt _=>obtain ⟨t,rfl⟩:=r; rfl
 | ref _=>cases r; rfl
 | ty _=>cases r; rfl
theorem RelV.inj {x y:V} {u:Value} (r:RelV x u) (q:RelV y u):x=y:=Option.some.inj (r.abs.symm.trans q.abs)
theorem Vals.inj:∀ {xs ys:List V} {us:List Value},Vals xs us→Vals ys us→xs=ys
 | _,_,_,.nil,.nil=>rfl
 | _,_,_,.cons r t,.cons r' t'=>by rw [r.inj r',Vals.inj t t']
section
variable {X:Cx} {pins:List (Addr×Obj)} {σ:St} {H:Hp} {s:Shared} {a:Addr} {xs ys:List V}
theorem SqL.of {K:PySem.W.Frag} (h:H a=some (.lst xs)):SqL K H a xs:=.inl (.inl h)
theorem SqT.of {K:PySem.W.Frag} (h:H a=some (.tup xs)):SqT K H a xs:=.inl (.inl h)
theorem Inv.list (I:Inv X pins σ H s) (h:SqL X.K H a xs):∃ its:List Value,Vals xs its∧PlainL s.heap a its.toArray∧xs.length ≤ sizeLine:=by
 rcases h with h | ⟨o,its,n,hk,hc,hd,hs,hz,r⟩
 ·obtain ⟨z,its,n,r,e⟩:=h.ok I.hok
  exact ⟨its,r,⟨_,n,e,rfl,rfl,rfl⟩,z⟩
 ·refine ⟨its.toList,r,⟨o,n,I.kIn a o hk,hc,hd,by simpa using hs⟩,?_⟩
  have e:=r.length
  simp only [Array.length_toList] at e
  omega
theorem Inv.tuple (I:Inv X pins σ H s) (h:SqT X.K H a xs):∃ its:List Value,Vals xs its∧IsTup s.heap a its.toArray∧xs.length ≤ sizeLine:=by
 rcases h with h | ⟨o,its,n,hk,hc,hs,hz,r⟩
 ·obtain ⟨z,its,r,p⟩:=h.ok I.hok
  exact ⟨its,r,p,z⟩
 ·refine ⟨its.toList,r,⟨o,I.kIn a o hk,hc,n,by simpa using hs⟩,?_⟩
  have e:=r.length
  simp only [Array.length_toList] at e
  omega
theorem Inv.list_inj (I:Inv X pins σ H s) (h:SqL X.K H a xs) (h':SqL X.K H a ys):xs=ys:=by
 obtain ⟨its,r,⟨o,n,e,_,_,d⟩,_⟩:=I.list h
 obtain ⟨its',r',⟨o',n',e',_,_,d'⟩,_⟩:=I.list h'
 rw [e] at e'; cases e'
 rw [d] at d'
 injection d' with d1 _
 have:its=its':=by simpa using congrArg Array.toList d1
 subst this
 exact r.inj r'
theorem Inv.tuple_inj (I:Inv X pins σ H s) (h:SqT X.K H a xs) (h':SqT X.K H a ys):xs=ys:=by
 obtain ⟨its,r,⟨o,e,_,n,d⟩,_⟩:=I.tuple h
 obtain ⟨its',r',⟨o',e',_,n',d'⟩,_⟩:=I.tuple h'
 rw [e] at e'; cases e'
 rw [d] at d'
 injection d' with d1 _
 have:its=its':=by simpa using congrArg Array.toList d1
 subst this
 exact r.inj r'
end
abbrev Cx.wish (X:Cx) (E:Value→Shared→Prop):Cx:={ X with xe:=E }
abbrev Cx.nox (X:Cx):Cx:=X.wish fun _ _=>False
theorem Cx.Ok.wish {X:Cx} (ok:X.Ok) (E:Value→Shared→Prop):(X.wish E).Ok :=
 ⟨ok.mod,ok.kind,ok.glob,ok.blt,ok.above,ok.inj,ok.has,ok.cab,ok.hd,ok.frames,ok.stk,ok.exf,ok.bs,ok.bsz,ok.noex,ok.exfs,ok.funs,ok.frf⟩
theorem Cx.Ok.unwish {X:Cx} {E:Value→Shared→Prop} (ok:(X.wish E).Ok):X.Ok :=
 ⟨ok.mod,ok.kind,ok.glob,ok.blt,ok.above,ok.inj,ok.has,ok.cab,ok.hd,ok.frames,ok.stk,ok.exf,ok.bs,ok.bsz,ok.noex,ok.exfs,ok.funs,ok.frf⟩
section
variable {X:Cx} {pins:List (Addr×Obj)} {σ:St} {H:Hp} {s:Shared} {E:Value→Shared→Prop}
theorem Inv.wish (I:Inv X pins σ H s) (E:Value→Shared→Prop):Inv (X.wish E) pins σ H s:=⟨I.ok.wish E,I.os,I.bare,I.base,I.loc,I.cell,I.free,I.freeC,I.pin,I.hok,I.len⟩
theorem Inv.unwish (I:Inv (X.wish E) pins σ H s):Inv X pins σ H s:=⟨I.ok.unwish,I.os,I.bare,I.base,I.loc,I.cell,I.free,I.freeC,I.pin,I.hok,I.len⟩
theorem SP.unwish {D:Ends} {f:Flow} {s':Shared} (h:SP (X.wish E) pins D f s'):SP X pins D f s':=by
 cases f with
 | next=>obtain ⟨σ',H',I,q⟩:=h; exact ⟨σ',H',I.unwish,q⟩
 | brk=>obtain ⟨σ',H',I,q⟩:=h; exact ⟨σ',H',I.unwish,q⟩
 | cont=>obtain ⟨σ',H',I,q⟩:=h; exact ⟨σ',H',I.unwish,q⟩
 | ret u=>obtain ⟨v,σ',H',I,r,q⟩:=h; exact ⟨v,σ',H',I.unwish,r,q⟩
theorem PSs.nox {st:List Stmt} {t:TS} (h:PSs X.nox st t):PSs X st t:=fun pins s σ H D I hw =>
 wpAny_mono (h pins s σ H D (I.wish _) hw) (fun _ _ q=>q.unwish) fun _ _ z=>False.elim z
end
section
variable {X:Cx} {st:Stmt} {rest:List Stmt} {t u:TS} {e:Expr} {te:TE} {pos:Pos}
def tNext:TS:=fun D σ H=>D.nx σ H
def tSeq (t u:TS):TS:=fun D σ H=>t { D with nx:=u D } σ H
theorem pss_nil:PSs X [] tNext:=fun _ _ σ H _ I h=>wpAny_execs_nil ⟨σ,H,I,h⟩
theorem pss_cons (h1:PS X st t) (h2:PSs X rest u):PSs X (st :: rest) (tSeq t u):=by
 intro pins s σ H D I h
 refine wpAny_execs_cons (thn (h1 pins s σ H { D with nx:=u D } I h) fun f s1 q=>?_)
 cases f with
 | next =>
  obtain ⟨σ',H',I',q⟩:=q
  exact h2 pins s1 σ' H' D I' q
 | ret v=>exact q
 | brk=>exact q
 | cont=>exact q
theorem pss_one (h1:PS X st t):PSs X [st] t:=by
 intro pins s σ H D I h
 refine wpAny_execs_cons (thn (h1 pins s σ H D I h) fun f s1 q=>?_)
 cases f with
 | next=>exact wpAny_execs_nil q
 | ret v=>exact q
 | brk=>exact q
 | cont=>exact q
def tBreak:TS:=fun D σ H=>D.bk σ H
def tCont:TS:=fun D σ H=>D.ct σ H
theorem ps_continue:PS X (.Continue pos) tCont:=fun _ _ σ H _ I h=>wpAny_Continue ⟨σ,H,I,h⟩
theorem Inv.quiet {pins:List (Addr×Obj)} {σ:St} {H:Hp} {s:Shared} (I:Inv X pins σ H s):interactive X.env=false:=by simp [interactive,I.ok.kind]
def tDrop (te:TE):TS:=fun D σ H=>te σ H fun _ H1=>D.nx σ H1
theorem ps_expr (he:PE X e te) (hs:swapsWith e none pos.line X.env=pure false:=by rfl):PS X (.Expr e pos) (tDrop te):=by
 intro pins s σ H D I h
 exact wpAny_Expr_any (thn (he pins s σ H _ I h) fun v s1 ⟨x,H1,I1,r1,q1⟩=>⟨σ,H1,I1,q1⟩) I.quiet hs
def tRet (te:TE):TS:=fun D σ H=>te σ H D.rt
theorem ps_ret (he:PE X e te):PS X (.Return (some e) pos) (tRet te):=by
 intro pins s σ H D I h
 exact wpAny_Return_some (thn (he pins s σ H _ I h) fun v s1 ⟨x,H1,I1,r1,q1⟩=>⟨x,σ,H1,I1,r1,q1⟩)
def tRetN:TS:=fun D _ H=>D.rt .non H
def tIfS (c:TT) (t u:TS):TS:=fun D σ H=>c σ H fun b H1=>if b=true then t D σ H1 else u D σ H1
theorem ps_if {c:Expr} {a b:List Stmt} {tc:TT} (hc:PT X c tc) (ha:PSs X a t) (hb:PSs X b u):PS X (.If c a b pos) (tIfS tc t u):=by
 intro pins s σ H D I h
 refine wpAny_If (thn (hc pins s σ H _ I h) fun d s1 ⟨H1,I1,q1⟩=>?_)
 cases d with
 | true=>exact ha pins s1 σ H1 D I1 q1
 | false=>exact hb pins s1 σ H1 D I1 q1
def tNever:TS:=fun _ _ _=>False
end
abbrev TG:=V→St→Hp→(St→Hp→Prop)→Prop
abbrev TGs:=List V→St→Hp→(St→Hp→Prop)→Prop
def PG (X:Cx) (target:Expr) (t:TG):Prop :=
 ∀ (pins:List (Addr×Obj)) (s:Shared) (σ:St) (H:Hp) (v:V) (u:Value) (Q:St→Hp→Prop),Inv X pins σ H s→RelV v u→t v σ H Q →
  wpAny (model X.prog X.w) X.A (assign target X.env u) (fun _ s'=>∃ σ' H',Inv X pins σ' H' s'∧Q σ' H') X.xe s
def PGs (X:Cx) (ts:List Expr) (t:TGs):Prop :=
 ∀ (pins:List (Addr×Obj)) (s:Shared) (σ:St) (H:Hp) (vs:List V) (us:List Value) (Q:St→Hp→Prop),Inv X pins σ H s→Vals vs us→t vs σ H Q →
  wpAny (model X.prog X.w) X.A (assignInOrder ((assignEach ts X.env).map (·.2)) us) (fun _ s'=>∃ σ' H',Inv X pins σ' H' s'∧Q σ' H') X.xe s
abbrev TSet:=V→V→V→Hp→(Hp→Prop)→Prop
def PSet (X:Cx) (t:TSet):Prop :=
 ∀ (pins:List (Addr×Obj)) (s:Shared) (σ:St) (H:Hp) (o i v:V) (ov iv u:Value) (Q:Hp→Prop),Inv X pins σ H s→RelV o ov→RelV i iv→RelV v u→t o i v H Q →
  wpAny (model X.prog X.w) X.A (setItem ov iv u) (fun _ s'=>∃ H',Inv X pins σ H' s'∧Q H') X.xe s
abbrev TIp:=V→V→Hp→VK→Prop
def PIp (X:Cx) (op:Operator) (t:TIp):Prop :=
 ∀ (pins:List (Addr×Obj)) (s:Shared) (σ:St) (H:Hp) (x y:V) (v u:Value) (Q:VK),Inv X pins σ H s→RelV x v→RelV y u→t x y H Q →
  wpAny (model X.prog X.w) X.A (inplaceOp op v u) (EP X pins σ Q) X.xe s
section
variable {X:Cx} {pos:Pos}
def gName (i:Nat):TG:=fun v σ H Q=>Q (σ.set i (some v)) H
theorem pg_name {i:Nat} {x:Str} (hN:X.N.Nodup) (hi:X.N[i]? = some x) (hx:Loc X.env.scope x) (hf:X.fn x=true∨X.env.scope.names.lookup x=some .local:=by first | exact .inl rfl | exact .inr rfl | assumption):PG X (.Name x pos) (gName i):=by
 intro pins s σ H v u Q I r h
 exact wpAny_assign_Name (store_ok I hN hi hx r (fun s' I'=>⟨_,H,I',h⟩) hf)
def gNil:TGs:=fun vs σ H Q=>vs=[]∧Q σ H
def gCons (t:TG) (u:TGs):TGs:=fun vs σ H Q=>∃ v r,vs=v :: r∧t v σ H fun σ' H'=>u r σ' H' Q
theorem pgs_nil:PGs X [] gNil:=by
 intro pins s σ H vs us Q I r h
 obtain ⟨e,h⟩:=h
 subst e
 cases r
 exact assignInOrder_nil ⟨σ,H,I,h⟩
theorem pgs_cons {e:Expr} {es:List Expr} {t:TG} {u:TGs} (h1:PG X e t) (h2:PGs X es u)
  (hs:(assignEach (e :: es) X.env).map (·.2)=assign e X.env :: (assignEach es X.env).map (·.2):=by rfl):PGs X (e :: es) (gCons t u):=by
 intro pins s σ H vs us Q I r h
 obtain ⟨v,vr,e1,h⟩:=h
 subst e1
 cases r with
 | cons r rr =>
  rw [hs]
  refine assignInOrder_cons (thn (h1 pins s σ H _ _ _ I r h) fun _ s1 ⟨σ1,H1,I1,q1⟩=>?_)
  exact h2 pins s1 σ1 H1 _ _ Q I1 rr q1
def gTup (K:PySem.W.Frag) (n:Nat) (t:TGs):TG:=fun v σ H Q=>∃ a xs,v=.ref a∧SqT K H a xs∧xs.length=n∧t xs σ H Q
theorem pg_tup {es:List Expr} {k:Nat} {t:TGs} {n:Nat} (hc:X.calm=true) (h:PGs X es t)
  (hn:(assignEach es X.env).length=n:=by rfl) (hst:(assignEach es X.env).findIdx? (·.1)=none:=by rfl):PG X (.Tuple es k pos) (gTup X.K n t):=by
 intro pins s σ H v u Q I r hw
 obtain ⟨a,xs,e1,hq,hl,hw⟩:=hw
 subst e1
 cases r
 obtain ⟨its,rv,ht,hz⟩:=I.tuple hq
 refine assign_Tuple_tuple (I.ok.hd hc) ht (by simp [hn,← hl,rv.length]) hst fun h' hx=>?_
 have I1:Inv X pins σ H { s with heap:=h' }:=I.kept (t':=s.toks) fun b o e=>hx b o (Nat.ne_of_lt (Heap.lt_size e)) e
 exact h pins _ σ H xs _ Q I1 (by simpa using rv) hw
def gSub (to ti:TE) (t:TSet):TG:=fun v σ H Q=>to σ H fun o H1=>ti σ H1 fun i H2=>t o i v H2 fun H3=>Q σ H3
def tAsg (te:TE) (g:TG):TS:=fun D σ H=>te σ H fun x H1=>g x σ H1 D.nx
theorem ps_asg {tg e:Expr} {te:TE} {g:TG} (he:PE X e te) (hg:PG X tg g) (hs:swapsWithSole [tg] e pos.line X.env=pure false:=by rfl) (hw:swappedStores [tg] e X.env=pure none:=by rfl)
  (h1:(assignEach [tg] X.env).map (·.2)=[assign tg X.env]:=by rfl):PS X (.Assign [tg] e pos) (tAsg te g):=by
 intro pins s σ H D I h
 refine wpAny_Assign_stores (thn (he pins s σ H _ I h) fun v s1 ⟨x,H1,I1,r1,q1⟩=>?_) hs hw
 rw [h1]
 exact thn (hg pins s1 σ H1 x v _ I1 r1 q1) fun _ s2 q=>q
theorem ps_set {i:Nat} {x:Str} {e:Expr} {te:TE} {pos':Pos} (hN:X.N.Nodup) (hi:X.N[i]? = some x) (hx:Loc X.env.scope x) (he:PE X e te) (hs:swapsWith e (some (.Name x pos')) pos.line X.env=pure false:=by rfl) (hf:X.fn x=true∨X.env.scope.names.lookup x=some .local:=by first | exact .inl rfl | exact .inr rfl | assumption) :
  PS X (.Assign [.Name x pos'] e pos) (tAsg te (gName i)):=by
 intro pins s σ H D I h
 refine wpAny_Assign_Name (thn (he pins s σ H _ I h) fun v s1 ⟨y,H1,I1,r1,q1⟩=>?_) hs
 exact store_ok I1 hN hi hx r1 (fun s2 I2=>⟨_,H1,I2,q1⟩) hf
def tPar (i j:Nat) (ta:TA):TS:=fun D σ H=>ta σ H fun vs H1=>∃ v w,vs=[v,w]∧D.nx ((σ.set i (some v)).set j (some w)) H1
def tAug (i:Nat) (te:TE) (ti:TIp):TS:=fun D σ H=>∃ x,σ[i]? = some (some x)∧te σ H fun y H1=>ti x y H1 fun z H2=>D.nx (σ.set i (some z)) H2
def tAugS (to ti te:TE) (tget:V→V→Hp→VK→Prop) (tip:TIp) (tset:TSet):TS:=fun D σ H=>to σ H fun o H1=>ti σ H1 fun i H2=>tget o i H2 fun x H3=>te σ H3 fun y H4=>tip x y H4 fun z H5=>tset o i z H5 fun H6=>D.nx σ H6
def PGet (X:Cx) (t:V→V→Hp→VK→Prop):Prop :=
 ∀ (pins:List (Addr×Obj)) (s:Shared) (σ:St) (H:Hp) (o i:V) (ov iv:Value) (Q:VK),Inv X pins σ H s→RelV o ov→RelV i iv→t o i H Q →
  wpAny (model X.prog X.w) X.A (getItem ov iv) (EP X pins σ Q) X.xe s
def ipI (f:Int→Int→Int):TIp:=fun x y H Q=>∃ i j,x=.int i∧y=.int j∧Q (.int (f i j)) H
end
section
variable {X:Cx} {pos:Pos}
def tWhile (c:TT) (tb:TS):TS:=fun D σ H=>∃ W:Nat→St→Hp→Prop,(∃ m,W m σ H)∧∀ m σ H,W m σ H →
 c σ H fun b H1=>if b=true then ∃ N:St→Hp→Prop,(∀ σ' H',N σ' H'→∃ m',m' < m∧W m' σ' H')∧tb { D with nx:=N,ct:=N,bk:=D.nx } σ H1 else D.nx σ H1
end
structure It where
 go:Nat→Hp→Prop
 yld:Nat→Hp→V→Hp→Prop
 stop:Nat→Hp→Prop
def FpOk (X:Cx) (pins:List (Addr×Obj)) (H:Hp) (b:Addr):Prop :=
 H b=none∧b ≠ X.env.locals∧b ∉ X.fs∧(b ∈ X.ex∨X.s₀.heap.objs.size ≤ b)∧(∀ x c,X.env.cells.lookup x=some c→c ≠ b)∧∀ p ∈ X.pn ++ pins,p.1 ≠ b
theorem Inv.fpOk {X:Cx} {pins:List (Addr×Obj)} {σ:St} {H H':Hp} {s:Shared} {b:Addr} (I:Inv X pins σ H s) (hb:s.heap.objs.size ≤ b) (hn:H' b=none):FpOk X pins H' b:=by
 refine ⟨hn,Nat.ne_of_gt (Nat.lt_of_lt_of_le I.lt hb),I.nofs hb,.inr (Nat.le_trans I.sz hb),fun x c e z=>?_,fun p hp z=>?_⟩
 ·obtain ⟨v,q⟩:=I.cell x c e
  exact absurd (Nat.lt_of_lt_of_le q.lt (by rw [z]; exact hb)) (Nat.lt_irrefl _)
 ·exact absurd (Nat.lt_of_lt_of_le (Heap.lt_size (I.pin p hp).1) (by rw [z]; exact hb)) (Nat.lt_irrefl _)
structure Turn (P:Program) (w:World) (K:PySem.W.Frag) (tg:Expr) (J:It) (fp:List Addr) (it:Addr) (tn:Nat→Heap→Prop):Prop where
 mem:it ∈ fp
 obj:∀ i h,tn i h→∀ b ∈ fp,∃ o,h.get? b=some o∧∀ v,o.data ≠ .cell v
 keep:∀ i h h',tn i h→(∀ b ∈ fp,∀ o,h.get? b=some o→h'.get? b=some o)→tn i h'
 item:∀ (X:Cx),X.prog=P→X.w=w→X.K=K→X.calm=true→∀ (i:Nat) (pins:List (Addr×Obj)) (s:Shared) (σ:St) (H:Hp) (E:Value→Shared→Prop),Inv X pins σ H s→(∀ b ∈ fp,FpOk X pins H b)→tn i s.heap→J.go i H →
  wpAny (model P w) X.A (pyNext (.ref it)) (fun r s1=>∃ u,r=some u ∧
   wpAny (model P w) X.A (letOwnedTupleGo tg (.ref it) u) (fun _ s2=>∃ x H',Inv X pins σ H' s2∧RelV x u∧J.yld i H x H'∧tn (i + 1) s2.heap∧∀ b ∈ fp,H' b=none) E s1) E s
 done:∀ (X:Cx),X.prog=P→X.w=w→X.K=K→X.calm=true→∀ (i:Nat) (pins:List (Addr×Obj)) (s:Shared) (σ:St) (H:Hp) (E:Value→Shared→Prop),Inv X pins σ H s→(∀ b ∈ fp,FpOk X pins H b)→tn i s.heap→J.stop i H →
  wpAny (model P w) X.A (pyNext (.ref it)) (fun r s1=>r=none∧Inv X pins σ H s1) E s
 self:∀ (A:Around) (i:Nat) (s:Shared) (Q:Value→Shared→Prop) (E:Value→Shared→Prop),tn i s.heap→Q (.ref it) s→wpAny (model P w) A (pyIter (.ref it)) Q E s
abbrev TI:=St→Hp→(It→Hp→Prop)→Prop
def PIE (X:Cx) (pins:List (Addr×Obj)) (σ:St) (tg:Expr) (R:It→Hp→Prop) (itv:Value) (s2:Shared):Prop :=
 ∃ (it:Addr) (fp:List Addr) (tn:Nat→Heap→Prop) (J:It) (H':Hp),itv=.ref it∧Inv X pins σ H' s2∧Turn X.prog X.w X.K tg J fp it tn∧tn 0 s2.heap∧(∀ b ∈ fp,FpOk X pins H' b)∧R J H'
def PI (X:Cx) (tg iter:Expr) (wi:TI):Prop :=
 ∀ (pins:List (Addr×Obj)) (s:Shared) (σ:St) (H:Hp) (R:It→Hp→Prop),Inv X pins σ H s→wi σ H R →
  wpAny (model X.prog X.w) X.A (eval iter X.env) (fun v s1=>wpAny (model X.prog X.w) X.A (pyIter v) (PIE X pins σ tg R) X.xe s1) X.xe s
theorem go_of {M:Model} {A:Around} {E:Value→Shared→Prop} {s:Shared} {tg:Expr} {it:Addr} {u:Value} {o:Obj} {n:String} {vs:Array Value} {Q:Unit→Shared→Prop} (ho:s.heap.get? it=some o) (hc:o.cls=.type n) (hd:o.data=.fields vs)
    (hn:["enumerate", "zip", "dict_itemiterator", "dict_reverseitemiterator", "odict_iterator", "itertools.zip_longest", "itertools.pairwise"].contains n=false) (hQ:Q () s):wpAny M A (letOwnedTupleGo tg (.ref it) u) Q E s:=by
  unfold letOwnedTupleGo
  cases tg <;> first
    | exact wpAny_pure hQ
    | (cases u <;> first
        | exact wpAny_pure hQ
        | (refine wpAny_bind (wpAny_load ho ?_)
           rw [hc,hd]
           show wpAny M A (if (["enumerate", "zip", "dict_itemiterator", "dict_reverseitemiterator", "odict_iterator", "itertools.zip_longest", "itertools.pairwise"].contains n && vs[0]? == some (rawInt _))=true then _ else _) Q E s
           rw [if_neg (by intro h; rw [hn,Bool.false_and] at h; cases h)]
           exact wpAny_pure hQ))
def Itl (K:PySem.W.Frag) (a:Addr):It :=
 ⟨fun i H=>∃ xs x,SqL K H a xs∧xs[i]? = some x,fun i H x H'=>H'=H∧∀ xs,SqL K H a xs→xs[i]? = some x,fun i H=>∃ xs,SqL K H a xs∧xs.length ≤ i⟩
def Itt (K:PySem.W.Frag) (a:Addr):It :=
 ⟨fun i H=>∃ xs x,SqT K H a xs∧xs[i]? = some x,fun i H x H'=>H'=H∧∀ xs,SqT K H a xs→xs[i]? = some x,fun i H=>∃ xs,SqT K H a xs∧xs.length ≤ i⟩
def Itr (lo:Int) (n:Nat):It:=⟨fun i _=>i < n,fun i H x H'=>H'=H∧x=.int (lo + i),fun i _=>n ≤ i⟩
theorem turn_list {P:Program} {w:World} {K:PySem.W.Frag} {tg:Expr} (a it:Addr):Turn P w K tg (Itl K a) [it] it (fun i h=>h.IsListIter it a i) where
 mem:=by simp
 obj:=fun i h st b hb=>by
  have e:b=it:=by simpa using hb
  subst e
  obtain ⟨o,e,c,d⟩:=st
  exact ⟨o,e,fun v z=>by rw [d] at z; cases z⟩
 keep:=fun i h h' st k=>st.at fun o e=>k it (by simp) o e
 item:=by
  intro X hP hw hK hc i pins s σ H E I hf st hg
  subst hP hw hK
  obtain ⟨xs,x,hq,hx⟩:=hg
  obtain ⟨its,rv,p,hz⟩:=I.list hq
  obtain ⟨u,hu,ru⟩:=rv.get hx
  obtain ⟨f0,f1,f2,f3,f4,f5⟩:=hf it (by simp)
  refine wpAny_pyNext_list_item st p.isList (x:=u) (by simpa using hu) fun h' st' sb=>?_
  have I1:Inv X pins σ H { s with heap:=h' }:=I.turned (t':=s.toks) (fun b o hb e=>(sb.2 b hb).trans e) f0 f1 f3 f4 f5
  obtain ⟨o,e,c,d⟩:=id st'
  exact ⟨u,rfl,go_of (s:={ s with heap:=h' }) e c d (by decide) ⟨x,H,I1,ru,⟨rfl,fun ys hy=>by rw [I.list_inj hy hq]; exact hx⟩,st',fun b hb=>(hf b hb).1⟩⟩
 done:=by
  intro X hP hw hK hc i pins s σ H E I hf st hg
  subst hP hw hK
  obtain ⟨xs,hq,hx⟩:=hg
  obtain ⟨its,rv,p,hz⟩:=I.list hq
  obtain ⟨f0,f1,f2,f3,f4,f5⟩:=hf it (by simp)
  have hl:=rv.length
  exact wpAny_pyNext_list_end (I.ok.hd hc) st p.isList (by simp; omega) fun h' eb=>⟨rfl,I.turned (t':=s.toks) (fun b o hb e=>eb b o hb e) f0 f1 f3 f4 f5⟩
 self:=fun _ _ _ _ _ st h=>wpAny_pyIter_listiter st h
theorem turn_tuple {P:Program} {w:World} {K:PySem.W.Frag} {tg:Expr} (a it:Addr):Turn P w K tg (Itt K a) [it] it (fun i h=>h.IsTupleIter it a i) where
 mem:=by simp
 obj:=fun i h st b hb=>by
  have e:b=it:=by simpa using hb
  subst e
  obtain ⟨o,e,c,d⟩:=st
  exact ⟨o,e,fun v z=>by rw [d] at z; cases z⟩
 keep:=fun i h h' st k=>st.at fun o e=>k it (by simp) o e
 item:=by
  intro X hP hw hK hc i pins s σ H E I hf st hg
  subst hP hw hK
  obtain ⟨xs,x,hq,hx⟩:=hg
  obtain ⟨its,rv,p,hz⟩:=I.tuple hq
  obtain ⟨u,hu,ru⟩:=rv.get hx
  obtain ⟨f0,f1,f2,f3,f4,f5⟩:=hf it (by simp)
  refine wpAny_pyNext_tuple_item st (show s.heap.IsTuple a its.toArray from p) (x:=u) (by simpa using hu) fun h' st' sb=>?_
  have I1:Inv X pins σ H { s with heap:=h' }:=I.turned (t':=s.toks) (fun b o hb e=>(sb.2 b hb).trans e) f0 f1 f3 f4 f5
  obtain ⟨o,e,c,d⟩:=id st'
  exact ⟨u,rfl,go_of (s:={ s with heap:=h' }) e c d (by decide) ⟨x,H,I1,ru,⟨rfl,fun ys hy=>by rw [I.tuple_inj hy hq]; exact hx⟩,st',fun b hb=>(hf b hb).1⟩⟩
 done:=by
  intro X hP hw hK hc i pins s σ H E I hf st hg
  subst hP hw hK
  obtain ⟨xs,hq,hx⟩:=hg
  obtain ⟨its,rv,p,hz⟩:=I.tuple hq
  obtain ⟨f0,f1,f2,f3,f4,f5⟩:=hf it (by simp)
  have hl:=rv.length
  exact wpAny_pyNext_tuple_end (I.ok.hd hc) st (show s.heap.IsTuple a its.toArray from p) (by simp; omega) fun h' eb=>⟨rfl,I.turned (t':=s.toks) (fun b o hb e=>eb b o hb e) f0 f1 f3 f4 f5⟩
 self:=fun _ _ _ _ _ st h=>wpAny_pyIter_tupleiter st h
theorem turn_range {P:Program} {w:World} {K:PySem.W.Frag} {tg:Expr} (it:Addr) (lo:Int) (n:Nat):Turn P w K tg (Itr lo n) [it] it (fun i h=>IsRangeIter h it (lo + (i:Nat) * 1) ((n:Int) - (i:Nat)) 1) where
 mem:=by simp
 obj:=fun i h st b hb=>by
  have e:b=it:=by simpa using hb
  subst e
  exact ⟨_,st,fun v z=>by
   have z':Data.fields _=Data.cell v:=z
   cases z'⟩
 keep:=fun i h h' st k=>k it (by simp) _ st
 item:=by
  intro X hP hw hK hc i pins s σ H E I hf st hg
  subst hP hw hK
  obtain ⟨f0,f1,f2,f3,f4,f5⟩:=hf it (by simp)
  have W:=Walks.range (prog:=X.prog) (w:=X.w) (I.ok.hd hc) it lo 1 n
  refine W.item i s _ _ hg st fun v h' tk hv st' kk=>?_
  obtain ⟨t,rfl⟩:=hv
  have I1:Inv X pins σ H { s with heap:=h',toks:=tk }:=I.turned (fun b o hb e=>kk b o (by simpa using hb) e) f0 f1 f3 f4 f5
  refine ⟨_,rfl,go_of (s:={ s with heap:=h',toks:=tk }) (n := "range_iterator") st' rfl rfl (by decide) ⟨.int (lo + i),H,I1,⟨t,?_⟩,⟨rfl,rfl⟩,st',fun b hb=>(hf b hb).1⟩⟩
  rw [Int.mul_one]
 done:=by
  intro X hP hw hK hc i pins s σ H E I hf st hg
  subst hP hw hK
  obtain ⟨f0,f1,f2,f3,f4,f5⟩:=hf it (by simp)
  exact wpAny_pyNext_range_end (I.ok.hd hc) st (by have:n ≤ i:=hg; omega) fun h' eb=>⟨rfl,I.turned (t':=s.toks) (fun b o hb e=>eb b o hb e) f0 f1 f3 f4 f5⟩
 self:=fun _ _ _ _ _ st h=>wpAny_pyIter_rangeiter st h
end L2
namespace L2
open PySem PySem.Spec PyProof.Rows
section
variable {X:Cx} {tg:Expr}
def iList (K:PySem.W.Frag) (tl:TE):TI:=fun σ H R=>tl σ H fun x H1=>∃ a,x=.ref a∧(∃ xs,SqL K H1 a xs)∧R (Itl K a) H1
def iTup (K:PySem.W.Frag) (tl:TE):TI:=fun σ H R=>tl σ H fun x H1=>∃ a,x=.ref a∧(∃ xs,SqT K H1 a xs)∧R (Itt K a) H1
theorem pi_list {l:Expr} {tl:TE} (hl:PE X l tl):PI X tg l (iList X.K tl):=by
 intro pins s σ H R I h
 refine thn (hl pins s σ H _ I h) fun v s1 ⟨x,H1,I1,r1,q1⟩=>?_
 obtain ⟨a,e,⟨xs,hq⟩,q⟩:=q1
 subst e
 cases r1
 obtain ⟨its,rv,p,hz⟩:=I1.list hq
 refine wpAny_pyIter_list p.isList ?_
 refine ⟨s1.heap.objs.size,[s1.heap.objs.size],_,_,H1,rfl,I1.kept (t':=s1.toks) fun b o e=>Heap.get?_push_of_some _ e,turn_list a _,⟨_,Heap.get?_push_size _ rfl,rfl,rfl⟩,fun b hb=>?_,q⟩
 have e:b=s1.heap.objs.size:=by simpa using hb
 subst e
 exact I1.fpOk (Nat.le_refl _) (I1.hok.fresh (Nat.le_refl _))
theorem pi_tup {l:Expr} {tl:TE} (hl:PE X l tl):PI X tg l (iTup X.K tl):=by
 intro pins s σ H R I h
 refine thn (hl pins s σ H _ I h) fun v s1 ⟨x,H1,I1,r1,q1⟩=>?_
 obtain ⟨a,e,⟨xs,hq⟩,q⟩:=q1
 subst e
 cases r1
 obtain ⟨its,rv,p,hz⟩:=I1.tuple hq
 refine wpAny_pyIter_tuple (show s1.heap.IsTuple a its.toArray from p) ?_
 refine ⟨s1.heap.objs.size,[s1.heap.objs.size],_,_,H1,rfl,I1.kept (t':=s1.toks) fun b o e=>Heap.get?_push_of_some _ e,turn_tuple a _,⟨_,Heap.get?_push_size _ rfl,rfl,rfl⟩,fun b hb=>?_,q⟩
 have e:b=s1.heap.objs.size:=by simpa using hb
 subst e
 exact I1.fpOk (Nat.le_refl _) (I1.hok.fresh (Nat.le_refl _))
theorem range_it {pins:List (Addr×Obj)} {σ:St} {H:Hp} {s:Shared} {R:It→Hp→Prop} {E:Value→Shared→Prop} {lo hi:Int} {t u v:Tok} {tk:Nat} (I:Inv X pins σ H s) (h1:-(2 ^ 62) ≤ lo) (h2:lo < 2 ^ 62) (h3:-(2 ^ 62) ≤ hi) (h4:hi < 2 ^ 62)
  (q:R (Itr lo (hi - lo).toNat) H):wpAny (model X.prog X.w) X.A (pyIter (.ref s.heap.objs.size)) (PIE X pins σ tg R) E { s with heap:=s.heap.push { cls:=.type "range",data:=.fields #[.int lo t,.int hi u,.int 1 v] },toks:=tk }:=by
 refine wpAny_pyIter_range (IsRange.new ..) (small_one h1 h2 h3 h4) ?_
 have I1:Inv X pins σ H { s with heap:=s.heap.push { cls:=.type "range",data:=.fields #[.int lo t,.int hi u,.int 1 v] },toks:=tk }:=I.kept fun b o e=>Heap.get?_push_of_some _ e
 refine ⟨(s.heap.push { cls:=.type "range",data:=.fields #[.int lo t,.int hi u,.int 1 v] }).objs.size,[(s.heap.push { cls:=.type "range",data:=.fields #[.int lo t,.int hi u,.int 1 v] }).objs.size],_,_,H,rfl,
  I1.kept (t':=tk) fun b o e=>Heap.get?_push_of_some _ e,turn_range _ lo (hi - lo).toNat,?_,fun b hb=>?_,q⟩
 ·have e1:lo + ((0:Nat):Int) * 1=lo:=by simp
  have e2:(((hi - lo).toNat:Nat):Int) - ((0:Nat):Int)=Builtin.Range.rangeSize lo hi 1:=by rw [rangeSize_one]; split <;> omega
  show IsRangeIter _ _ (lo + ((0:Nat):Int) * 1) ((((hi - lo).toNat:Nat):Int) - ((0:Nat):Int)) 1
  rw [e1,e2]
  exact Heap.get?_push_size _ rfl
 ·have e:b=(s.heap.push { cls:=.type "range",data:=.fields #[.int lo t,.int hi u,.int 1 v] }).objs.size:=by simpa using hb
  subst e
  exact I1.fpOk (Nat.le_refl _) (I1.hok.fresh (Nat.le_refl _))
def iRng1 (ta:TA):TI:=fun σ H R=>ta σ H fun vs H1=>∃ j:Int,vs=[.int j]∧-(2 ^ 62) ≤ j∧j < 2 ^ 62∧R (Itr 0 j.toNat) H1
def iRng2 (ta:TA):TI:=fun σ H R=>ta σ H fun vs H1=>∃ i j:Int,vs=[.int i,.int j]∧(-(2 ^ 62) ≤ i∧i < 2 ^ 62∧-(2 ^ 62) ≤ j∧j < 2 ^ 62)∧R (Itr i (j - i).toNat) H1
theorem pi_range1 {a:Expr} {ta:TA} {p pos:Pos} (hg:Gl X "range") (hm:X.mg "range" = none) (ha:PA X [a] ta) (hs:starEach [a] X.env=[(false,eval a X.env)]:=by rfl):PI X tg (.Call (.Name "range" p) [a] [] pos) (iRng1 ta):=by
 intro pins s σ H R I h
 refine Call_ (ld_blt I hg hm boot_range (PyProof.Rows.callWith_type1 (thn (ha pos pins s σ H _ I h) fun us s1 ⟨vs,H1,I1,r1,q1⟩=>?_) hs rfl))
 obtain ⟨j,e,q1,q2,q⟩:=q1
 subst e
 cases r1 with
 | cons r rr =>
  cases rr
  obtain ⟨t,rfl⟩:=r
  exact call_range_1 (range_it I1 (by omega) (by omega) q1 q2 (by simpa using q))
theorem pi_range2 {a b:Expr} {ta:TA} {p pos:Pos} (hg:Gl X "range") (hm:X.mg "range" = none) (ha:PA X [a,b] ta) (hs:starEach [a,b] X.env=[(false,eval a X.env),(false,eval b X.env)]:=by rfl) (hs2:starEach [b] X.env=[(false,eval b X.env)]:=by rfl) :
  PI X tg (.Call (.Name "range" p) [a,b] [] pos) (iRng2 ta):=by
 intro pins s σ H R I h
 refine Call_ (ld_blt I hg hm boot_range (PyProof.Rows.callWith_type1 (thn (ha pos pins s σ H _ I h) fun us s1 ⟨vs,H1,I1,r1,q1⟩=>?_) (by rw [hs,hs2]) (by rw [hs2]; rfl)))
 obtain ⟨i,j,e,⟨q1,q2,q3,q4⟩,q⟩:=q1
 subst e
 cases r1 with
 | cons r rr =>
  cases rr with
  | cons r' rr =>
   cases rr
   obtain ⟨t,rfl⟩:=r
   obtain ⟨t',rfl⟩:=r'
   exact call_range_2 (range_it I1 q1 q2 q3 q4 q)
def tFor (wi:TI) (g:TG) (tb:TS):TS:=fun D σ H=>wi σ H fun J H1=>∃ W:Nat→Nat→St→Hp→Prop,(∃ m,W 0 m σ H1)∧∀ i m σ H,W i m σ H →
 (J.stop i H∧D.nx σ H)∨(J.go i H∧∃ N:St→Hp→Prop,(∀ σ' H',N σ' H'→∃ m',m' < m∧W (i + 1) m' σ' H')∧∀ x H',J.yld i H x H'→g x σ H' fun σ2 H2=>tb { D with nx:=N,ct:=N,bk:=D.nx } σ2 H2)
def pinsAt (fp:List Addr) (h:Heap):List (Addr×Obj):=fp.filterMap fun b=>(h.get? b).map fun o=>(b,o)
theorem mem_pinsAt {fp:List Addr} {h:Heap} {b:Addr} {o:Obj} (hb:b ∈ fp) (e:h.get? b=some o):(b,o) ∈ pinsAt fp h:=List.mem_filterMap.mpr ⟨b,hb,by rw [e]; rfl⟩
theorem of_pinsAt {fp:List Addr} {h:Heap} {p:Addr×Obj} (hp:p ∈ pinsAt fp h):p.1 ∈ fp∧h.get? p.1=some p.2:=by
 obtain ⟨b,hb,e⟩:=List.mem_filterMap.mp hp
 cases q:h.get? b with
 | none=>rw [q] at e; cases e
 | some o =>
  rw [q] at e
  have e':(b,o)=p:=Option.some.inj e
  subst e'
  exact ⟨hb,q⟩
theorem Inv.pinned {pins:List (Addr×Obj)} {σ:St} {H:Hp} {s:Shared} {fp:List Addr} (I:Inv X pins σ H s) (hf:∀ b ∈ fp,FpOk X pins H b) (ho:∀ b ∈ fp,∃ o,s.heap.get? b=some o∧∀ v,o.data ≠ .cell v):Inv X (pins ++ pinsAt fp s.heap) σ H s :=
 I.pins_of fun p hp=>(List.mem_append.mp hp).elim (fun z=>I.pin p (List.mem_append_right _ z)) fun z=>by
  obtain ⟨hb,e⟩:=of_pinsAt z
  obtain ⟨f0,f1,f2,_⟩:=hf p.1 hb
  obtain ⟨o,e',d⟩:=ho p.1 hb
  rw [e] at e'; cases e'
  exact ⟨e,f0,f1,f2,d⟩
theorem Inv.unpinned {pins pl:List (Addr×Obj)} {σ:St} {H:Hp} {s:Shared} (I:Inv X (pins ++ pl) σ H s):Inv X pins σ H s:=I.pins_of fun p hp=>I.pin p (List.mem_append_right _ (List.mem_append_left _ hp))
theorem ps_for {iter:Expr} {body:List Stmt} {wi:TI} {g:TG} {tb:TS} {pos:Pos} (hp:PassesOwn (model X.prog X.w) X.A X.env X.xe) (hc:X.calm=true) (hi:PI X tg iter wi) (hg:PG X tg g) (hb:PSs X body tb)
  (hs:∀ x,foldedSetIterable iter X.env x=pure x:=by intro _; rfl):PS X (.For tg iter body [] pos) (tFor wi g tb):=by
 intro pins s σ H D I h
 refine wpAny_For (thn (hi pins s σ H _ I h) fun v s1 h1=>thn h1 fun itv s2 h2=>?_) hs
 obtain ⟨it,fp,tn,J,H2,e,I2,T,st2,f2,W,⟨m0,w0⟩,turn⟩:=h2
 subst e
 have stat:∀ {H':Hp},(∀ b ∈ fp,H' b=none)→∀ b ∈ fp,FpOk X pins H' b:=fun hn b hb=>⟨hn b hb,(f2 b hb).2⟩
 refine codeAny_forLoop_any (fun n s'=>∃ i σ' H',Inv X pins σ' H' s'∧tn i s'.heap∧(∀ b ∈ fp,H' b=none)∧W i n σ' H') ?_ m0 ⟨0,σ,H2,I2,st2,fun b hb=>(f2 b hb).1,w0⟩
 rintro n s3 ⟨i,σ3,H3,I3,st3,fr3,w3⟩
 rcases turn i n σ3 H3 w3 with ⟨stop,qn⟩ | ⟨go,N,hN,step⟩
 ·refine wpAny_passesOwn hp (thn (T.done X rfl rfl rfl hc i pins s3 σ3 H3 X.xe I3 (stat fr3) st3 stop) fun r s4 ⟨hr,I4⟩=>?_)
  subst hr
  exact wpAny_execs_nil ⟨σ3,H3,I4,qn⟩
 ·refine wpAny_passesOwn hp (thn (T.item X rfl rfl rfl hc i pins s3 σ3 H3 X.xe I3 (stat fr3) st3 go) fun r s4 ⟨u,hr,h4⟩=>?_)
  subst hr
  refine wpAny_passesOwn hp (thn h4 fun _ s5 ⟨x,H5,I5,r5,y5,st5,fr5⟩=>?_)
  have I5':=I5.pinned (stat fr5) (T.obj _ _ st5)
  refine wpAny_passesOwn hp (thn (hg _ s5 σ3 H5 x u _ I5' r5 (step x H5 y5)) fun _ s6 ⟨σ6,H6,I6,q6⟩=>?_)
  refine wpAny_passesOwn hp (thn (hb _ s6 σ6 H6 _ I6 q6) fun f s7 q7=>?_)
  have again:∀ {σ7:St} {H7:Hp},Inv X (pins ++ pinsAt fp s5.heap) σ7 H7 s7→N σ7 H7→∃ m,m < n∧∃ i σ' H',Inv X pins σ' H' s7∧tn i s7.heap∧(∀ b ∈ fp,H' b=none)∧W i m σ' H':=fun {σ7 H7} I7 n7=>by
   obtain ⟨m',hm,w7⟩:=hN σ7 H7 n7
   refine ⟨m',hm,i + 1,σ7,H7,I7.unpinned,T.keep _ _ _ st5 fun b hb o e=>(I7.pin (b,o) (List.mem_append_right _ (List.mem_append_right _ (mem_pinsAt hb e)))).1,fun b hb=>?_,w7⟩
   obtain ⟨o,e,d⟩:=T.obj _ _ st5 b hb
   exact (I7.pin (b,o) (List.mem_append_right _ (List.mem_append_right _ (mem_pinsAt hb e)))).2.1
  cases f with
  | next=>obtain ⟨σ7,H7,I7,n7⟩:=q7; exact again I7 n7
  | cont=>obtain ⟨σ7,H7,I7,n7⟩:=q7; exact again I7 n7
  | brk=>obtain ⟨σ7,H7,I7,q7⟩:=q7; exact ⟨σ7,H7,I7.unpinned,q7⟩
  | ret v=>obtain ⟨x7,σ7,H7,I7,r7,q7⟩:=q7; exact ⟨x7,σ7,H7,I7.unpinned,r7,q7⟩
end
theorem for_list {K:PySem.W.Frag} {a:Addr} {xs:List V} {g:TG} {tb:TS} {D:Ends} {σ:St} {H:Hp} (Pv:Nat→St→Hp→Prop) (h0:Pv 0 σ H) (hl:∀ i σ H,i ≤ xs.length→Pv i σ H→SqL K H a xs)
  (hs:∀ i x σ H,xs[i]? = some x→Pv i σ H→g x σ H fun σ2 H2=>tb { D with nx:=Pv (i + 1),ct:=Pv (i + 1),bk:=D.nx } σ2 H2) (hd:∀ σ H,Pv xs.length σ H→D.nx σ H) :
  ∃ W:Nat→Nat→St→Hp→Prop,(∃ m,W 0 m σ H)∧∀ i m σ H,W i m σ H →
   ((Itl K a).stop i H∧D.nx σ H)∨((Itl K a).go i H∧∃ N:St→Hp→Prop,(∀ σ' H',N σ' H'→∃ m',m' < m∧W (i + 1) m' σ' H')∧∀ x H',(Itl K a).yld i H x H'→g x σ H' fun σ2 H2=>tb { D with nx:=N,ct:=N,bk:=D.nx } σ2 H2):=by
 refine ⟨fun i m σ H=>m=xs.length - i∧i ≤ xs.length∧Pv i σ H,⟨xs.length,by simp,Nat.zero_le _,h0⟩,?_⟩
 rintro i m σ H ⟨rfl,hi,p⟩
 have q:=hl i σ H hi p
 by_cases hlt:i < xs.length
 ·refine .inr ⟨⟨xs,xs[i],q,by simp [hlt]⟩,Pv (i + 1),fun σ' H' p'=>⟨xs.length - (i + 1),by omega,rfl,hlt,p'⟩,fun x H' y=>?_⟩
  obtain ⟨e,y⟩:=y
  subst e
  exact hs i x σ _ (y xs q) p
 ·have e:i=xs.length:=by omega
  subst e
  exact .inl ⟨⟨xs,q,Nat.le_refl _⟩,hd σ H p⟩
theorem for_tup {K:PySem.W.Frag} {a:Addr} {xs:List V} {g:TG} {tb:TS} {D:Ends} {σ:St} {H:Hp} (Pv:Nat→St→Hp→Prop) (h0:Pv 0 σ H) (hl:∀ i σ H,i ≤ xs.length→Pv i σ H→SqT K H a xs)
  (hs:∀ i x σ H,xs[i]? = some x→Pv i σ H→g x σ H fun σ2 H2=>tb { D with nx:=Pv (i + 1),ct:=Pv (i + 1),bk:=D.nx } σ2 H2) (hd:∀ σ H,Pv xs.length σ H→D.nx σ H) :
  ∃ W:Nat→Nat→St→Hp→Prop,(∃ m,W 0 m σ H)∧∀ i m σ H,W i m σ H →
   ((Itt K a).stop i H∧D.nx σ H)∨((Itt K a).go i H∧∃ N:St→Hp→Prop,(∀ σ' H',N σ' H'→∃ m',m' < m∧W (i + 1) m' σ' H')∧∀ x H',(Itt K a).yld i H x H'→g x σ H' fun σ2 H2=>tb { D with nx:=N,ct:=N,bk:=D.nx } σ2 H2):=by
 refine ⟨fun i m σ H=>m=xs.length - i∧i ≤ xs.length∧Pv i σ H,⟨xs.length,by simp,Nat.zero_le _,h0⟩,?_⟩
 rintro i m σ H ⟨rfl,hi,p⟩
 have q:=hl i σ H hi p
 by_cases hlt:i < xs.length
 ·refine .inr ⟨⟨xs,xs[i],q,by simp [hlt]⟩,Pv (i + 1),fun σ' H' p'=>⟨xs.length - (i + 1),by omega,rfl,hlt,p'⟩,fun x H' y=>?_⟩
  obtain ⟨e,y⟩:=y
  subst e
  exact hs i x σ _ (y xs q) p
 ·have e:i=xs.length:=by omega
  subst e
  exact .inl ⟨⟨xs,q,Nat.le_refl _⟩,hd σ H p⟩
theorem for_range {lo:Int} {n:Nat} {g:TG} {tb:TS} {D:Ends} {σ:St} {H:Hp} (Pv:Nat→St→Hp→Prop) (h0:Pv 0 σ H)
  (hs:∀ i σ H,i < n→Pv i σ H→g (.int (lo + i)) σ H fun σ2 H2=>tb { D with nx:=Pv (i + 1),ct:=Pv (i + 1),bk:=D.nx } σ2 H2) (hd:∀ σ H,Pv n σ H→D.nx σ H) :
  ∃ W:Nat→Nat→St→Hp→Prop,(∃ m,W 0 m σ H)∧∀ i m σ H,W i m σ H →
   ((Itr lo n).stop i H∧D.nx σ H)∨((Itr lo n).go i H∧∃ N:St→Hp→Prop,(∀ σ' H',N σ' H'→∃ m',m' < m∧W (i + 1) m' σ' H')∧∀ x H',(Itr lo n).yld i H x H'→g x σ H' fun σ2 H2=>tb { D with nx:=N,ct:=N,bk:=D.nx } σ2 H2):=by
 refine ⟨fun i m σ H=>m=n - i∧i ≤ n∧Pv i σ H,⟨n,by simp,Nat.zero_le _,h0⟩,?_⟩
 rintro i m σ H ⟨rfl,hi,p⟩
 by_cases hlt:i < n
 ·refine .inr ⟨hlt,Pv (i + 1),fun σ' H' p'=>⟨n - (i + 1),by omega,rfl,hlt,p'⟩,fun x H' y=>?_⟩
  obtain ⟨e,y⟩:=y
  subst e y
  exact hs i σ _ hlt p
 ·have e:i=n:=by omega
  subst e
  exact .inl ⟨Nat.le_refl _,hd σ H p⟩
end L2
namespace L2
open PySem PySem.Spec PyProof.Rows
abbrev R2:=V→V→Hp→VK→Prop
def OpR (X:Cx) (f:Value→Value→Sem Value) (r:R2):Prop :=
 ∀ (pins:List (Addr×Obj)) (s:Shared) (σ:St) (H:Hp) (x y:V) (v u:Value) (Q:VK),Inv X pins σ H s→RelV x v→RelV y u→r x y H Q →
  wpAny (model X.prog X.w) X.A (f v u) (EP X pins σ Q) X.xe s
def UnR (X:Cx) (f:Value→Sem Value) (r:V→Hp→VK→Prop):Prop :=
 ∀ (pins:List (Addr×Obj)) (s:Shared) (σ:St) (H:Hp) (x:V) (v:Value) (Q:VK),Inv X pins σ H s→RelV x v→r x H Q →
  wpAny (model X.prog X.w) X.A (f v) (EP X pins σ Q) X.xe s
def CallR (X:Cx) (f:Value) (r:List V→Hp→VK→Prop):Prop :=
 ∀ (pins:List (Addr×Obj)) (s:Shared) (σ:St) (H:Hp) (xs:List V) (us:List Value) (Q:VK),Inv X pins σ H s→Vals xs us→r xs H Q →
  wpAny (model X.prog X.w) X.A (call f us) (EP X pins σ Q) X.xe s
def TruR (X:Cx) (r:V→Hp→(Bool→Hp→Prop)→Prop):Prop :=
 ∀ (pins:List (Addr×Obj)) (s:Shared) (σ:St) (H:Hp) (x:V) (v:Value) (Q:Bool→Hp→Prop),Inv X pins σ H s→RelV x v→r x H Q →
  wpAny (model X.prog X.w) X.A (truthy v) (TP X pins σ Q) X.xe s
def tOp (r:R2) (ta tb:TE):TE:=fun σ H Q=>ta σ H fun x H1=>tb σ H1 fun y H2=>r x y H2 Q
def tUn (r:V→Hp→VK→Prop) (ta:TE):TE:=fun σ H Q=>ta σ H fun x H1=>r x H1 Q
def rI (C:Int→Int→Prop) (g:Int→Int→V):R2:=fun x y H Q=>∃ i j,x=.int i∧y=.int j∧C i j∧Q (g i j) H
def rI0 (g:Int→Int→V):R2:=fun x y H Q=>∃ i j,x=.int i∧y=.int j∧Q (g i j) H
def rU (g:Int→V):V→Hp→VK→Prop:=fun x H Q=>∃ i,x=.int i∧Q (g i) H
section
variable {X:Cx} {a b c:Expr} {ta tb tc:TE} {pos:Pos}
theorem binT (ha:PE X a ta) (hb:PE X b tb) {pins:List (Addr×Obj)} {s:Shared} {σ:St} {H:Hp} {R:V→V→Hp→Prop} (I:Inv X pins σ H s)
  (h:ta σ H fun x H1=>tb σ H1 fun y H2=>R x y H2) {Q:Value→Shared→Prop} {f:Value→Value→Sem Value}
  (hf:∀ v u s2 x y H2,Inv X pins σ H2 s2→RelV x v→RelV y u→R x y H2→wpAny (model X.prog X.w) X.A (f v u) Q X.xe s2) :
  wpAny (model X.prog X.w) X.A (eval a X.env) (fun v s₁=>wpAny (model X.prog X.w) X.A (eval b X.env) (fun u s₂=>wpAny (model X.prog X.w) X.A (f v u) Q X.xe s₂) X.xe s₁) X.xe s:=by
 refine thn (ha pins s σ H _ I h) fun v s1 ⟨x,H1,I1,r1,q1⟩=>?_
 refine thn (hb pins s1 σ H1 _ I1 q1) fun u s2 ⟨y,H2,I2,r2,q2⟩=>?_
 exact hf v u s2 x y H2 I2 r1 r2 q2
theorem pe_op {op:Operator} {r:R2} (ho:OpR X (binaryOp op) r) (ha:PE X a ta) (hb:PE X b tb):PE X (.BinOp a op b pos) (tOp r ta tb):=by
 intro pins s σ H Q I h
 exact wpAny_BinOp (binT ha hb I h fun v u s2 x y H2 I2 rx ry q=>ho pins s2 σ H2 x y v u Q I2 rx ry q)
theorem pe_un {op:UnaryOp} {r:V→Hp→VK→Prop} (ho:UnR X (unaryOp op) r) (ha:PE X a ta):PE X (.UnaryOp op a pos) (tUn r ta):=by
 intro pins s σ H Q I h
 exact UnaryOp_ (thn (ha pins s σ H _ I h) fun v s1 ⟨x,H1,I1,r1,q1⟩=>ho pins s1 σ H1 x v Q I1 r1 q1)
theorem opI {f:Value→Value→Sem Value} {C:Int→Int→Prop} {g:Int→Int→Int}
  (rule:∀ (i j:Int) (t u:Tok) (s:Shared) (Q:Value→Shared→Prop) (E:Value→Shared→Prop),C i j→Q (.int (g i j) s.toks) { s with toks:=s.toks + 1 }→wpAny (model X.prog X.w) X.A (f (.int i t) (.int j u)) Q E s) :
  OpR X f (rI C fun i j=>.int (g i j)):=by
 intro pins s σ H x y v u Q I rx ry h
 obtain ⟨i,j,rfl,rfl,hc,q⟩:=h
 obtain ⟨t,rfl⟩:=rx
 obtain ⟨t',rfl⟩:=ry
 exact rule i j t t' s _ _ hc ⟨.int (g i j),H,I.tok _,⟨_,rfl⟩,q⟩
theorem opI0 {f:Value→Value→Sem Value} {g:Int→Int→Int}
  (rule:∀ (i j:Int) (t u:Tok) (s:Shared) (Q:Value→Shared→Prop) (E:Value→Shared→Prop),Q (.int (g i j) s.toks) { s with toks:=s.toks + 1 }→wpAny (model X.prog X.w) X.A (f (.int i t) (.int j u)) Q E s) :
  OpR X f (rI0 fun i j=>.int (g i j)):=by
 intro pins s σ H x y v u Q I rx ry h
 obtain ⟨i,j,rfl,rfl,q⟩:=h
 obtain ⟨t,rfl⟩:=rx
 obtain ⟨t',rfl⟩:=ry
 exact rule i j t t' s _ _ ⟨.int (g i j),H,I.tok _,⟨_,rfl⟩,q⟩
theorem opB0 {f:Value→Value→Sem Value} {g:Int→Int→Bool}
  (rule:∀ (i j:Int) (t u:Tok) (s:Shared) (Q:Value→Shared→Prop) (E:Value→Shared→Prop),Q (.bool (g i j)) s→wpAny (model X.prog X.w) X.A (f (.int i t) (.int j u)) Q E s) :
  OpR X f (rI0 fun i j=>.bl (g i j)):=by
 intro pins s σ H x y v u Q I rx ry h
 obtain ⟨i,j,rfl,rfl,q⟩:=h
 obtain ⟨t,rfl⟩:=rx
 obtain ⟨t',rfl⟩:=ry
 exact rule i j t t' s _ _ ⟨.bl (g i j),H,I,rfl,q⟩
def CDiv (i j:Int):Prop:=0 < j∧j < 1073741824
def CDivN (i j:Int):Prop:=j ≠ 0∧j.natAbs < 1073741824
def CPow (i j:Int):Prop:=0 ≤ j∧j ≤ 1000000∧i.natAbs < 2 ^ 64
def CMul (i j:Int):Prop:=(-(2 ^ 64) < i∧i < 2 ^ 64)∨(-(2 ^ 64) < j∧j < 2 ^ 64)
theorem CMul.ok {i j:Int} (h:CMul i j):IntMulOk i j:=by
 rcases h with ⟨h1,h2⟩ | ⟨h1,h2⟩
 ·exact .of_left (intBits_le_64 h1 h2)
 ·exact .of_right (intBits_le_64 h1 h2)
theorem op_add:OpR X (binaryOp .Add) (rI0 fun i j=>.int (i + j)):=opI0 fun _ _ _ _ _ _ _ q=>add_int q
theorem op_sub:OpR X (binaryOp .Sub) (rI0 fun i j=>.int (i - j)):=opI0 fun _ _ _ _ _ _ _ q=>sub_int q
theorem op_mul:OpR X (binaryOp .Mult) (rI CMul fun i j=>.int (i * j)):=opI fun _ _ _ _ _ _ _ hc q=>mul_int q hc.ok
theorem op_fdiv:OpR X (binaryOp .FloorDiv) (rI CDiv fun i j=>.int (i / j)):=opI fun i j _ _ _ _ _ hc q=>by
 have h1:(0:Int) < j:=hc.1
 have h2:j < 1073741824:=hc.2
 exact floordiv_int (by omega) (by rw [Int.fdiv_eq_ediv_of_nonneg i (by omega)]; exact q) (.inl (PyProof.noPylong_small (by omega)))
theorem op_mod:OpR X (binaryOp .Mod) (rI (fun _ j=>0 < j) fun i j=>.int (i % j)):=opI fun i j _ _ _ _ _ hc q=>by
 have h1:(0:Int) < j:=hc
 exact mod_int' (by omega) (by rw [Int.fmod_eq_emod_of_nonneg i (by omega)]; exact q)
theorem unI {f:Value→Sem Value} {g:Int→Int}
  (rule:∀ (i:Int) (t:Tok) (s:Shared) (Q:Value→Shared→Prop) (E:Value→Shared→Prop),Q (.int (g i) s.toks) { s with toks:=s.toks + 1 }→wpAny (model X.prog X.w) X.A (f (.int i t)) Q E s) :
  UnR X f (rU fun i=>.int (g i)):=by
 intro pins s σ H x v Q I rx h
 obtain ⟨i,rfl,q⟩:=h
 obtain ⟨t,rfl⟩:=rx
 exact rule i t s _ _ ⟨.int (g i),H,I.tok _,⟨_,rfl⟩,q⟩
theorem un_neg:UnR X (unaryOp .USub) (rU fun i=>.int (-i)):=unI fun _ _ _ _ _ q=>neg_int q
end
def scal:V→V→Bool
 | .non,.non=>true | .non,.int _=>true | .int _,.non=>true | .non,.bl _=>true | .bl _,.non=>true | .non,.str _=>true | .str _,.non=>true
 | .int _,.int _=>true | .bl _,.bl _=>true | .str _,.str _=>true | .byt _,.byt _=>true
 | .int _,.str _=>true | .str _,.int _=>true | .bl _,.str _=>true | .str _,.bl _=>true
 | _,_=>false
def rEq:R2:=fun x y H Q=>scal x y=true∧Q (.bl (decide (x=y))) H
def rNe:R2:=fun x y H Q=>scal x y=true∧Q (.bl (!decide (x=y))) H
theorem dec_int {i j:Int}:decide (V.int i=V.int j)=(i == j):=by
 rw [Bool.eq_iff_iff]
 simp
theorem dec_bl {i j:Bool}:decide (V.bl i=V.bl j)=(i == j):=by
 rw [Bool.eq_iff_iff]
 simp
theorem dec_str {i j:Str}:decide (V.str i=V.str j)=(i == j):=by
 rw [Bool.eq_iff_iff]
 simp
theorem dec_byt {i j:Array UInt8}:decide (V.byt i=V.byt j)=(i.toList == j.toList):=by
 rw [Bool.eq_iff_iff]
 cases i
 cases j
 simp
section
variable {X:Cx} {a b c:Expr} {ta tb tc:TE} {pos:Pos}
theorem fin_bl {pins:List (Addr×Obj)} {σ:St} {H:Hp} {s:Shared} {Q:VK} {k k':Bool} (I:Inv X pins σ H s) (q:Q (.bl k) H) (e:k=k'):EP X pins σ Q (.bool k') s:=by
 subst e
 exact ⟨.bl k,H,I,rfl,q⟩
theorem op_eq:OpR X (compareOp .Eq) rEq:=by
 intro pins s σ H x y v u Q I rx ry h
 obtain ⟨hs,q⟩:=h
 cases x with
 | non =>
  cases rx
  cases y with
  | non=>cases ry; exact PySem.EqNone.eq_none_none (fin_bl I q (by simp))
  | bl j=>cases ry; exact PySem.EqNone.eq_none_bool (fin_bl I q (by simp))
  | int j=>obtain ⟨t',rfl⟩:=ry; exact PySem.EqNone.eq_none_int (fin_bl I q (by simp))
  | str j=>obtain ⟨t',rfl⟩:=ry; exact PySem.EqNone.eq_none_str (fin_bl I q (by simp))
  | _=>exact absurd (show false=true from hs) Bool.false_ne_true
 | bl i =>
  cases rx
  cases y with
  | non=>cases ry; exact PySem.EqNone.eq_bool_none (fin_bl I q (by simp))
  | bl j=>cases ry; exact eq_bool (fin_bl I q dec_bl)
  | str j=>obtain ⟨t',rfl⟩:=ry; exact PySem.EqMixed.eq_bool_str (fin_bl I q (by simp))
  | _=>exact absurd (show false=true from hs) Bool.false_ne_true
 | int i =>
  obtain ⟨t,rfl⟩:=rx
  cases y with
  | non=>cases ry; exact PySem.EqNone.eq_int_none (fin_bl I q (by simp))
  | int j=>obtain ⟨t',rfl⟩:=ry; exact eq_int (fin_bl I q dec_int)
  | str j=>obtain ⟨t',rfl⟩:=ry; exact PySem.EqMixed.eq_int_str (fin_bl I q (by simp))
  | _=>exact absurd (show false=true from hs) Bool.false_ne_true
 | str i =>
  obtain ⟨t,rfl⟩:=rx
  cases y with
  | non=>cases ry; exact PySem.EqNone.eq_str_none (fin_bl I q (by simp))
  | bl j=>cases ry; exact PySem.EqMixed.eq_str_bool (fin_bl I q (by simp))
  | int j=>obtain ⟨t',rfl⟩:=ry; exact PySem.EqMixed.eq_str_int (fin_bl I q (by simp))
  | str j=>obtain ⟨t',rfl⟩:=ry; exact eq_str (fin_bl I q dec_str)
  | _=>exact absurd (show false=true from hs) Bool.false_ne_true
 | byt i =>
  obtain ⟨t,rfl⟩:=rx
  cases y with
  | byt j=>obtain ⟨t',rfl⟩:=ry; exact PySem.W.eq_bytes (fin_bl I q dec_byt)
  | _=>exact absurd (show false=true from hs) Bool.false_ne_true
 | _=>cases y <;> exact absurd (show false=true from hs) Bool.false_ne_true
theorem op_ne:OpR X (compareOp .NotEq) rNe:=by
 intro pins s σ H x y v u Q I rx ry h
 obtain ⟨hs,q⟩:=h
 cases x with
 | non =>
  cases rx
  cases y with
  | non=>cases ry; exact PySem.EqNone.ne_none_none (fin_bl I q (by simp))
  | bl j=>cases ry; exact PySem.EqNone.ne_none_bool (fin_bl I q (by simp))
  | int j=>obtain ⟨t',rfl⟩:=ry; exact PySem.EqNone.ne_none_int (fin_bl I q (by simp))
  | str j=>obtain ⟨t',rfl⟩:=ry; exact PySem.EqNone.ne_none_str (fin_bl I q (by simp))
  | _=>exact absurd (show false=true from hs) Bool.false_ne_true
 | bl i =>
  cases rx
  cases y with
  | non=>cases ry; exact PySem.EqNone.ne_bool_none (fin_bl I q (by simp))
  | bl j=>cases ry; exact ne_bool (fin_bl I q (congrArg not dec_bl))
  | str j=>obtain ⟨t',rfl⟩:=ry; exact PySem.EqMixed.ne_bool_str (fin_bl I q (by simp))
  | _=>exact absurd (show false=true from hs) Bool.false_ne_true
 | int i =>
  obtain ⟨t,rfl⟩:=rx
  cases y with
  | non=>cases ry; exact PySem.EqNone.ne_int_none (fin_bl I q (by simp))
  | int j=>obtain ⟨t',rfl⟩:=ry; exact ne_int (fin_bl I q (congrArg not dec_int))
  | str j=>obtain ⟨t',rfl⟩:=ry; exact PySem.EqMixed.ne_int_str (fin_bl I q (by simp))
  | _=>exact absurd (show false=true from hs) Bool.false_ne_true
 | str i =>
  obtain ⟨t,rfl⟩:=rx
  cases y with
  | non=>cases ry; exact PySem.EqNone.ne_str_none (fin_bl I q (by simp))
  | bl j=>cases ry; exact PySem.EqMixed.ne_str_bool (fin_bl I q (by simp))
  | int j=>obtain ⟨t',rfl⟩:=ry; exact PySem.EqMixed.ne_str_int (fin_bl I q (by simp))
  | str j=>obtain ⟨t',rfl⟩:=ry; exact ne_str (fin_bl I q (congrArg not dec_str))
  | _=>exact absurd (show false=true from hs) Bool.false_ne_true
 | byt i =>
  obtain ⟨t,rfl⟩:=rx
  cases y with
  | byt j=>obtain ⟨t',rfl⟩:=ry; exact PySem.W.ne_bytes (fin_bl I q (congrArg not dec_byt))
  | _=>exact absurd (show false=true from hs) Bool.false_ne_true
 | _=>cases y <;> exact absurd (show false=true from hs) Bool.false_ne_true
theorem op_lt:OpR X (compareOp .Lt) (rI0 fun i j=>.bl (decide (i < j))):=opB0 fun _ _ _ _ _ _ _ q=>lt_int q
theorem op_gt:OpR X (compareOp .Gt) (rI0 fun i j=>.bl (decide (j < i))):=opB0 fun _ _ _ _ _ _ _ q=>gt_int q
theorem op_in_str:OpR X (compareOp .In) (fun x y H Q=>∃ i j,x=.str i∧y=.str j∧Q (.bl (!(Builtin.Str.occurrences j i 0 j.length 1).isEmpty)) H):=by
 intro pins s σ H x y v u Q I rx ry h
 obtain ⟨i,j,rfl,rfl,q⟩:=h
 obtain ⟨t,rfl⟩:=rx
 obtain ⟨t',rfl⟩:=ry
 exact in_str (fin_bl I q rfl)
theorem op_isN:OpR X (compareOp .Is) (fun x y H Q=>y=.non∧Q (.bl (decide (x=.non))) H):=by
 intro pins s σ H x y v u Q I rx ry h
 obtain ⟨rfl,q⟩:=h
 cases ry
 refine is_none_gen (fin_bl I q ?_)
 cases x <;> first
  | (cases rx; rfl)
  | (obtain ⟨t,rfl⟩:=rx; rfl)
def isObj:HO→Bool
 | .lst _=>true
 | .ins _ _ _=>true
 | _=>false
theorem OpR.or {f:Value→Value→Sem Value} {r r':R2} (h:OpR X f r) (h':OpR X f r'):OpR X f (fun x y H Q=>r x y H Q∨r' x y H Q):=by
 intro pins s σ H x y v u Q I rx ry q
 rcases q with q | q
 ·exact h pins s σ H x y v u Q I rx ry q
 ·exact h' pins s σ H x y v u Q I rx ry q
theorem nomark (b:Expr) {op:CmpOp} (h:op ≠ .In:=by decide) (h2:op ≠ .NotIn:=by decide):behindInMarks op b=false:=by
 have e1:(op == CmpOp.In)=false:=by cases op <;> first | rfl | exact absurd rfl h
 have e2:(op == CmpOp.NotIn)=false:=by cases op <;> first | rfl | exact absurd rfl h2
 cases b <;> simp [behindInMarks,e1,e2]
theorem pe_cmpR {op:CmpOp} {r:R2} (ho:OpR X (compareOp op) r) (ha:PE X a ta) (hb:PE X b tb) (hm:behindInMarks op b=false):PE X (.Compare a [op] [b] pos) (tOp r ta tb):=by
 intro pins s σ H Q I h
 exact wpAny_Compare1 (binT ha hb I h fun v u s2 x y H2 I2 rx ry q=>ho pins s2 σ H2 x y v u Q I2 rx ry q) hm
def tTest (t:TE):TT:=fun σ H Q=>t σ H fun x H'=>∃ k,x=.bl k∧Q k H'
theorem pt_cmpR {op:CmpOp} {r:R2} (ho:OpR X (compareOp op) r) (ha:PE X a ta) (hb:PE X b tb) (hm:behindInMarks op b=false):PT X (.Compare a [op] [b] pos) (tTest (tOp r ta tb)):=by
 intro pins s σ H Q I h
 refine wpAny_isTrue_Compare1 (thn (ha pins s σ H _ I h) fun v s1 ⟨x,H1,I1,r1,q1⟩=>thn (hb pins s1 σ H1 _ I1 q1) fun u s2 ⟨y,H2,I2,r2,q2⟩ =>
  thn (ho pins s2 σ H2 x y v u _ I2 r1 r2 q2) fun c s3 ⟨z,H3,I3,r3,k,e,q3⟩=>?_) hm
 subst e
 cases r3
 exact wpAny_truthy_bool ⟨H3,I3,q3⟩
def tChain (r r':R2) (ta tb tc:TE):TE:=fun σ H Q=>ta σ H fun x H1=>tb σ H1 fun y H2=>r x y H2 fun z H3=>∃ k,z=.bl k ∧
 (if k=true then tc σ H3 fun w' H4=>r' y w' H4 Q else Q (.bl false) H3)
def TruV (K:PySem.W.Frag) (x:V) (H:Hp) (k:Bool):Prop :=
 match x with
 | .non=>k=false
 | .bl b=>k=b
 | .int i=>k=(i != 0)
 | .str y=>y.length ≤ sizeLine∧k=((y.length:Int) != 0)
 | .byt y=>y.size ≤ sizeLine∧k=((y.size:Int) != 0)
 | .ref p=>(∃ xs,SqL K H p xs∧k=!xs.isEmpty)∨(∃ xs,SqT K H p xs∧k=!xs.isEmpty)∨∃ kvs,H p=some (.dK kvs)∧k=!kvs.isEmpty
 | _=>False
theorem line63:(sizeLine:Nat) < 2 ^ 63:=by rw [sizeLine_eq]; decide
theorem op_add_str:OpR X (binaryOp .Add) (fun x y H Q=>∃ i j,x=.str i∧y=.str j∧i.length + j.length ≤ sizeLine∧Q (.str (i ++ j)) H):=by
 intro pins s σ H x y v u Q I rx ry h
 obtain ⟨i,j,rfl,rfl,hz,q⟩:=h
 obtain ⟨t,rfl⟩:=rx
 obtain ⟨t',rfl⟩:=ry
 exact add_str (fun t' tk=>⟨.str (i ++ j),H,I.tok _,⟨_,rfl⟩,q⟩) hz
def PlainIxT (b:Expr):Prop:=∀ o i,subscripted b false o i=operate [o,i] (getItem o i)
theorem vals1 {x:V} {us:List Value} (r:Vals [x] us):∃ u,us=[u]∧RelV x u:=by
 cases r with
 | cons r1 r2=>cases r2; exact ⟨_,rfl,r1⟩
theorem vals2 {x y:V} {us:List Value} (r:Vals [x,y] us):∃ u w',us=[u,w']∧RelV x u∧RelV y w':=by
 cases r with
 | cons r1 r2 =>
  cases r2 with
  | cons r3 r4=>cases r4; exact ⟨_,_,rfl,r1,r3⟩
theorem call_max2 (hc:X.calm=true):CallR X (.builtin "max") (fun xs H Q=>∃ i j,xs=[.int i,.int j]∧Q (.int (if j > i then j else i)) H):=by
 intro pins s σ H xs us Q I r h
 obtain ⟨i,j,rfl,q⟩:=h
 obtain ⟨u,w',rfl,⟨t,rfl⟩,⟨t',rfl⟩⟩:=vals2 r
 refine max_two_ints (I.ok.hd hc) fun h' tk k=>⟨_,H,I.kept k,?_,q⟩
 by_cases hj:j > i
 ·rw [if_pos hj,if_pos hj]; exact ⟨_,rfl⟩
 ·rw [if_neg hj,if_neg hj]; exact ⟨_,rfl⟩
theorem call_min2 (hc:X.calm=true):CallR X (.builtin "min") (fun xs H Q=>∃ i j,xs=[.int i,.int j]∧Q (.int (if j < i then j else i)) H):=by
 intro pins s σ H xs us Q I r h
 obtain ⟨i,j,rfl,q⟩:=h
 obtain ⟨u,w',rfl,⟨t,rfl⟩,⟨t',rfl⟩⟩:=vals2 r
 refine min_two_ints (I.ok.hd hc) fun h' tk k=>⟨_,H,I.kept k,?_,q⟩
 by_cases hj:j < i
 ·rw [if_pos hj,if_pos hj]; exact ⟨_,rfl⟩
 ·rw [if_neg hj,if_neg hj]; exact ⟨_,rfl⟩
theorem call_str_int:CallR X (.type "str") (fun xs H Q=>∃ i,xs=[.int i]∧i.natAbs.log2 < 1920∧Q (.str (toString i)) H):=by
 intro pins s σ H xs us Q I r h
 obtain ⟨i,rfl,hz,q⟩:=h
 obtain ⟨u,rfl,t,rfl⟩:=vals1 r
 exact PySem.P.str_of_int hz ⟨.str _,H,I.tok _,⟨_,rfl⟩,q⟩
def LenV (K:PySem.W.Frag) (x:V) (H:Hp) (n:Nat):Prop :=
 match x with
 | .str y=>y.length ≤ sizeLine∧n=y.length
 | .byt y=>y.size ≤ sizeLine∧n=y.size
 | .ref p=>(∃ xs,SqL K H p xs∧n=xs.length)∨∃ xs,SqT K H p xs∧n=xs.length
 | _=>False
end
end L2
namespace L2
open PySem PySem.Spec PyProof.Rows
structure ObjM (h:Heap) (x dx C:Addr) (mA:Str→Option Value):Prop where
 obj:h.get? x=some (PySem.W.instObj C dx)
 ns:h.Ns1 dx mA
 ne:dx ≠ x
theorem lookIn_ns {h:Heap} {dx:Addr} {mA:Str→Option Value} (n:h.Ns1 dx mA):∃ od,h.get? dx=some od∧∀ name,PySem.W.lookIn name od=some (mA name):=by
 obtain ⟨o,es,ep,ho,hd,hk,_,hm⟩:=n
 refine ⟨o,ho,fun name=>?_⟩
 have e:=hm name
 unfold nsFind findBy at e
 rw [← Array.find?_toList] at e
 unfold PySem.W.lookIn
 rw [hd]
 dsimp only
 split
 ·rename_i y q
  rw [q] at e
  exact congrArg some e
 ·rename_i q
  rw [q] at e
  have a:es.toList.any (·.refKey)=false:=by
   rw [List.any_eq_false]
   intro y hy
   obtain ⟨z,t,hkey⟩:=hk y (Array.mem_toList_iff.mp hy)
   simp [DictEntry.refKey,hkey]
  have a':¬ es.toList.any (·.refKey)=true:=by rw [a]; exact Bool.false_ne_true
  rw [if_neg a']
  exact congrArg some e
theorem ObjM.look {h:Heap} {x dx C:Addr} {mA:Str→Option Value} (I:ObjM h x dx C mA):∃ od,PySem.W.InstAt h x (PySem.W.instObj C dx) C (some od)∧∀ name,PySem.W.lookIn name od=some (mA name) :=
 let ⟨od,ho,hl⟩:=lookIn_ns I.ns
 ⟨od,⟨I.obj,rfl,rfl,ho⟩,hl⟩
section
variable {prog:Program} {w:World} {A:Around} {E:Value→Shared→Prop} {s:Shared} {K:PySem.W.Frag} {x dx C f:Addr} {mA:Str→Option Value} {name:Str} {v:Value}
theorem get_map {expr:Bool} {Q:Value→Shared→Prop} (X:K.In s.heap) (I:ObjM s.heap x dx C mA) (hg:PySem.W.plainGet K C name=true) (hh:PySem.W.hasDictIn K C=true)
  (ha:PySem.W.findIn K (.ref C) name=some none) (hv:mA name=some v) (hv':PySem.W.handedIn v=true) (h:Q v { s with toks:=s.toks + 1 }) :
  wpAny (model prog w) A (getAttr (.ref x) name expr) Q E s:=by
 obtain ⟨od,J,hl⟩:=I.look
 exact PySem.W.get_value X J (PySem.W.plainGet_of hg).1 (PySem.W.findObj_own hh ha rfl (by rw [hl,hv])) hv' h
theorem get_meth {pl:Sem Bool} {Q:Value×List Value→Shared→Prop} (X:K.In s.heap) (I:ObjM s.heap x dx C mA) (hg:PySem.W.plainGet K C name=true)
  (hf:PySem.W.findIn K (.ref C) name=some (some (.ref f))) (ht:PySem.W.isFn K (.ref f)=true) (hv:mA name=none) (h:Q (.ref f,[.ref x]) s) :
  wpAny (model prog w) A (getMethod (.ref x) name pl) Q E s:=by
 obtain ⟨od,J,hl⟩:=I.look
 exact PySem.W.method_fn X J (PySem.W.plainGet_of hg).1 (PySem.W.plainGet_of hg).2 hf (beq_iff_eq.mp ht) (by show (PySem.W.lookIn name od).map (·.isSome)=some false; rw [hl,hv]; rfl) h
theorem set_map {ns:List Str} {Q:Unit→Shared→Prop} (X:K.In s.heap) (I:ObjM s.heap x dx C mA)
  (hs:PySem.W.findIn K (.ref C) "__setattr__" = some (some (.builtin "object.__setattr__"))) (hp:PySem.W.plainOver K C=true) (ht:PySem.W.takerIn K C name=some none) (hh:PySem.W.hasDictIn K C=true)
  (hw:PySem.Within mA ns) (hsz:ns.length ≤ sizeLine)
  (h:∀ h',ObjM h' x dx C (fun y=>if y=name then some v else mA y)→Heap.SameBut dx s.heap h'→Q () { s with heap:=h',toks:=s.toks + 2 }) :
  wpAny (model prog w) A (setAttr (.ref x) name v) Q E s:=by
 obtain ⟨od,J,hl⟩:=I.look
 refine PySem.W.set_plain X J hs (PySem.W.osa_open (s:={ s with toks:=s.toks + 1 }) (r:=none) X J hp ht fun b=>?_)
 obtain ⟨cd,hc,hd'⟩:=PySem.W.any_some hh
 have hx:s.heap.get? x=some ⟨.ref C,some dx,.plain,#[]⟩:=I.obj
 refine wpAny_bind (wpAny_pure (wpAny_bind (wpAny_bind (wpAny_loadPart hx (wpAny_bind (PySem.W.Looks.here (s:={ s with toks:=s.toks + 1 }) (PySem.W.looks_clsIn X hc) ?_))))))
 rw [hd']
 refine wpAny_pure (a:=some dx) (wpAny_bind (wpAny_pure (wpAny_bind ?_)))
 refine wpAny_nsSet1 (s:={ s with toks:=s.toks + 1 }) I.ns fun h' hn2 hs2=>?_
 obtain ⟨oD,esD,epD,hoD,hdD,hcD⟩:=hn2.count (PySem.Within.cons name v hw)
 refine wpAny_bind (wpAny_lookBehind hoD (by rw [hdD]; exact pastItsLine_dict (Nat.le_trans hcD (by rw [List.length_cons]; omega))) ?_)
 exact wpAny_pure (h _ ⟨(hs2.2 _ (Ne.symm I.ne)).trans I.obj,hn2,I.ne⟩ hs2)
theorem make_map {R:Result→Shared→Prop} {vs:List Value} {kw:List (Str×Value)} (X:K.In s.heap) (hm:PySem.W.makesIn K C=true)
  (hi:PySem.W.findIn K (.ref C) "__init__" = some (some (.ref f))) (hf:PySem.W.typeIn K (.ref f)=some (.type "function"))
  (h:codeAny (model prog w) (A.under (.builtin "type.__call__" ⟨.ref C :: vs,kw⟩)) (.call (.ref f) ⟨.ref (s.heap.objs.size + 1) :: vs,kw⟩) (PySem.W.InitBack (s.heap.objs.size + 1) R)
   { s with heap:=(s.heap.push PySem.W.emptyDict).push (PySem.W.instObj C s.heap.objs.size) }) :
  codeAny (model prog w) A (.call (.ref C) ⟨vs,kw⟩) R s:=by
 obtain ⟨hh,g,d,t,os⟩:=s
 exact PySem.W.make_core (PySem.W.makes_of X hm) (PySem.W.looks_findIn X hi) (fun self=>PySem.W.bind_fn X self hf) (.inl rfl) h
end
def putF (f:Str) (v:V):List (Str×V)→List (Str×V)
 | []=>[(f,v)]
 | (g,x) :: r=>if g=f then (g,v) :: r else (g,x) :: putF f v r
theorem lookup_putF (f g:Str) (v:V):∀ fs:List (Str×V),(putF f v fs).lookup g=if g=f then some v else fs.lookup g
 | []=>by
  show List.lookup g [(f,v)]=_
  by_cases h:g=f
  ·have hb:(g == f)=true:=beq_iff_eq.mpr h
   simp only [List.lookup,hb,if_pos h]
  ·have hb:(g == f)=false:=beq_eq_false_iff_ne.mpr h
   simp only [List.lookup,hb,if_neg h]
 | (k,x) :: r=>by
  have ih:=lookup_putF f g v r
  rw [show putF f v ((k,x) :: r)=(if k=f then (k,v) :: r else (k,x) :: putF f v r) from rfl]
  by_cases hk:k=f
  ·rw [if_pos hk]
   by_cases h:g=k
   ·have hb:(g == k)=true:=beq_iff_eq.mpr h
    simp only [List.lookup,hb,if_pos (h.trans hk)]
   ·have hb:(g == k)=false:=beq_eq_false_iff_ne.mpr h
    simp only [List.lookup,hb,if_neg (fun e:g=f=>h (e.trans hk.symm))]
  ·rw [if_neg hk]
   by_cases h:g=k
   ·have hb:(g == k)=true:=beq_iff_eq.mpr h
    simp only [List.lookup,hb,if_neg (fun e:g=f=>hk (h.symm.trans e))]
   ·have hb:(g == k)=false:=beq_eq_false_iff_ne.mpr h
    simp only [List.lookup,hb]
    exact ih
theorem keys_putF (f:Str) (v:V):∀ fs:List (Str×V),f ∈ (putF f v fs).map (·.1)∧∀ g,g ∈ fs.map (·.1)→g ∈ (putF f v fs).map (·.1)
 | []=>⟨by simp [putF],fun g h=>by simp at h⟩
 | (k,x) :: r=>by
  obtain ⟨i1,i2⟩:=keys_putF f v r
  rw [show putF f v ((k,x) :: r)=(if k=f then (k,v) :: r else (k,x) :: putF f v r) from rfl]
  by_cases hk:k=f
  ·rw [if_pos hk]
   subst hk
   exact ⟨by simp,fun g h=>by simpa using h⟩
  ·rw [if_neg hk]
   refine ⟨?_,fun g h=>?_⟩
   ·rw [List.map_cons]
    exact List.mem_cons_of_mem _ i1
   ·rw [List.map_cons] at h ⊢
    rcases List.mem_cons.mp h with e | e
    ·exact List.mem_cons.mpr (.inl e)
    ·exact List.mem_cons_of_mem _ (i2 g e)
theorem length_putF (f:Str) (v:V):∀ fs:List (Str×V),(putF f v fs).length ≤ fs.length + 1
 | []=>by simp [putF]
 | (k,x) :: r=>by
  have ih:=length_putF f v r
  rw [show putF f v ((k,x) :: r)=(if k=f then (k,v) :: r else (k,x) :: putF f v r) from rfl]
  by_cases hk:k=f
  ·rw [if_pos hk,List.length_cons,List.length_cons]; omega
  ·rw [if_neg hk,List.length_cons,List.length_cons]; omega
theorem RelO.some_of {v:V} {o:Option Value} (r:RelO (some v) o):∃ u,o=some u∧RelV v u:=by
 cases o with
 | none=>exact (show False from r).elim
 | some u=>exact ⟨u,rfl,r⟩
theorem RelO.none_of {o:Option Value} (r:RelO none o):o=none:=by
 cases o with
 | none=>rfl
 | some u=>exact (show False from r).elim
theorem handed_of {v:V} {u:Value} (r:RelV v u):PySem.W.handedIn u=true:=by
 cases v with
 | non=>cases (show u=Value.none from r); rfl
 | bl b=>cases (show u=Value.bool b from r); rfl
 | int i=>obtain ⟨t,e⟩:=(show ∃ t,u=Value.int i t from r); cases e; rfl
 | str x=>obtain ⟨t,e⟩:=(show ∃ t,u=Value.str x t from r); cases e; rfl
 | byt b=>obtain ⟨t,e⟩:=(show ∃ t,u=Value.bytes b t from r); cases e; rfl
 | flt b=>obtain ⟨t,e⟩:=(show ∃ t,u=Value.float b t from r); cases e; rfl
 | ref a=>cases (show u=Value.ref a from r); rfl
 | ty n=>cases (show u=Value.type n from r); rfl
section
variable {P:Program} {w:World} {H H':Hp} {h h':Heap} {a C dx:Addr} {fs fs':List (Str×V)}
theorem ins_get (hok:HOk P w H h) (e:H a=some (.ins C dx fs)):∃ mA,ObjM h a dx C mA∧(∀ f,RelO (fs.lookup f) (mA f))∧PySem.Within mA (fs.map (·.1))∧fs.length ≤ 1000∧H dx=some (.own a):=by
 obtain ⟨d,z,ne,ob,mA,n,r,q⟩:=(show ObjOk P w H h a (.ins C dx fs) from hok a _ e)
 exact ⟨mA,⟨ob,n,ne⟩,r,q,z,d⟩
end
structure Cls (K:PySem.W.Frag) (C:Addr):Prop where
 pg:PySem.W.plainGet K C Str.empty=true
 hd:PySem.W.hasDictIn K C=true
 po:PySem.W.plainOver K C=true
 sa:PySem.W.findIn K (.ref C) "__setattr__" = some (some (.builtin "object.__setattr__"))
theorem Cls.get {K:PySem.W.Frag} {C:Addr} (c:Cls K C) (f:Str):PySem.W.plainGet K C f=true:=c.pg
def NoAttr (K:PySem.W.Frag) (C:Addr) (f:Str):Prop:=PySem.W.findIn K (.ref C) f=some none
theorem NoAttr.taker {K:PySem.W.Frag} {C:Addr} {f:Str} (n:NoAttr K C f):PySem.W.takerIn K C f=some none:=by
 unfold PySem.W.takerIn
 rw [show PySem.W.findIn K (.ref C) f=some none from n]
 rfl
structure Con (K:PySem.W.Frag) (C:Addr) (f:Str) (v:V) (u:Value):Prop where
 at_:PySem.W.findIn K (.ref C) f=some (some u)
 rel:RelV v u
 get:PySem.W.specialIn K u "__get__" = some none
 cp:PySem.W.copiedNames.contains f=false
structure Meth (K:PySem.W.Frag) (C:Addr) (m:Str) (f:Addr):Prop where
 at_:PySem.W.findIn K (.ref C) m=some (some (.ref f))
 fn:PySem.W.isFn K (.ref f)=true
 kp:PySem.W.keepIn K (.ref f)=true
section
variable {X:Cx} {pins:List (Addr×Obj)} {σ:St} {H:Hp} {s:Shared} {a C dx:Addr} {fs:List (Str×V)} {f:Str} {v:V} {A:Around} {E:Value→Shared→Prop}
theorem getattr_ok {b:Bool} {Q:Value→Shared→Prop} (I:Inv X pins σ H s) (e:H a=some (.ins C dx fs)) (c:Cls X.K C) (n:NoAttr X.K C f) (l:fs.lookup f=some v)
  (h:∀ u s',Inv X pins σ H s'→RelV v u→Q u s'):wpAny (model X.prog X.w) A (getAttr (.ref a) f b) Q E s:=by
 obtain ⟨mA,O,r,_,_,_⟩:=ins_get I.hok e
 obtain ⟨u,hu,ru⟩:=RelO.some_of (v:=v) (o:=mA f) (by rw [← l]; exact r f)
 exact get_map I.kIn O (c.get f) c.hd n hu (handed_of ru) (h u _ (I.tok _) ru)
theorem getmeth_ok {m:Str} {g:Addr} {pl:Sem Bool} {Q:Value×List Value→Shared→Prop} (I:Inv X pins σ H s) (e:H a=some (.ins C dx fs)) (c:Cls X.K C) (k:Meth X.K C m g) (l:fs.lookup m=none)
  (h:Q (.ref g,[.ref a]) s):wpAny (model X.prog X.w) A (getMethod (.ref a) m pl) Q E s:=by
 obtain ⟨mA,O,r,_,_,_⟩:=ins_get I.hok e
 have hn:mA m=none:=RelO.none_of (by rw [← l]; exact r m)
 exact get_meth I.kIn O (c.get m) k.at_ k.fn hn h
theorem setattr_ok {y:V} {u:Value} {Q:Unit→Shared→Prop} (I:Inv X pins σ H s) (e:H a=some (.ins C dx fs)) (c:Cls X.K C) (n:NoAttr X.K C f) (hl:fs.length < 1000) (ry:RelV y u)
  (h:∀ s',Inv X pins σ (upd H a (.ins C dx (putF f y fs))) s'→Q () s'):wpAny (model X.prog X.w) A (setAttr (.ref a) f u) Q E s:=by
 obtain ⟨mA,O,r,wi,_,ho⟩:=ins_get I.hok e
 have hz:(fs.map (·.1)).length ≤ sizeLine:=by rw [List.length_map,sizeLine_eq]; omega
 refine set_map I.kIn O c.sa c.po n.taker c.hd wi hz fun h' O' sb=>h _ ?_
 have hd:∃ o,h'.get? dx=some o:=let ⟨o,_,_,e',_⟩:=O'.ns; ⟨o,e'⟩
 refine I.write (x:=a) (e:=dx) (by rw [e]; exact True.intro) (.inr ho) (fun b q hb z=>(sb.2 b hb).trans z) hd ?_
 refine ⟨by rw [upd_ne O.ne]; exact ho,?_,O.ne,O'.obj,_,O'.ns,fun g=>?_,fun g hg=>?_⟩
 ·have:=length_putF f y fs; omega
 ·show RelO ((putF f y fs).lookup g) (if g=f then some u else mA g)
  rw [lookup_putF]
  by_cases q:g=f
  ·rw [if_pos q,if_pos q]; exact ry
  ·rw [if_neg q,if_neg q]; exact r g
 ·by_cases q:g=f
  ·rw [q]; exact (keys_putF f y fs).1
  ·refine (keys_putF f y fs).2 g (wi g fun z=>hg ?_)
   show (if g=f then some u else mA g)=none
   rw [if_neg q]; exact z
theorem Inv.made (I:Inv X pins σ H s):Inv X pins σ (upd (upd H s.heap.objs.size (.own (s.heap.objs.size + 1))) (s.heap.objs.size + 1) (.ins C s.heap.objs.size []))
  { s with heap:=(s.heap.push PySem.W.emptyDict).push (PySem.W.instObj C s.heap.objs.size) }:=by
 have e1:(s.heap.push PySem.W.emptyDict).get? s.heap.objs.size=some PySem.W.emptyDict:=Heap.get?_push_size s.heap rfl
 have e2:((s.heap.push PySem.W.emptyDict).push (PySem.W.instObj C s.heap.objs.size)).get? (s.heap.objs.size + 1)=some (PySem.W.instObj C s.heap.objs.size):=by
  have:=Heap.get?_push_size (s.heap.push PySem.W.emptyDict) (o:=PySem.W.instObj C s.heap.objs.size) rfl
  rwa [Heap.size_push] at this
 have e3:(s.heap.push PySem.W.emptyDict).Ns s.heap.objs.size (fun _=>none):=⟨PySem.W.emptyDict,#[],_,e1,rfl,(fun e he=>absurd he (by simp)),fun _=>rfl⟩
 have I1:=I.laid (a:=s.heap.objs.size) (o:=.own (s.heap.objs.size + 1)) (h':=s.heap.push PySem.W.emptyDict) (t':=s.toks) (fun b u q=>Heap.get?_push_of_some _ q) (Nat.le_refl _) ⟨_,e1⟩
 refine I1.laid (a:=s.heap.objs.size + 1) (o:=.ins C s.heap.objs.size []) (t':=s.toks) (fun b u q=>Heap.get?_push_of_some _ q) (Nat.le_of_eq (Heap.size_push _ _)) ?_
 have ne:s.heap.objs.size ≠ s.heap.objs.size + 1:=Nat.ne_of_lt (Nat.lt_succ_self _)
 refine ⟨by rw [upd_ne ne,upd_same],Nat.zero_le _,ne,e2,fun _=>none,(Heap.Ns1.of_empty e3).at fun o q=>Heap.get?_push_of_some _ q,fun _=>True.intro,fun y hy=>absurd rfl hy⟩
theorem attr_of {prog:Program} {w:World} {env:Env} {e:Expr} {f:Str} {pos:Pos} {s:Shared} {Q:Value→Shared→Prop} (hb:attributeBase e f env (eval e env)=eval e env)
  (h:wpAny (model prog w) A (eval e env) (fun o s₁=>wpAny (model prog w) A (getAttr o f true) Q E s₁) E s):wpAny (model prog w) A (eval (.Attribute e f pos) env) Q E s :=
 Attribute_any_ h (by rw [arm_eval_Attribute,hb])
end
def tFld (K:PySem.W.Frag) (ta:TE) (f:Str):TE:=fun σ H Q=>ta σ H fun x H1=>∃ a C dx fs v,x=.ref a∧H1 a=some (.ins C dx fs)∧Cls K C∧NoAttr K C f∧fs.lookup f=some v∧Q v H1
def tCon (K:PySem.W.Frag) (ta:TE) (f:Str):TE:=fun σ H Q=>ta σ H fun x H1=>∃ a C dx fs v u,x=.ref a∧H1 a=some (.ins C dx fs)∧Cls K C∧Con K C f v u∧fs.lookup f=none∧Q v H1
def sFld (K:PySem.W.Frag) (ta tv:TE) (f:Str):TS:=fun D σ H=>tv σ H fun y H1=>ta σ H1 fun x H2=>∃ a C dx fs,x=.ref a∧H2 a=some (.ins C dx fs)∧Cls K C∧NoAttr K C f∧fs.length < 1000 ∧
 D.nx σ (upd H2 a (.ins C dx (putF f y fs)))
def InOp (X:Cx) (op:Operator) (rd:V→V→Hp→VK→Prop):Prop :=
 ∀ (pins:List (Addr×Obj)) (s:Shared) (σ:St) (H:Hp) (x y:V) (u v:Value) (Q:VK),Inv X pins σ H s→RelV x u→RelV y v→rd x y H Q→wpAny (model X.prog X.w) X.A (inplaceOp op u v) (EP X pins σ Q) X.xe s
def sFldAug (K:PySem.W.Frag) (ta tv:TE) (rd:V→V→Hp→VK→Prop) (f:Str):TS:=fun D σ H=>ta σ H fun x H1=>∃ a C dx fs v,x=.ref a∧H1 a=some (.ins C dx fs)∧Cls K C∧NoAttr K C f∧fs.lookup f=some v ∧
 tv σ H1 fun y H2=>rd v y H2 fun z H3=>∃ dx' fs',H3 a=some (.ins C dx' fs')∧fs'.length < 1000∧D.nx σ (upd H3 a (.ins C dx' (putF f z fs')))
section
variable {X:Cx} {o e value:Expr} {f:Str} {pos pos' tpos:Pos} {ta tv:TE}
theorem pe_fld (he:PE X e ta) (hb:attributeBase e f X.env (eval e X.env)=eval e X.env):PE X (.Attribute e f pos) (tFld X.K ta f):=by
 intro pins s σ H Q I h
 refine attr_of hb (thn (he pins s σ H _ I h) fun u s1 ⟨x,H1,I1,rx,a,C,dx,fs,v,ex,ea,c,n,l,q⟩=>?_)
 subst ex
 obtain rfl:u=Value.ref a:=rx
 exact getattr_ok I1 ea c n l fun u' s2 I2 ru=>⟨v,H1,I2,ru,q⟩
theorem ps_fld (ha:PE X o ta) (hv:PE X value tv) (hs:swapsWith value (some (.Attribute o f pos')) pos.line X.env=pure false):PS X (.Assign [.Attribute o f pos'] value pos) (sFld X.K ta tv f):=by
 intro pins s σ H D I h
 refine plainObj_wpAny_Assign_Attribute (thn (hv pins s σ H _ I h) fun u s1 ⟨y,H1,I1,ry,q⟩=>thn (ha pins s1 σ H1 _ I1 q) fun ov s2 ⟨x,H2,I2,rx,a,C,dx,fs,ex,ea,c,n,l,q2⟩=>?_) hs
 subst ex
 obtain rfl:ov=Value.ref a:=rx
 exact setattr_ok I2 ea c n l ry fun s3 I3=>⟨σ,_,I3,q2⟩
def rAdd:V→V→Hp→VK→Prop:=fun x y H Q=>∃ i j,x=.int i∧y=.int j∧Q (.int (i + j)) H
def rSub:V→V→Hp→VK→Prop:=fun x y H Q=>∃ i j,x=.int i∧y=.int j∧Q (.int (i - j)) H
theorem methcall_of {pl:Sem Bool} {m:Str} {apos:Pos} {args:List Expr} {pins:List (Addr×Obj)} {s:Shared} {σ:St} {H:Hp} {Q:Value→Shared→Prop} {te:TE} (he:PE X e te) (I:Inv X pins σ H s)
  (h:te σ H fun x H1=>∃ a C dx fs g,x=.ref a∧H1 a=some (.ins C dx fs)∧Cls X.K C∧Meth X.K C m g∧fs.lookup m=none ∧
   ∀ s1,Inv X pins σ H1 s1→wpAny (model X.prog X.w) X.A (callWith pos (.ref g) [.ref a] (backTo pos (starEach args X.env)) (backToKw pos (keywordEach [] X.env))) Q X.xe s1)
  (ht:eval (.Call (.Attribute e m apos) args [] pos) X.env=(do
   let ov ← eval e X.env
   standAt apos.atName
   let (f,first) ← holding [ov] (getMethod ov m pl)
   callWith pos f first (backTo pos (starEach args X.env)) (backToKw pos (keywordEach [] X.env)))) :
  wpAny (model X.prog X.w) X.A (eval (.Call (.Attribute e m apos) args [] pos) X.env) Q X.xe s:=by
 refine PySem.W.methodCall_KW (pl:=pl) (thn (he pins s σ H _ I h) fun u s1 ⟨x,H1,I1,rx,a,C,dx,fs,g,ex,ea,c,k,l,q⟩=>?_) ht
 subst ex
 obtain rfl:u=Value.ref a:=rx
 exact getmeth_ok I1 ea c k l (q s1 I1)
end
section
variable {X:Cx} {pins:List (Addr×Obj)} {σ:St} {H:Hp} {s:Shared} {A:Around} {E:Value→Shared→Prop} {Q:Value→Shared→Prop} {c:Value} {b:Bool}
inductive TyOf (K:PySem.W.Frag) (H:Hp):V→Value→Prop where
 | non:TyOf K H .non (.type "NoneType")
 | bl (x:Bool):TyOf K H (.bl x) (.type "bool")
 | int (i:Int):TyOf K H (.int i) (.type "int")
 | str (x:Str):TyOf K H (.str x) (.type "str")
 | flt (x:UInt64):TyOf K H (.flt x) (.type "float")
 | lst {a:Addr} {xs:List V} (e:H a=some (.lst xs)):TyOf K H (.ref a) (.type "list")
 | frz {a:Addr} {o:Obj} {xs:List V} (e:H a=some (.frz o (.lst xs))):TyOf K H (.ref a) (.type "list")
 | tup {a:Addr} {xs:List V} (e:H a=some (.tup xs)):TyOf K H (.ref a) (.type "tuple")
 | dK {a:Addr} {kvs:List (Key×V)} (e:H a=some (.dK kvs)):TyOf K H (.ref a) (.type "dict")
 | dT {a:Addr} {kvs:List (List Key×V)} (e:H a=some (.dT kvs)):TyOf K H (.ref a) (.type "dict")
 | ins {a C dx:Addr} {fs:List (Str×V)} (e:H a=some (.ins C dx fs)) (cl:Cls K C) (ha:PySem.W.findIn K (.ref C) "__class__" = some (some (.builtin "object.__class__")))
   (hn:PySem.W.specialIn K (.builtin "object.__class__") "__get__" = some (some (.builtin "getset_descriptor.__get__"))) (htk:PySem.W.takesIn K (.builtin "object.__class__")=some true)
   (hm:PySem.W.mroIn K C (.type "object")=some true):TyOf K H (.ref a) (.ref C)
theorem isinst_ok {x:V} {u t:Value} (I:Inv X pins σ H s) (rx:RelV x u) (ty:TyOf X.K H x t) (e:PySem.W.kitOne X.K t c=some b) (h:∀ tk,Q (.bool b) { s with toks:=tk }) :
  wpAny (model X.prog X.w) A (call (.builtin "isinstance") [u,c]) Q E s:=by
 cases ty with
 | non=>cases (show u=Value.none from rx); exact PySem.W.kia_one PySem.W.kitx_none I.kIn True.intro e (fun z=>nomatch z) h
 | bl y=>cases (show u=Value.bool y from rx); exact PySem.W.kia_one PySem.W.kitx_bool I.kIn True.intro e (fun z=>nomatch z) h
 | int i=>obtain ⟨t,q⟩:=(show ∃ t,u=Value.int i t from rx); cases q; exact PySem.W.kia_one PySem.W.kitx_int I.kIn True.intro e (fun z=>nomatch z) h
 | str y=>obtain ⟨t,q⟩:=(show ∃ t,u=Value.str y t from rx); cases q; exact PySem.W.kia_one PySem.W.kitx_str I.kIn True.intro e (fun z=>nomatch z) h
 | flt y=>obtain ⟨t,q⟩:=(show ∃ t,u=Value.float y t from rx); cases q; exact PySem.W.kia_one PySem.W.kitx_float I.kIn True.intro e (fun z=>nomatch z) h
 | @lst a xs ea =>
  cases (show u=Value.ref a from rx)
  obtain ⟨_,_,n,_,h1⟩:=(show ObjOk X.prog X.w H s.heap a (.lst xs) from I.hok a _ ea)
  exact PySem.W.kia_one PySem.W.kitx_list I.kIn ⟨_,h1,rfl⟩ e (fun z=>nomatch z) h
 | @frz a ob xs ea =>
  cases (show u=Value.ref a from rx)
  obtain ⟨_,_,_,n,_,h1⟩:=(show ObjOk X.prog X.w H s.heap a (.frz ob (.lst xs)) from I.hok a _ ea)
  exact PySem.W.kia_one PySem.W.kitx_list I.kIn ⟨_,h1,rfl⟩ e (fun z=>nomatch z) h
 | @tup a xs ea =>
  cases (show u=Value.ref a from rx)
  obtain ⟨_,_,_,p⟩:=(show ObjOk X.prog X.w H s.heap a (.tup xs) from I.hok a _ ea)
  obtain ⟨o,h1,h2,_⟩:=p
  exact PySem.W.kia_one PySem.W.kitx_tuple I.kIn ⟨o,h1,h2⟩ e (fun z=>nomatch z) h
 | @dK a kvs ea =>
  cases (show u=Value.ref a from rx)
  obtain ⟨_,_,vs,_,p⟩:=(show ObjOk X.prog X.w H s.heap a (.dK kvs) from I.hok a _ ea)
  obtain ⟨o,es,ep,h1,h2,_⟩:=p
  exact PySem.W.kia_one PySem.W.kitx_dict I.kIn ⟨o,h1,h2.1⟩ e (fun z=>nomatch z) h
 | @dT a kvs ea =>
  cases (show u=Value.ref a from rx)
  obtain ⟨_,_,xs,_,o,es,ep,h1,h2,_⟩:=(show ObjOk X.prog X.w H s.heap a (.dT kvs) from I.hok a _ ea)
  exact PySem.W.kia_one PySem.W.kitx_dict I.kIn ⟨o,h1,h2.1⟩ e (fun z=>nomatch z) h
 | @ins a C dx fs ea cl ha hn htk hm =>
  cases (show u=Value.ref a from rx)
  obtain ⟨mA,O,_⟩:=ins_get I.hok ea
  obtain ⟨od,J,_⟩:=O.look
  exact PySem.W.kia_one (PySem.W.kitx_own (cl.get _) cl.hd ha hn htk hm) I.kIn J e (fun z=>nomatch z) h
end
end L2
namespace L2
open PySem PySem.Spec PyProof.Rows
structure Room (k:Nat) (A:Around):Prop where
 hd:A.handled=none
 dp:A.depth + 3 * k + 5 < recursionLimit
 un:A.units + 16 * k + 200 < cLine
theorem Room.mono {j k:Nat} {A:Around} (r:Room k A) (h:j ≤ k):Room j A:=⟨r.hd,by have:=r.dp; omega,by have:=r.un; omega⟩
theorem Room.deeper {k:Nat} {A:Around} (r:Room (k + 1) A) (env:Env):Room k (A.deeper env) :=
 ⟨r.hd,by have:=r.dp; show A.depth + 1 + 3 * k + 5 < _; omega,by have:=r.un; show A.units + 3 + 16 * k + 200 < _; omega⟩
theorem make_depth {A:Around} {C:Addr} {us:List Value} {kw:List (Str×Value)}:(A.under (.builtin "type.__call__" ⟨.ref C :: us,kw⟩)).depth=A.depth + 1:=by
 first | rfl | simp [Around.under,Code.weight,Code.isCreation,Code.isGuard,Code.isCaller,Code.frames,Code.isFrame,guardIds]
theorem make_units {A:Around} {C:Addr} {us:List Value} {kw:List (Str×Value)}:(A.under (.builtin "type.__call__" ⟨.ref C :: us,kw⟩)).units=A.units + 1:=by
 first | rfl | simp [Around.under,Code.cUnits,Code.frames,Code.isFrame]
theorem Room.make {k:Nat} {A:Around} (r:Room (k + 1) A) (C:Addr) (us:List Value) (kw:List (Str×Value)):Room k (A.under (.builtin "type.__call__" ⟨.ref C :: us,kw⟩)) :=
 ⟨r.hd,by have:=r.dp; rw [make_depth]; omega,by have:=r.un; rw [make_units]; omega⟩
theorem Room.depth {k:Nat} {A:Around} (r:Room k A):A.depth < recursionLimit:=by have:=r.dp; omega
theorem Room.units {k:Nat} {A:Around} (r:Room k A):A.units + 64 < cLine:=by have:=r.un; omega
def tNil:TA:=fun _ H Q=>Q [] H
def tCons (ta:TE) (tr:TA):TA:=fun σ H Q=>ta σ H fun x H1=>tr σ H1 fun xs H2=>Q (x :: xs) H2
section
variable {X:Cx} {e:Expr} {es:List Expr} {te:TE} {t:TA} {pos:Pos}
theorem pa_nil:PA X [] tNil:=fun _ _ _ _ H Q I h=>Calls.spliced_nil ⟨[],H,I,.nil,h⟩
theorem pa_cons (ha:PE X e te) (hr:PA X es t) (hs:starEach (e :: es) X.env=(false,eval e X.env) :: starEach es X.env:=by rfl):PA X (e :: es) (tCons te t):=by
 intro pos pins s σ H Q I h
 rw [hs]
 show wpAny _ _ (spliced ((false,eval e X.env) :: backTo pos (starEach es X.env))) _ _ s
 refine Calls.spliced_cons (thn (ha pins s σ H _ I h) fun u s1 ⟨x,H1,I1,r1,q1⟩=>?_)
 exact thn (hr pos pins s1 σ H1 _ I1 q1) fun us s2 ⟨xs,H2,I2,r2,q2⟩=>⟨x :: xs,H2,I2,.cons r1 r2,q2⟩
def tTup (t:TA):TE:=fun σ H Q=>t σ H fun xs H1=>xs.length ≤ sizeLine∧∀ p,H1 p=none→Q (.ref p) (upd H1 p (.tup xs))
def tLst (t:TA):TE:=fun σ H Q=>t σ H fun xs H1=>xs.length ≤ sizeLine∧∀ p,H1 p=none→Q (.ref p) (upd H1 p (.lst xs))
end
abbrev Sp:=List V→Hp→VK→XK→Prop
abbrev CXT:=List Env→Hp→Shared→XK→Value→Shared→Prop
structure Env0 (P:Program) (w:World) (K:PySem.W.Frag) (mg:Str→Option Value) (base:Heap) (A:Around) (outer:List Env) (s:Shared) (H:Hp):Prop where
 frames:A.frames=some outer
 mod:Mod K mg base
 bs:∀ b o,base.get? b=some o→s.heap.get? b=some o∧H b=none
 bsz:base.objs.size ≤ s.heap.objs.size
 funs:s.heap.FunFrames base outer
 frf:∀ b ∈ frs outer,H b=none
 hok:HOk P w H s.heap
 bare:AllBare s.gens
def CE (outer:List Env) (P:Program) (w:World) (H:Hp) (s:Shared) (Q:VK) (u:Value) (s':Shared):Prop :=
 ∃ v H',s'.os=s.os∧AllBare s'.gens∧Un (frs outer) [] H H' s.heap s'.heap∧HOk P w H' s'.heap∧RelV v u∧Q v H'
def CR (CX:CXT) (outer:List Env) (P:Program) (w:World) (H:Hp) (s:Shared) (Q:VK) (E:XK) (r:Result) (s':Shared):Prop :=
 match r with
 | .ok (.ret u)=>CE outer P w H s Q u s'
 | .ok _=>False
 | .error e=>CX outer H s E e s'
structure FnOk (P:Program) (w:World) (K:PySem.W.Frag) (mg:Str→Option Value) (base:Heap) (CX:CXT) (k:Nat) (f:Addr) (fd:FuncData) (ps:List Str) (sp:Sp):Prop where
 len:∀ vs H Q E,sp vs H Q E→vs.length=ps.length
 run:∀ (A:Around) (outer:List Env) (s:Shared) (H:Hp) (args:Args) (us:List Value) (vs:List V) (Q:VK) (E:XK),Room k A→Env0 P w K mg base A outer s H→BindsTo s fd args (ps.zip us)→Vals vs us→sp vs H Q E →
  codeAny (model P w) A (.call (.ref f) args) (CR CX outer P w H s Q E) s
theorem FnOk.mono {P:Program} {w:World} {K:PySem.W.Frag} {mg:Str→Option Value} {base:Heap} {CX:CXT} {j k:Nat} {f:Addr} {fd:FuncData} {ps:List Str} {sp:Sp} (F:FnOk P w K mg base CX j f fd ps sp) (h:j ≤ k) :
  FnOk P w K mg base CX k f fd ps sp:=⟨F.len,fun A outer s H args us vs Q E hr=>F.run A outer s H args us vs Q E (hr.mono h)⟩
theorem Env0.make {P:Program} {w:World} {K:PySem.W.Frag} {mg:Str→Option Value} {base:Heap} {A:Around} {outer:List Env} {s:Shared} {H:Hp} (e:Env0 P w K mg base A outer s H) (C:Addr) (us:List Value) (kw:List (Str×Value)) :
  Env0 P w K mg base (A.under (.builtin "type.__call__" ⟨.ref C :: us,kw⟩)) outer s H:=⟨by first | exact e.frames | (simpa [Around.under,Code.envs,Code.isFrame,pushEnvs] using e.frames),e.mod,e.bs,e.bsz,e.funs,e.frf,e.hok,e.bare⟩
section
variable {X:Cx} {pins:List (Addr×Obj)} {σ:St} {H:Hp} {s s':Shared}
theorem Inv.env0 (I:Inv X pins σ H s):Env0 X.prog X.w X.K X.mg X.base X.A X.stack s H :=
 ⟨I.ok.frames,I.ok.mod,I.bs,Nat.le_trans I.ok.bsz I.sz,I.stack,I.stkFree,I.hok,I.bare⟩
theorem Inv.after {Q:VK} {u:Value} (I:Inv X pins σ H s) (h:CE X.stack X.prog X.w H s Q u s'):EP X pins σ Q u s':=by
 obtain ⟨v,H',os,bare,un,hok,r,q⟩:=h
 obtain ⟨hh,g,d,t,os'⟩:=s'
 obtain rfl:os'=s.os:=os
 exact ⟨v,H',I.call (h':=hh) (g':=g) (d':=d) (t':=t) (ch:=[]) un hok bare (fun b z=>absurd z (by simp)),r,q⟩
end
def tCall (sp:Sp) (dvs:List V) (E:XK) (t:TA):TE:=fun σ H Q=>t σ H fun vs H1=>sp (vs ++ dvs) H1 Q E
def tMeth (C:Addr) (m:Str) (sp:Sp) (dvs:List V) (E:XK) (ta:TE) (t:TA):TE:=fun σ H Q=>ta σ H fun x H1=>∃ a dx fs,x=.ref a∧H1 a=some (.ins C dx fs)∧fs.lookup m=none ∧
 t σ H1 fun vs H2=>sp (x :: (vs ++ dvs)) H2 Q E
def tMake (C:Addr) (sp:Sp) (dvs:List V) (E:XK) (t:TA):TE:=fun σ H Q=>t σ H fun vs H1=>∀ x dx,H1 x=none→H1 dx=none→dx ≠ x →
 sp (.ref x :: (vs ++ dvs)) (upd (upd H1 dx (.own x)) x (.ins C dx [])) (fun v H2=>v=.non∧Q (.ref x) H2) E
def Binds (K:PySem.W.Frag) (fd:FuncData) (ps:List Str) (ds:List Value):Prop :=
 ∀ (s:Shared) (us:List Value),K.In s.heap→(us ++ ds).length=ps.length→BindsTo s fd ⟨us,[]⟩ (ps.zip (us ++ ds))
theorem Binds.all {K:PySem.W.Frag} {fd:FuncData} {ps:List Str} (h:∀ us:List Value,us.length=ps.length→bindArgs fd ⟨us,[]⟩=pure (ps.zip us)):Binds K fd ps []:=fun s us _ hl=>by
 rw [List.append_nil] at hl ⊢
 exact .of_eq (h us hl)
def Passes (CX:CXT) (X:Cx) (E:XK):Prop:=∀ (pins:List (Addr×Obj)) (σ:St) (H:Hp) (s:Shared) (e:Value) (s':Shared),Inv X pins σ H s→CX X.stack H s E e s'→X.xe e s'
section
variable {X:Cx} {CX:CXT} {k:Nat} {f C:Addr} {fd:FuncData} {ps:List Str} {sp:Sp} {dvs:List V} {ds:List Value} {E:XK} {x m:Str} {p pos apos:Pos} {e o:Expr} {es:List Expr} {ta:TE} {t:TA}
theorem run_fn {pins:List (Addr×Obj)} {σ:St} {H:Hp} {s:Shared} {Q:VK} {us:List Value} {vs:List V} (F:FnOk X.prog X.w X.K X.mg X.base CX k f fd ps sp) (hr:Room k X.A) (hb:Binds X.K fd ps ds) (hd:Vals dvs ds) (hx:Passes CX X E)
  (I:Inv X pins σ H s) (r:Vals vs us) (h:sp (vs ++ dvs) H Q E):wpAny (model X.prog X.w) X.A (call (.ref f) us) (EP X pins σ Q) X.xe s:=by
 have r2:Vals (vs ++ dvs) (us ++ ds):=r.append hd
 have hl:(us ++ ds).length=ps.length:=by rw [← r2.length]; exact F.len _ _ _ _ h
 refine wpAny_call (codeAny_mono (F.run X.A X.stack s H ⟨us,[]⟩ (us ++ ds) (vs ++ dvs) Q E hr I.env0 (hb s us I.kIn hl) r2 h) fun r s' hq=>?_)
 cases r with
 | error e=>exact hx pins σ H s e s' I hq
 | ok fl =>
  cases fl with
  | ret u=>exact I.after hq
  | next=>exact False.elim hq
  | brk=>exact False.elim hq
  | cont=>exact False.elim hq
theorem pe_call (F:FnOk X.prog X.w X.K X.mg X.base CX k f fd ps sp) (hr:Room k X.A) (hg:Gl X x) (hm:X.mg x=some (.ref f)) (hk:PySem.W.keepIn X.K (.ref f)=true) (hb:Binds X.K fd ps ds) (hd:Vals dvs ds) (hx:Passes CX X E)
  (ha:PA X (e :: es) t) (hdb:(x == ("__debug__" : Str))=false:=by decide) (he:starEach (e :: es) X.env=(false,eval e X.env) :: starEach es X.env:=by rfl) (hpl:(backTo pos (starEach es X.env)).any (·.1)=false:=by rfl) :
  PE X (.Call (.Name x p) (e :: es) [] pos) (tCall sp dvs E t):=by
 intro pins s σ H Q I h
 refine wpAny_Call_Name_kw (ld_glob I hg hm ?_ hdb)
 refine PySem.W.callWith_K (h₀:=X.base) I.ok.mod.kin hk (thn (ha pos pins s σ H _ I h) fun us s1 ⟨vs,H1,I1,r,q⟩=>⟨I1.kIn,?_⟩) he hpl
 exact run_fn F hr hb hd hx I1 r q
theorem pe_meth {pl:Sem Bool} (he:PE X o ta) (c:Cls X.K C) (hm:Meth X.K C m f) (F:FnOk X.prog X.w X.K X.mg X.base CX k f fd ps sp) (hr:Room k X.A) (hb:Binds X.K fd ps ds) (hd:Vals dvs ds) (hx:Passes CX X E) (ha:PA X (e :: es) t)
  (hst:starEach (e :: es) X.env=(false,eval e X.env) :: starEach es X.env:=by rfl) (hpl:(backTo pos (starEach es X.env)).any (·.1)=false:=by rfl)
  (ht:eval (.Call (.Attribute o m apos) (e :: es) [] pos) X.env=(do
   let ov ← eval o X.env
   standAt apos.atName
   let (f,first) ← holding [ov] (getMethod ov m pl)
   callWith pos f first (backTo pos (starEach (e :: es) X.env)) (backToKw pos (keywordEach [] X.env))):=by rfl) :
  PE X (.Call (.Attribute o m apos) (e :: es) [] pos) (tMeth C m sp dvs E ta t):=by
 intro pins s σ H Q I h
 refine PySem.W.methodCall_KW (pl:=pl) (thn (he pins s σ H _ I h) fun u s1 ⟨x,H1,I1,rx,a,dx,fs,ex,ea,l,q⟩=>?_) ht
 subst ex
 obtain rfl:u=Value.ref a:=rx
 refine getmeth_ok I1 ea c hm l ?_
 refine PySem.W.callWith_K (first:=[.ref a]) (h₀:=X.base) I.ok.mod.kin hm.kp (thn (ha pos pins s1 σ H1 _ I1 q) fun us s2 ⟨vs,H2,I2,r,q2⟩=>⟨I2.kIn,?_⟩) hst hpl
 exact run_fn (us:=.ref a :: us) (vs:=.ref a :: vs) F hr hb hd hx I2 (.cons rfl r) q2
theorem pe_meth0 {pl:Sem Bool} (he:PE X o ta) (c:Cls X.K C) (hm:Meth X.K C m f) (F:FnOk X.prog X.w X.K X.mg X.base CX k f fd ps sp) (hr:Room k X.A) (hb:Binds X.K fd ps ds) (hd:Vals dvs ds) (hx:Passes CX X E)
  (ht:eval (.Call (.Attribute o m apos) [] [] pos) X.env=(do
   let ov ← eval o X.env
   standAt apos.atName
   let (f,first) ← holding [ov] (getMethod ov m pl)
   callWith pos f first (backTo pos (starEach [] X.env)) (backToKw pos (keywordEach [] X.env))):=by rfl) :
  PE X (.Call (.Attribute o m apos) [] [] pos) (tMeth C m sp dvs E ta tNil):=by
 intro pins s σ H Q I h
 refine PySem.W.methodCall_KW (pl:=pl) (thn (he pins s σ H _ I h) fun u s1 ⟨x,H1,I1,rx,a,dx,fs,ex,ea,l,q⟩=>?_) ht
 subst ex
 obtain rfl:u=Value.ref a:=rx
 refine getmeth_ok I1 ea c hm l ?_
 exact PySem.W.callWith_K0 (first:=[.ref a]) I1.kIn hm.kp (run_fn (us:=[.ref a]) (vs:=[.ref a]) F hr hb hd hx I1 (.cons rfl .nil) q)
structure Mk (K:PySem.W.Frag) (C f:Addr):Prop where
 makes:PySem.W.makesIn K C=true
 init:PySem.W.findIn K (.ref C) "__init__" = some (some (.ref f))
 fn:PySem.W.isFn K (.ref f)=true
 kp:PySem.W.keepIn K (.ref C)=true
theorem run_make {pins:List (Addr×Obj)} {σ:St} {H:Hp} {s:Shared} {Q:VK} {us:List Value} {vs:List V} (M:Mk X.K C f) (F:FnOk X.prog X.w X.K X.mg X.base CX k f fd ps sp) (hr:Room (k + 1) X.A) (hb:Binds X.K fd ps ds) (hd:Vals dvs ds)
  (hx:Passes CX X E) (I:Inv X pins σ H s) (r:Vals vs us)
  (h:∀ x dx,H x=none→H dx=none→dx ≠ x→sp (.ref x :: (vs ++ dvs)) (upd (upd H dx (.own x)) x (.ins C dx [])) (fun v H2=>v=.non∧Q (.ref x) H2) E) :
  wpAny (model X.prog X.w) X.A (call (.ref C) us) (EP X pins σ Q) X.xe s:=by
 have hq:=h (s.heap.objs.size + 1) s.heap.objs.size (I.hok.fresh (Nat.le_succ _)) (I.hok.fresh (Nat.le_refl _)) (Nat.ne_of_lt (Nat.lt_succ_self _))
 have I2:=Inv.made (C:=C) I
 have r2:Vals (V.ref (s.heap.objs.size + 1) :: (vs ++ dvs)) (Value.ref (s.heap.objs.size + 1) :: (us ++ ds)):=.cons rfl (r.append hd)
 have hl:(Value.ref (s.heap.objs.size + 1) :: us ++ ds).length=ps.length:=by
  have e:=r2.length
  rw [F.len _ _ _ _ hq] at e
  exact e.symm
 refine wpAny_call (make_map (f:=f) I.kIn M.makes M.init (beq_iff_eq.mp M.fn) (codeAny_mono (F.run _ X.stack _ _ ⟨Value.ref (s.heap.objs.size + 1) :: us,[]⟩ (Value.ref (s.heap.objs.size + 1) :: (us ++ ds)) _ _ E (hr.make C us [])
  (I2.env0.make C us []) (hb _ (Value.ref (s.heap.objs.size + 1) :: us) I2.kIn hl) r2 hq) fun r s' hq'=>?_))
 cases r with
 | error e=>exact hx pins σ _ _ e s' I2 hq'
 | ok fl =>
  cases fl with
  | ret u =>
   obtain ⟨v,H',I3,rv,ev,q3⟩:=I2.after hq'
   subst ev
   exact ⟨rv,⟨V.ref (s.heap.objs.size + 1),H',I3,rfl,q3⟩⟩
  | next=>exact False.elim hq'
  | brk=>exact False.elim hq'
  | cont=>exact False.elim hq'
end
def PK (X:Cx) (kws:List Keyword) (t:TA):Prop :=
 ∀ (pos:Pos) (pins:List (Addr×Obj)) (s:Shared) (σ:St) (H:Hp) (Q:List V→Hp→Prop),Inv X pins σ H s→t σ H Q→wpAny (model X.prog X.w) X.A (evalAll ((backToKw pos (keywordEach kws X.env)).map (·.2))) (AP X pins σ Q) X.xe s
section
variable {X:Cx} {CX:CXT} {k:Nat} {f C:Addr} {fd:FuncData} {ps ks:List Str} {sp:Sp} {E:XK} {x m:Str} {p pos apos kpos:Pos} {e o:Expr} {es:List Expr} {kws:List Keyword} {te ta:TE} {t tk:TA} {nm:Option Str}
structure KBinds (K:PySem.W.Frag) (fd:FuncData) (ps ks:List Str) (g:List Value→List Value→List Value) (gV:List V→List V→List V):Prop where
 to:∀ (s:Shared) (us ws:List Value),K.In s.heap→(g us ws).length=ps.length→BindsTo s fd ⟨us,ks.zip ws⟩ (ps.zip (g us ws))
 rel:∀ {vs:List V} {us:List Value} {zs:List V} {ws:List Value},Vals vs us→Vals zs ws→Vals (gV vs zs) (g us ws)
def tCallK (sp:Sp) (gV:List V→List V→List V) (E:XK) (t tk:TA):TE:=fun σ H Q=>t σ H fun vs H1=>tk σ H1 fun zs H2=>sp (gV vs zs) H2 Q E
variable {g:List Value→List Value→List Value} {gV:List V→List V→List V}
end
structure FnScope (N P:List Str) (sc:Scope):Prop where
 kind:sc.kind=.function
 co:sc.isCoroutine=false
 gen:sc.isGenerator=false
 nd:N.Nodup
 pre:N.take P.length=P
 par:∀ x ∈ P,sc.names.lookup x=some .local∨sc.names.lookup x=some .cell
 nofree:∀ y ∈ sc.names,y.2 ≠ .free
theorem bindL_out {kindOf:Str→Option NameKind} {x:Str}:∀ {binds:List (Str×Value)} {m:Str→Option Value},(∀ v,(x,v) ∉ binds)→bindL kindOf binds m x=m x
 | [],_,_=>rfl
 | (n,v) :: r,m,h=>by
  unfold bindL
  rw [bindL_out fun w hw=>h w (List.mem_cons_of_mem _ hw)]
  split
  ·have:x ≠ n:=by rintro rfl; exact h v List.mem_cons_self
   simp [this]
  ·rfl
theorem bindC_out {kindOf:Str→Option NameKind} {x:Str}:∀ {binds:List (Str×Value)} {m:Str→Option Value},(∀ v,(x,v) ∉ binds)→bindC kindOf binds m x=m x
 | [],_,_=>rfl
 | (n,v) :: r,m,h=>by
  unfold bindC
  rw [bindC_out fun w hw=>h w (List.mem_cons_of_mem _ hw)]
  split
  ·rfl
  ·have:x ≠ n:=by rintro rfl; exact h v List.mem_cons_self
   simp [this]
theorem bindL_get {kindOf:Str→Option NameKind} {x:Str} {v:Value}:∀ {P:List Str} {vs:List Value} {i:Nat} {m:Str→Option Value},P.Nodup→P[i]? = some x→vs[i]? = some v→kindOf x=some .local →
  bindL kindOf (P.zip vs) m x=some v
 | [],_,_,_,_,h,_,_=>by simp at h
 | _ :: _,[],_,_,_,_,h,_=>by simp at h
 | p :: P,w :: vs,0,m,nd,h1,h2,hk=>by
  simp at h1 h2; subst h1; subst h2
  show bindL kindOf ((p,w) :: P.zip vs) m p=_
  unfold bindL
  rw [bindL_out fun v hv=>(List.nodup_cons.mp nd).1 (List.of_mem_zip hv).1,if_pos hk]
  simp
 | p :: P,w :: vs,i + 1,m,nd,h1,h2,hk=>by
  show bindL kindOf ((p,w) :: P.zip vs) m x=_
  unfold bindL
  exact bindL_get (i:=i) (List.nodup_cons.mp nd).2 (by simpa using h1) (by simpa using h2) hk
theorem bindC_get {kindOf:Str→Option NameKind} {x:Str} {v:Value}:∀ {P:List Str} {vs:List Value} {i:Nat} {m:Str→Option Value},P.Nodup→P[i]? = some x→vs[i]? = some v→kindOf x ≠ some .local →
  bindC kindOf (P.zip vs) m x=some v
 | [],_,_,_,_,h,_,_=>by simp at h
 | _ :: _,[],_,_,_,_,h,_=>by simp at h
 | p :: P,w :: vs,0,m,nd,h1,h2,hk=>by
  simp at h1 h2; subst h1; subst h2
  show bindC kindOf ((p,w) :: P.zip vs) m p=_
  unfold bindC
  rw [bindC_out fun v hv=>(List.nodup_cons.mp nd).1 (List.of_mem_zip hv).1,if_neg hk]
  simp
 | p :: P,w :: vs,i + 1,m,nd,h1,h2,hk=>by
  show bindC kindOf ((p,w) :: P.zip vs) m x=_
  unfold bindC
  exact bindC_get (i:=i) (List.nodup_cons.mp nd).2 (by simpa using h1) (by simpa using h2) hk
def start (N:List Str) (vs:List V):St:=vs.map some ++ List.replicate (N.length - vs.length) none
def cxOf (CX:CXT) (P:Program) (w:World) (K:PySem.W.Frag) (mg:Str→Option Value) (base:Heap) (N:List Str) (qual:Str) (scope:Scope) (f:Addr) (cd:Value) (A:Around) (outer:List Env) (s:Shared) (H:Hp) (E:XK):Cx where
 prog:=P
 w:=w
 K:=K
 mg:=mg
 base:=base
 A:=A.deeper (envOfC qual scope s.heap.objs.size f cd)
 N:=N
 s₀:=s
 H₀:=H
 env:=envOfC qual scope s.heap.objs.size f cd
 outer:=outer
 stack:=envOfC qual scope s.heap.objs.size f cd :: outer
 ex:=[]
 calm:=true
 fn:=fun _=>true
 pn:=[]
 xe:=fun e s'=>wpAny (model P w) (A.deeper (envOfC qual scope s.heap.objs.size f cd)) (leaving (envOfC qual scope s.heap.objs.size f cd) e) (fun _ s''=>CX outer H s E e s'') (fun e' s''=>CX outer H s E e' s'') s'
theorem cell_has {sc:Scope} {n:Nat} {x:Str} (h:sc.names.lookup x=some .cell):∃ c,(cellsFrom n sc.names []).lookup x=some c:=by
 have q:=PySem.W.cellsFrom_some sc.names n [] (.inl h)
 exact Option.isSome_iff_exists.mp q
theorem inv_start {CX:CXT} {P:Program} {w:World} {K:PySem.W.Frag} {mg:Str→Option Value} {base:Heap} {N ps:List Str} {qual:Str} {scope:Scope} {f:Addr} {cd:Value} {A:Around} {outer:List Env} {s s1:Shared} {H:Hp} {E:XK} {us:List Value} {vs:List V}
  (S:FnScope N ps scope) (hd:A.handled=none) (e0:Env0 P w K mg base A outer s H) (hl:vs.length=ps.length) (r:Vals vs us)
  (x:InCallC s s.heap.objs.size (bindL (envOfC qual scope s.heap.objs.size f cd).kindOf (ps.zip us) fun _=>none) (cellsFrom (s.heap.objs.size + 1) scope.names []) (bindC (envOfC qual scope s.heap.objs.size f cd).kindOf (ps.zip us) fun _=>none) s1) :
  Inv (cxOf CX P w K mg base N qual scope f cd A outer s H E) [] (start N vs) H s1:=by
 have hpl:ps.length ≤ N.length:=by have:=congrArg List.length S.pre; rw [List.length_take] at this; omega
 obtain ⟨h1,tk,rfl,hk⟩:=x.done
 have noA:∀ b:Addr,b ∉ (cxOf CX P w K mg base N qual scope f cd A outer s H E).ex:=fun b z=>absurd (show b ∈ ([]:List Addr) from z) (by simp)
 refine ⟨⟨e0.mod,S.kind,rfl,rfl,Nat.le_refl _,fun y z c h1 h2=>?_,fun y hy=>?_,fun y c _ h=>?_,fun _=>hd,Around.frames_deeper e0.frames,.inr ⟨rfl,rfl⟩,fun b z=>absurd z (noA b),e0.bs,e0.bsz,fun b _ _=>noA b,fun b z=>absurd z (noA b),e0.funs,e0.frf⟩,
  rfl,e0.bare,Un.kept hk,⟨_,x.toInCall.ns,fun i y v h1 h2 h3=>?_⟩,fun y c h=>⟨_,x.cell y c h⟩,e0.hok.fresh (Nat.le_refl _),fun y c h=>?_,fun p hp=>absurd (show p ∈ ([]:List (Addr×Obj)) from hp) (by simp),e0.hok.kept hk,?_⟩
 ·exact name_of_addr x.apart (PySem.mem_of_lookup h1) (PySem.mem_of_lookup h2)
 ·have hy:scope.names.lookup y=some .cell∨scope.names.lookup y=some .free:=hy
  rcases hy with hy | hy
  ·exact cell_has hy
  ·exact absurd rfl (S.nofree _ (PySem.mem_of_lookup hy))
 ·exact Nat.le_of_lt (x.above y c (PySem.mem_of_lookup h))
 ·have hi:i < vs.length:=by
   unfold start at h2
   by_cases hi:i < vs.length
   ·exact hi
   ·rw [List.getElem?_append_right (by simpa using hi)] at h2
    rw [List.getElem?_replicate] at h2
    split at h2 <;> cases h2
  have ha:vs[i]? = some v:=by
   unfold start at h2
   rw [List.getElem?_append_left (by simpa using hi),List.getElem?_map] at h2
   cases e:vs[i]? with
   | none=>rw [e] at h2; cases h2
   | some a=>rw [e] at h2; cases h2; rfl
  obtain ⟨u,hu,rv⟩:=r.get ha
  have hp:ps[i]? = some y:=by
   rw [← S.pre,List.getElem?_take_of_lt (by omega)]; exact h1
  have ndP:ps.Nodup:=by rw [← S.pre]; exact S.nd.sublist (List.take_sublist _ _)
  refine ⟨u,rv,?_⟩
  rcases S.par y (List.mem_of_getElem? hp) with k | k
  ·exact .inl ⟨k,bindL_get ndP hp hu k⟩
  ·obtain ⟨c,e⟩:=cell_has (n:=s.heap.objs.size + 1) k
   refine .inr ⟨.inl k,c,e,?_⟩
   have q:=x.cell y c e
   rw [bindC_get ndP hp hu (by show scope.names.lookup y ≠ _; rw [k]; decide)] at q
   exact q
 ·exact e0.hok.fresh (Nat.le_of_lt (x.above y c (PySem.mem_of_lookup h)))
 ·unfold start
  show _=N.length
  rw [List.length_append,List.length_map,List.length_replicate]
  omega
theorem fn_of {CX:CXT} {P:Program} {w:World} {K:PySem.W.Frag} {mg:Str→Option Value} {base:Heap} {k:Nat} {f:Addr} {name qual:Str} {params:Arguments} {body:List Stmt} {scope:Scope} {dV kV doc pm cdv ct oc:Value} {an od:Option Addr}
  {osl:Array (Option Value)} {N ps:List Str} {sp:Sp} (lk:K.lookup f=some ⟨oc,od,.func (PySem.W.fnOf name qual params body scope dV kV doc pm an cdv ct),osl⟩) (hcd:PySem.W.codeIn K cdv qual=true) (S:FnScope N ps scope)
  (len:∀ vs H Q E,sp vs H Q E→vs.length=ps.length)
  (hbody:∀ (A:Around) (outer:List Env) (s:Shared) (H:Hp) (vs:List V) (Q:VK) (E:XK),Room k (A.deeper (envOfC qual scope s.heap.objs.size f cdv))→sp vs H Q E →
   ∃ t,PSs (cxOf CX P w K mg base N qual scope f cdv A outer s H E) body t∧t { nx:=fun _ H'=>Q .non H',rt:=Q } (start N vs) H) :
  FnOk P w K mg base CX (k + 1) f (PySem.W.fnOf name qual params body scope dV kV doc pm an cdv ct) ps sp:=by
 refine ⟨len,fun A outer s H args us vs Q E hr e0 hb r hsp=>?_⟩
 have hl:=len _ _ _ _ hsp
 have KX:K.In s.heap:=e0.mod.kin.keeps fun b o e=>(e0.bs b o e).1
 have lim:s.heap.NoLimit:=e0.mod.nolimit.keeps fun b o e=>(e0.bs b o e).1
 have hkind:∀ y ∈ ps.zip us,scope.names.lookup y.1=some .local∨(scope.names.lookup y.1=some .cell∧((cellsFrom (s.heap.objs.size + 1) scope.names []).lookup y.1).isSome=true):=fun ⟨n,v⟩ hy=>by
  rcases S.par n (List.of_mem_zip hy).1 with q | q
  ·exact .inl q
  ·exact .inr ⟨q,PySem.W.cellsFrom_some _ _ _ (.inl q)⟩
 refine codeAny_call_function hr.depth (KX _ _ lk) rfl S.co S.gen rfl (PySem.W.codeRec_of KX hcd) (hb _ _ _ _ ?_)
 refine wpAny_newFunctionEnv_cells S.kind hkind fun env he s1 x=>?_
 subst he
 refine ⟨lim.keeps x.toInCall.keep,codeAny_func ?_⟩
 obtain ⟨t,ht,hq⟩:=hbody A outer s H vs Q E (hr.deeper _) hsp
 have I:Inv (cxOf CX P w K mg base N qual scope f cdv A outer s H E) [] (start N vs) H s1:=inv_start S hr.hd e0 hl r x
 refine wpAny_mono (ht [] s1 (start N vs) H _ I hq) (fun fl s' hs=>?_) fun e s' hs=>hs
 have fin:∀ {σ':St} {H':Hp} {v:V} {u:Value},Inv (cxOf CX P w K mg base N qual scope f cdv A outer s H E) [] σ' H' s'→RelV v u→Q v H'→CE outer P w H s Q u s' :=
  fun {σ' H' v u} J rv q=>⟨v,H',J.os,J.bare,J.base,J.hok,rv,q⟩
 cases fl with
 | ret u =>
  obtain ⟨v,σ',H',J,rv,q⟩:=hs
  exact fin J rv q
 | next =>
  obtain ⟨σ',H',J,q⟩:=hs
  exact fin (v:=V.non) (u:=Value.none) J rfl q
 | brk =>
  obtain ⟨_,_,_,q⟩:=hs
  exact False.elim q
 | cont =>
  obtain ⟨_,_,_,q⟩:=hs
  exact False.elim q
end L2
namespace L2
open PySem PySem.Spec PyProof.Rows
section
variable {X:Cx} {x:Str} {p pos:Pos} {e:Expr} {es:List Expr} {t:TA} {id T:String} {r:List V→Hp→VK→Prop}
def tCB (r:List V→Hp→VK→Prop) (t:TA):TE:=fun σ H Q=>t σ H fun vs H1=>r vs H1 Q
theorem pe_callB (hc:CallR X (.builtin id) r) (hg:Gl X x) (hm:X.mg x=none) (hv:bootBuiltins x=some (.builtin id)) (ha:PA X (e :: es) t) (hn:x ≠ "__name__" := by decide) (hdb:(x == ("__debug__" : Str))=false:=by decide)
  (he:starEach (e :: es) X.env=(false,eval e X.env) :: starEach es X.env:=by rfl) (hpl:(backTo pos (starEach es X.env)).any (·.1)=false:=by rfl):PE X (.Call (.Name x p) (e :: es) [] pos) (tCB r t):=by
 intro pins s σ H Q I h
 refine wpAny_Call_Name_kw (ld_blt I hg hm hv ?_ hn hdb)
 exact PyProof.Rows.callWith_builtin1 (thn (ha pos pins s σ H _ I h) fun us s1 ⟨vs,H1,I1,r1,q1⟩=>hc pins s1 σ H1 vs us Q I1 r1 q1) he hpl
theorem pe_callTy (hc:CallR X (.type T) r) (hg:Gl X x) (hm:X.mg x=none) (hv:bootBuiltins x=some (.type T)) (ha:PA X (e :: es) t) (hn:x ≠ "__name__" := by decide) (hdb:(x == ("__debug__" : Str))=false:=by decide)
  (he:starEach (e :: es) X.env=(false,eval e X.env) :: starEach es X.env:=by rfl) (hpl:(backTo pos (starEach es X.env)).any (·.1)=false:=by rfl):PE X (.Call (.Name x p) (e :: es) [] pos) (tCB r t):=by
 intro pins s σ H Q I h
 refine wpAny_Call_Name_kw (ld_blt I hg hm hv ?_ hn hdb)
 exact PyProof.Rows.callWith_type1 (thn (ha pos pins s σ H _ I h) fun us s1 ⟨vs,H1,I1,r1,q1⟩=>hc pins s1 σ H1 vs us Q I1 r1 q1) he hpl
end
end L2
namespace HT
open PySem PyProof.Rows
def lexLt:List Int→List Int→Bool
 | [],[]=>false
 | [],_ :: _=>true
 | _ :: _,[]=>false
 | x :: xs,y :: ys=>if x=y then lexLt xs ys else decide (x < y)
section
open PySem.SeqAt
open PySem.AutoSeq1 (wpAny_loadPart')
open PySem.MeetsSeq PySem.MeetsSeq2 PySem.MeetsSeq3
end
section
variable {prog:Program} {w:World} {A:Around} {E:Value→Shared→Prop} {s:Shared}
def sIx (n d:Nat):Option Int→Nat
 | none=>d
 | some v=>if v < 0 then (v + (n:Int)).toNat else min v.toNat n
theorem sIx_none (n d:Nat):sIx n d none=d:=rfl
theorem sIx_nat (n d k:Nat):sIx n d (some (k:Int))=min k n:=by
 show (if (k:Int) < 0 then ((k:Int) + (n:Int)).toNat else min (k:Int).toNat n)=min k n
 rw [if_neg (by omega),Int.toNat_natCast]
theorem sIx_le (n d:Nat) (hd:d ≤ n) (o:Option Int):sIx n d o ≤ n:=by
 cases o with
 | none=>exact hd
 | some v =>
  show (if v < 0 then (v + (n:Int)).toNat else min v.toNat n) ≤ n
  by_cases hv:v < 0
  ·rw [if_pos hv]; omega
  ·rw [if_neg hv]; exact Nat.min_le_right _ _
theorem clip_eq (v:Int) (n d:Nat):(if v < 0 then max (v + (n:Int)) 0 else min v (n:Int))=((sIx n d (some v):Nat):Int):=by
 show (if v < 0 then max (v + (n:Int)) 0 else min v (n:Int))=(((if v < 0 then (v + (n:Int)).toNat else min v.toNat n):Nat):Int)
 by_cases hv:v < 0
 ·simp only [if_pos hv]; omega
 ·simp only [if_neg hv]; omega
theorem adjust_gen (lo hi:Option Int) (n:Nat):Builtin.Slice.sliceAdjust lo hi 1 (n:Int)=(((sIx n 0 lo:Nat):Int),((sIx n n hi:Nat):Int)):=by
 have h1:¬ ((1:Int) < 0):=by omega
 unfold Builtin.Slice.sliceAdjust
 simp only [h1,if_false]
 refine Prod.ext ?_ ?_
 ·cases lo with
  | none=>rfl
  | some v=>exact clip_eq v n 0
 ·cases hi with
  | none=>rfl
  | some v=>exact clip_eq v n n
theorem places_gen (i j:Nat):Builtin.Slice.slicePlaces (i:Int) (j:Int) 1=j - i:=by
 unfold Builtin.Slice.slicePlaces
 have h1:(1:Int) > 0:=by omega
 simp only [h1,if_true,Int.ediv_one]
 split <;> omega
theorem slicePart_ {v:Value} {o:Option Int} {Q:Option Int→Shared→Prop} (p:IsPart v o) (h:Q o s):wpAny (model prog w) A (Builtin.Slice.slicePartIndex v) Q E s:=by
 cases p with
 | none=>exact slicePart_none h
 | int i t=>exact slicePart_int h
theorem sliceApplied_gen {sl:Addr} {vl vu:Value} {lo hi:Option Int} {n:Nat} {Q:Int×Int×Nat→Shared→Prop} (hs:s.heap.IsSliceOf sl vl vu .none) (pl:IsPart vl lo) (pu:IsPart vu hi)
  (h:Q (((sIx n 0 lo:Nat):Int),1,sIx n n hi - sIx n 0 lo) s):wpAny (model prog w) A (Builtin.Slice.sliceApplied (.ref sl) (pure (n:Int))) Q E s:=by
 obtain ⟨os,hos,hcs,hds⟩:=id hs
 unfold Builtin.Slice.sliceApplied Builtin.Slice.sliceFields
 refine wpAny_bind (wpAny_bind (wpAny_field hos hds (x:=vl) rfl (wpAny_bind (wpAny_field hos hds (x:=vu) rfl (wpAny_bind (wpAny_field hos hds (x:=.none) rfl (wpAny_pure ?_)))))))
 refine wpAny_bind (slicePart_none ?_)
 show wpAny _ _ (if ((1:Int) == 0)=true then _ else _) _ _ s
 rw [if_neg (by decide)]
 refine wpAny_bind (slicePart_ pl (wpAny_bind (slicePart_ pu (wpAny_bind (wpAny_pure ?_)))))
 show wpAny _ _ (match Builtin.Slice.sliceAdjust lo hi 1 (n:Int) with | (lo,hi)=>pure (lo,(1:Int),Builtin.Slice.slicePlaces lo hi 1)) _ _ s
 rw [adjust_gen lo hi n]
 show wpAny _ _ (pure (((sIx n 0 lo:Nat):Int),(1:Int),Builtin.Slice.slicePlaces ((sIx n 0 lo:Nat):Int) ((sIx n n hi:Nat):Int) 1)) _ _ s
 rw [places_gen]
 exact wpAny_pure h
theorem pick_gen (xs:Array Value) (i k:Nat):((List.range k).filterMap fun (m:Nat)=>xs[((i:Int) + (m:Int) * 1).toNat]?).toArray=((xs.toList.drop i).take k).toArray:=by
 have e:(fun (m:Nat)=>xs[((i:Int) + (m:Int) * 1).toNat]?)=fun m=>xs[i + m]? := by
  funext m
  have:((i:Int) + (m:Int) * 1).toNat=i + m:=by omega
  rw [this]
 rw [e]
 have:=pick_run xs i k
 rw [List.filterMap_map] at this
 have e2:((fun x=>xs[x]?) ∘ fun x=>i + x)=fun m=>xs[i + m]? := rfl
 rw [e2] at this
 rw [this]
theorem getItem_tuple_cut {t sl:Addr} {items:Array Value} {vl vu:Value} {lo hi:Option Int} {Q:Value→Shared→Prop} (ht:IsTup s.heap t items) (hs:s.heap.IsSliceOf sl vl vu .none) (pl:IsPart vl lo) (pu:IsPart vu hi)
  (hw:¬ (sIx items.size 0 lo=0∧sIx items.size items.size hi=items.size))
  (h:Q (.ref s.heap.objs.size) { s with heap:=s.heap.push { cls:=.type "tuple",data:=.seq ((items.toList.drop (sIx items.size 0 lo)).take (sIx items.size items.size hi - sIx items.size 0 lo)).toArray } })
  (hsz:items.size ≤ sizeLine):wpAny (model prog w) A (getItem (.ref t) (.ref sl)) Q E s:=by
 have htake:sizeOk (.seq ((items.toList.drop (sIx items.size 0 lo)).take (sIx items.size items.size hi - sIx items.size 0 lo)).toArray):=by
  show ((items.toList.drop (sIx items.size 0 lo)).take (sIx items.size items.size hi - sIx items.size 0 lo)).toArray.size ≤ sizeLine
  rw [List.size_toArray,List.length_take,List.length_drop,Array.length_toList]
  omega
 have hj:sIx items.size items.size hi ≤ items.size:=sIx_le _ _ (Nat.le_refl _) hi
 obtain ⟨os,hos,hcs,hds⟩:=id hs
 have hTs:s.TypeIs (.ref sl) "slice" := ⟨os,hos,hcs⟩
 unfold getItem
 try with_reducible refine wpAny_holding ?_
 first | refine wpAny_bind (wpAny_pure ?_) | skip
 refine wpAny_bind (wpAny_sequenceKey ht.typeIs (by decide) ?_)
 refine wpAny_bind (wpAny_callSpecial?_slot (name:=Str.ofString "__getitem__") ht.typeIs PyProof.Rows.slot_tuple_getitem
  (wpAny_call_entry PyProof.Rows.slot_tuple_getitem ht.typeIs entry_tuple_getitem ?_ (args_tuple_getitem _ _)))
 show wpAny _ _ (Builtin.Tuple.tupleItemsOf (.ref t) >>= _) _ _ s
 refine wpAny_bind (tupleItemsOf_ ht ?_)
 refine wpAny_bind (wpAny_typeOf hTs ?_)
 rw [if_pos (by decide)]
 refine wpAny_bind (sliceApplied_gen hs pl pu ?_)
 have hno:¬ ((((sIx items.size 0 lo:Nat):Int) == 0 && (1:Int) == 1 && (sIx items.size items.size hi - sIx items.size 0 lo) == items.size)=true):=by
  intro q
  rw [Bool.and_eq_true,Bool.and_eq_true] at q
  have q1:((sIx items.size 0 lo:Nat):Int)=0:=eq_of_beq q.1.1
  have q2:sIx items.size items.size hi - sIx items.size 0 lo=items.size:=eq_of_beq q.2
  exact hw ⟨by omega,by omega⟩
 show wpAny _ _ (if (((sIx items.size 0 lo:Nat):Int) == 0 && (1:Int) == 1 && (sIx items.size items.size hi - sIx items.size 0 lo) == items.size)=true then _ else _) _ _ s
 rw [if_neg hno,pick_gen]
 first
  | exact wpAny_bind (m:=Builtin.Tuple.tupleExact _) (wpAny_newObj_type (wpAny_pure ⟨_,rfl,wpAny_pure h⟩) htake)
  | exact wpAny_bind (m:=Builtin.Tuple.tupleExact _) (wpAny_newObj_type (wpAny_bind (wpAny_pure (wpAny_pure ⟨_,rfl,wpAny_pure h⟩))) htake)
  | exact wpAny_bind (wpAny_bind (m:=Builtin.Tuple.tupleExact _) (wpAny_newObj_type (wpAny_pure (wpAny_pure ⟨_,rfl,wpAny_pure h⟩)) htake))
  | exact wpAny_bind (wpAny_bind (m:=Builtin.Tuple.tupleExact _) (wpAny_newObj_type (wpAny_pure ⟨_,rfl,wpAny_pure h⟩) htake))
end
end HT
namespace L2
open PySem PySem.Spec PyProof.Rows
abbrev TO:=St→Hp→(Option Int→Hp→Prop)→Prop
def PO (X:Cx) (e:Option Expr) (t:TO):Prop :=
 ∀ (pins:List (Addr×Obj)) (s:Shared) (σ:St) (H:Hp) (Q:Option Int→Hp→Prop),Inv X pins σ H s→t σ H Q →
  wpAny (model X.prog X.w) X.A (evalPart e X.env) (fun u s'=>∃ o H',Inv X pins σ H' s'∧IsPart u o∧Q o H') X.xe s
def tNoPart:TO:=fun _ H Q=>Q none H
def tPart (t:TE):TO:=fun σ H Q=>t σ H fun x H1=>∃ i,x=.int i∧Q (some i) H1
section
variable {X:Cx} {e:Expr} {te:TE} {lo hi:Option Expr} {tl th:TO} {pos p2:Pos}
theorem po_none:PO X none tNoPart:=by
 intro pins s σ H Q I h
 rw [evalPart_none]
 exact wpAny_pure ⟨none,H,I,.none,h⟩
theorem po_some (h:PE X e te):PO X (some e) (tPart te):=by
 intro pins s σ H Q I hw
 rw [evalPart_some]
 refine thn (h pins s σ H _ I hw) fun u s1 ⟨x,H1,I1,r1,q1⟩=>?_
 obtain ⟨i,rfl,q⟩:=q1
 obtain ⟨t,rfl⟩:=r1
 exact ⟨some i,H1,I1,.int i t,q⟩
def SlR (X:Cx) (r:V→Option Int→Option Int→Hp→VK→Prop):Prop :=
 ∀ (pins:List (Addr×Obj)) (s:Shared) (σ:St) (H:Hp) (x:V) (v vl vu:Value) (lo hi:Option Int) (sl:Addr) (Q:VK),Inv X pins σ H s→RelV x v→s.heap.IsSliceOf sl vl vu .none→IsPart vl lo→IsPart vu hi→r x lo hi H Q →
  ∃ T id,typeLookup (.type T) "__getitem__" = pure (some (.builtin id))∧s.TypeIs v T∧wpAny (model X.prog X.w) X.A (getItem v (.ref sl)) (EP X pins σ Q) X.xe s
theorem SlR.or {r r':V→Option Int→Option Int→Hp→VK→Prop} (h:SlR X r) (h':SlR X r'):SlR X (fun x lo hi H Q=>r x lo hi H Q∨r' x lo hi H Q):=by
 intro pins s σ H x v vl vu lo hi sl Q I rx hs pl pu q
 rcases q with q | q
 ·exact h pins s σ H x v vl vu lo hi sl Q I rx hs pl pu q
 ·exact h' pins s σ H x v vl vu lo hi sl Q I rx hs pl pu q
def tSl (r:V→Option Int→Option Int→Hp→VK→Prop) (te:TE) (tl th:TO):TE:=fun σ H Q=>te σ H fun x H1=>tl σ H1 fun l H2=>th σ H2 fun u H3=>r x l u H3 Q
theorem pe_slice {r:V→Option Int→Option Int→Hp→VK→Prop} (hr:SlR X r) (he:PE X e te) (hl:PO X lo tl) (hu:PO X hi th):PE X (.Subscript e (.Slice lo hi none p2) pos) (tSl r te tl th):=by
 intro pins s σ H Q I h
 refine Subscript_ (thn (he pins s σ H _ I h) fun v s1 ⟨x,H1,I1,r1,q1⟩=>?_)
 refine wpAny_Slice (thn (hl pins s1 σ H1 _ I1 q1) fun vl s2 ⟨l,H2,I2,pl,q2⟩=>thn (hu pins s2 σ H2 _ I2 q2) fun vu s3 ⟨u,H3,I3,pu,q3⟩=>?_)
 rw [evalPart_none]
 refine wpAny_pure ?_
 have I4:Inv X pins σ H3 { s3 with heap:=s3.heap.push { cls:=.type "slice",data:=.fields #[vl,vu,.none] } }:=I3.kept (t':=s3.toks) fun b ob q=>Heap.get?_push_of_some _ q
 obtain ⟨T,id,hT,ht,hg⟩:=hr pins { s3 with heap:=s3.heap.push { cls:=.type "slice",data:=.fields #[vl,vu,.none] } } σ H3 x v vl vu l u s3.heap.objs.size Q I4 r1 (Heap.IsSliceOf.new ..) pl pu q3
 show wpAny (model X.prog X.w) X.A (subscriptTail e (.Slice lo hi none p2) v (.ref s3.heap.objs.size)) (EP X pins σ Q) X.xe { s3 with heap:=s3.heap.push { cls:=.type "slice",data:=.fields #[vl,vu,.none] } }
 exact tail_any (ops:=[.ref s3.heap.objs.size,v]) ht hT hg (by with_unfolding_all rfl)
def cutV (xs:List V) (lo hi:Option Int):List V:=(xs.drop (HT.sIx xs.length 0 lo)).take (HT.sIx xs.length xs.length hi - HT.sIx xs.length 0 lo)
theorem cutV_length (xs:List V) (lo hi:Option Int):(cutV xs lo hi).length ≤ xs.length:=by
 unfold cutV
 rw [List.length_take,List.length_drop]
 omega
def rSlT (K:PySem.W.Frag):V→Option Int→Option Int→Hp→VK→Prop:=fun x lo hi H Q=>∃ a xs,x=.ref a∧SqT K H a xs ∧
 ¬ (HT.sIx xs.length 0 lo=0∧HT.sIx xs.length xs.length hi=xs.length)∧∀ p,H p=none→Q (.ref p) (upd H p (.tup (cutV xs lo hi)))
theorem sl_tup:SlR X (rSlT X.K):=by
 intro pins s σ H x v vl vu lo hi sl Q I rx hs pl pu h
 obtain ⟨a,xs,rfl,hx,hw,q⟩:=h
 cases rx
 obtain ⟨its,r,ht,hz⟩:=I.tuple hx
 have hlen:its.toArray.size=xs.length:=by rw [List.size_toArray]; exact r.length.symm
 refine ⟨"tuple",_,PyProof.Rows.slot_tuple_getitem.lookup,ht.typeIs,?_⟩
 refine HT.getItem_tuple_cut ht hs pl pu (by rw [hlen]; exact hw) ?_ (by rw [hlen]; exact hz)
 rw [hlen]
 refine ⟨.ref s.heap.objs.size,_,I.laid (t':=s.toks) (o:=.tup (cutV xs lo hi)) (fun b ob q=>Heap.get?_push_of_some _ q) (Nat.le_refl _) ?_,rfl,q _ (I.hok.fresh (Nat.le_refl _))⟩
 exact ⟨Nat.le_trans (cutV_length xs lo hi) hz,_,(r.drop (HT.sIx xs.length 0 lo)).take (HT.sIx xs.length xs.length hi - HT.sIx xs.length 0 lo),IsTup.new _ _⟩
def rLtT (K:PySem.W.Frag):R2:=fun x y H Q=>∃ a b ns ms,x=.ref a∧y=.ref b∧SqT K H a (ns.map V.int)∧SqT K H b (ms.map V.int)∧Q (.bl (HT.lexLt ns ms)) H
def rCatT (K:PySem.W.Frag):R2:=fun x y H Q=>∃ a b xs ys,x=.ref a∧y=.ref b∧SqT K H a xs∧SqT K H b ys∧xs ≠ []∧xs.length + ys.length ≤ sizeLine ∧
 (ys=[]→Q (.ref a) H)∧(ys ≠ []→∀ p,H p=none→Q (.ref p) (upd H p (.tup (xs ++ ys))))
end
end L2
namespace L2
open PySem PySem.Spec PyProof.Rows
def ixN (n:Nat) (i:Int):Option Nat:=if 0 ≤ i then (if i < n then some i.toNat else none) else if -(n:Int) ≤ i then some (i + n).toNat else none
def atI {α:Type} (xs:List α) (i:Int):Option α:=(ixN xs.length i).bind fun j=>xs[j]?
theorem ixN_seq {n:Nat} {i:Int} {j:Nat} (h:ixN n i=some j):seqIndex? i n=some j∧j < n∧-(n:Int) ≤ i∧i < n:=by
 unfold ixN at h
 by_cases h0:0 ≤ i
 ·rw [if_pos h0] at h
  by_cases h1:i < n
  ·rw [if_pos h1] at h
   have e:i.toNat=j:=Option.some.inj h
   exact ⟨by rw [seqIndex_of h0 h1,e],by omega,by omega,h1⟩
  ·rw [if_neg h1] at h; cases h
 ·rw [if_neg h0] at h
  by_cases h1:-(n:Int) ≤ i
  ·rw [if_pos h1] at h
   have e:(i + n).toNat=j:=Option.some.inj h
   exact ⟨by rw [seqIndex_neg (by omega) h1,e],by omega,h1,by omega⟩
  ·rw [if_neg h1] at h; cases h
theorem atI_get {α:Type} {xs:List α} {i:Int} {v:α} (h:atI xs i=some v):∃ j,seqIndex? i xs.length=some j∧xs[j]? = some v∧j < xs.length∧-(xs.length:Int) ≤ i∧i < xs.length:=by
 unfold atI at h
 cases e:ixN xs.length i with
 | none=>rw [e] at h; cases h
 | some j =>
  rw [e] at h
  obtain ⟨h1,h2,h3,h4⟩:=ixN_seq e
  exact ⟨j,h1,h,h2,h3,h4⟩
theorem atI_nat {α:Type} {xs:List α} {j:Nat} {v:α} (h:xs[j]? = some v):atI xs (j:Int)=some v:=by
 have hj:j < xs.length:=(List.getElem?_eq_some_iff.mp h).1
 have e:ixN xs.length (j:Int)=some j:=by
  unfold ixN
  rw [if_pos (by omega),if_pos (by omega)]; simp
 unfold atI; rw [e]; exact h
def PlainIx (b:Expr):Prop:=∀ o i,subscripted b false o i=operate [o,i] (getItem o i)
def IxR (X:Cx) (r:R2):Prop :=
 ∀ (value slice:Expr) (pins:List (Addr×Obj)) (s:Shared) (σ:St) (H:Hp) (x y:V) (v u:Value) (Q:VK),Inv X pins σ H s→RelV x v→RelV y u→r x y H Q →
  subscripted slice false v u=operate [v,u] (getItem v u)→wpAny (model X.prog X.w) X.A (subscriptTail value slice v u) (EP X pins σ Q) X.xe s
def MtR (X:Cx) (id:String) (r:V→List V→Hp→VK→Prop):Prop :=
 ∀ (pins:List (Addr×Obj)) (s:Shared) (σ:St) (H:Hp) (x:V) (xs:List V) (v:Value) (us:List Value) (Q:VK),Inv X pins σ H s→RelV x v→Vals xs us→r x xs H Q →
  wpAny (model X.prog X.w) X.A (call (.builtin id) (v :: us)) (EP X pins σ Q) X.xe s
section
variable {X:Cx} {a b:Expr} {ta tb:TE} {pos:Pos}
theorem IxR.or {r r':R2} (h:IxR X r) (h':IxR X r'):IxR X (fun x y H Q=>r x y H Q∨r' x y H Q):=by
 intro value slice pins s σ H x y v u Q I rx ry q hs
 rcases q with q | q
 ·exact h value slice pins s σ H x y v u Q I rx ry q hs
 ·exact h' value slice pins s σ H x y v u Q I rx ry q hs
theorem pe_ix {r:R2} (hr:IxR X r) (ha:PE X a ta) (hb:PE X b tb) (hs:PlainIx b):PE X (.Subscript a b pos) (tOp r ta tb):=by
 intro pins s σ H Q I h
 exact Subscript_ (binT ha hb I h fun v u s2 x y H2 I2 rx ry q=>hr a b pins s2 σ H2 x y v u Q I2 rx ry q (hs _ _))
def rIxL (K:PySem.W.Frag):R2:=fun x y H Q=>∃ p xs i v,x=.ref p∧y=.int i∧SqL K H p xs∧atI xs i=some v∧Q v H
def rIxT (K:PySem.W.Frag):R2:=fun x y H Q=>∃ p xs i v,x=.ref p∧y=.int i∧SqT K H p xs∧atI xs i=some v∧Q v H
def rIxS:R2:=fun x y H Q=>∃ z i c,x=.str z∧y=.int i∧z.length ≤ sizeLine∧atI z.cps.toList i=some c∧Q (.str ⟨#[c]⟩) H
theorem ix_list:IxR X (rIxL X.K):=by
 intro value slice pins s σ H x y v u Q I rx ry h hs
 obtain ⟨p,xs,i,z,rfl,rfl,hq,he,q⟩:=h
 cases rx
 obtain ⟨t,rfl⟩:=ry
 obtain ⟨its,r,pl,hz⟩:=I.list hq
 obtain ⟨j,h1,h2,h3,h4,h5⟩:=atI_get he
 obtain ⟨w,ew,rw'⟩:=r.get h2
 have hl:=r.length
 have hn:=line63
 have fin:EP X pins σ Q w s:=⟨z,H,I,rw',q⟩
 by_cases h0:0 ≤ i
 ·have hj:i.toNat=j:=by
   rw [seqIndex_of h0 h5] at h1
   exact Option.some.inj h1
  exact item_listR pl.isList h0 (by omega) (by rw [hj]; simpa using ew) fin hs
 ·have hj:(i + (its.toArray.size:Int)).toNat=j:=by
   rw [seqIndex_neg (by omega) h4] at h1
   rw [List.size_toArray,← hl]
   exact Option.some.inj h1
  exact subscriptTail_builtinR (x:=w) pl.isList.typeIs slot_list_getitem.lookup
   (wpAny_getItem_list_neg (Q:=fun r s'=>r=w∧EP X pins σ Q r s') pl.isList (by omega) (by rw [List.size_toArray] <;> omega) (by omega) (by rw [hj]; simpa using ew) ⟨rfl,fin⟩) hs
theorem ix_tup:IxR X (rIxT X.K):=by
 intro value slice pins s σ H x y v u Q I rx ry h hs
 obtain ⟨p,xs,i,z,rfl,rfl,hq,he,q⟩:=h
 cases rx
 obtain ⟨t,rfl⟩:=ry
 obtain ⟨its,r,pl,hz⟩:=I.tuple hq
 obtain ⟨j,h1,h2,h3,h4,h5⟩:=atI_get he
 obtain ⟨w,ew,rw'⟩:=r.get h2
 have hl:=r.length
 have hn:=line63
 have fin:EP X pins σ Q w s:=⟨z,H,I,rw',q⟩
 exact subscriptTail_builtinR (x:=w) pl.typeIs slot_tuple_getitem.lookup
  (getItem_tuple (j:=j) (Q:=fun r s'=>r=w∧EP X pins σ Q r s') pl (by omega) (by omega) (by rw [List.size_toArray,← hl]; exact h1) (by simpa using ew) ⟨rfl,fin⟩) hs
theorem ix_str:IxR X rIxS:=by
 intro value slice pins s σ H x y v u Q I rx ry h hs
 obtain ⟨z,i,c,rfl,rfl,hz,he,q⟩:=h
 obtain ⟨t,rfl⟩:=rx
 obtain ⟨t',rfl⟩:=ry
 obtain ⟨j,h1,h2,h3,h4,h5⟩:=atI_get he
 have hl:z.cps.toList.length=z.length:=by simp [Str.length]
 rw [hl] at h1 h4 h5
 have hn:=line63
 exact tail_any (typeIs_str s z t) slot_str_getitem.lookup (getItem_str (c:=c) (by
  have e1:decide (i < -(2 ^ 63:Int))=false:=decide_eq_false (by omega)
  have e2:decide (i ≥ 2 ^ 63)=false:=decide_eq_false (by omega)
  rw [e1,e2,Bool.or_false]) (by rw [h1]; simpa using h2) ⟨.str ⟨#[c]⟩,H,I.tok _,⟨_,rfl⟩,q⟩) hs
def rIx (K:PySem.W.Frag):R2:=fun x y H Q=>rIxL K x y H Q∨rIxT K x y H Q∨rIxS x y H Q
theorem ix_seq:IxR X (rIx X.K):=ix_list.or (ix_tup.or ix_str)
def rSetL:V→V→V→Hp→(Hp→Prop)→Prop:=fun o i v H Q=>∃ p xs k j,o=.ref p∧i=.int k∧H p=some (.lst xs)∧ixN xs.length k=some j∧Q (upd H p (.lst (xs.set j v)))
theorem slice_bounds (lo hi:Option Int) (n:Nat):(sliceBounds lo hi none n).1=((HT.sIx n 0 lo:Nat):Int)∧(sliceBounds lo hi none n).2.1=((HT.sIx n n hi:Nat):Int)∧(sliceBounds lo hi none n).2.2=1:=by
 refine ⟨?_,?_,rfl⟩
 ·cases lo with
  | none=>simp [sliceBounds,HT.sIx]
  | some i =>
   simp only [sliceBounds,HT.sIx,Option.getD_none,show (1:Int) > 0 by decide,if_true]
   by_cases h:i < 0
   ·simp only [h,if_true] <;> omega
   ·simp only [h,if_false] <;> omega
 ·cases hi with
  | none=>simp [sliceBounds,HT.sIx]
  | some i =>
   simp only [sliceBounds,HT.sIx,Option.getD_none,show (1:Int) > 0 by decide,if_true]
   by_cases h:i < 0
   ·simp only [h,if_true] <;> omega
   ·simp only [h,if_false] <;> omega
theorem slicePick_cut (its:List Value) (lo hi:Option Int):slicePick its.toArray lo hi none=((its.drop (HT.sIx its.length 0 lo)).take (HT.sIx its.length its.length hi - HT.sIx its.length 0 lo)).toArray:=by
 obtain ⟨h1,h2,h3⟩:=slice_bounds lo hi its.toArray.size
 unfold slicePick
 rw [h1,h2,h3]
 simp only [sliceRange_one,pick_run,List.size_toArray] <;> rfl
def rSlL (K:PySem.W.Frag):V→Option Int→Option Int→Hp→VK→Prop:=fun x lo hi H Q=>∃ a xs,x=.ref a∧SqL K H a xs∧∀ p,H p=none→Q (.ref p) (upd H p (.lst (cutV xs lo hi)))
theorem sl_list:SlR X (rSlL X.K):=by
 intro pins s σ H x v vl vu lo hi sl Q I rx hs pl pu h
 obtain ⟨a,xs,rfl,hx,q⟩:=h
 cases rx
 obtain ⟨its,r,ht,hz⟩:=I.list hx
 have hlen:=r.length
 refine ⟨"list",_,slot_list_getitem.lookup,ht.isList.typeIs,?_⟩
 refine wpAny_getItem_list_slice ht.isList hs pl pu .none (by simp) ?_ (by rw [List.size_toArray] <;> omega)
 rw [slicePick_cut,← hlen]
 refine ⟨.ref s.heap.objs.size,_,I.laid (t':=s.toks) (o:=.lst (cutV xs lo hi)) (fun b ob q=>Heap.get?_push_of_some _ q) (Nat.le_refl _) ?_,rfl,q _ (I.hok.fresh (Nat.le_refl _))⟩
 exact ⟨Nat.le_trans (cutV_length xs lo hi) hz,_,0,(r.drop (HT.sIx xs.length 0 lo)).take (HT.sIx xs.length xs.length hi - HT.sIx xs.length 0 lo),Heap.get?_push_size _ rfl⟩
def flatV:V→Bool
 | .non=>true
 | .bl _=>true
 | .int _=>true
 | .str _=>true
 | _=>false
def eqV:V→V→Bool
 | .non,.non=>true
 | .bl a,.bl b=>a == b
 | .bl a,.int b=>(if a then 1 else 0) == b
 | .int a,.bl b=>a == (if b then 1 else 0)
 | .int a,.int b=>a == b
 | .str a,.str b=>a == b
 | _,_=>false
theorem eqAt_V {A:Around} {s:Shared} {y x:V} {u v:Value} (ry:RelV y u) (rx:RelV x v) (fy:flatV y=true) (fx:flatV x=true):SeqAt.EqAt A s u v (eqV y x):=by
 cases y with
 | non =>
  cases ry
  cases x with
  | non=>cases rx; exact SeqAt.EqAt.same _
  | bl b=>cases rx; exact SeqAt.EqAt.none_bool b
  | int b=>obtain ⟨t,rfl⟩:=rx; exact SeqAt.EqAt.none_int b t
  | str b=>obtain ⟨t,rfl⟩:=rx; exact SeqAt.EqAt.none_str b t
  | _=>exact absurd (show false=true from fx) Bool.false_ne_true
 | bl a =>
  cases ry
  cases x with
  | non=>cases rx; exact SeqAt.EqAt.bool_none a
  | bl b=>cases rx; exact SeqAt.EqAt.bool_bool a b
  | int b=>obtain ⟨t,rfl⟩:=rx; exact SeqAt.EqAt.bool_int a b t
  | str b=>obtain ⟨t,rfl⟩:=rx; exact SeqAt.EqAt.bool_str a b t
  | _=>exact absurd (show false=true from fx) Bool.false_ne_true
 | int a =>
  obtain ⟨t',rfl⟩:=ry
  cases x with
  | non=>cases rx; exact SeqAt.EqAt.int_none a t'
  | bl b=>cases rx; exact SeqAt.EqAt.int_bool a t' b
  | int b=>obtain ⟨t,rfl⟩:=rx; exact SeqAt.EqAt.int_int a t' b t
  | str b=>obtain ⟨t,rfl⟩:=rx; exact SeqAt.EqAt.int_str a t' b t
  | _=>exact absurd (show false=true from fx) Bool.false_ne_true
 | str a =>
  obtain ⟨t',rfl⟩:=ry
  cases x with
  | non=>cases rx; exact SeqAt.EqAt.str_none a t'
  | bl b=>cases rx; exact SeqAt.EqAt.str_bool a t' b
  | int b=>obtain ⟨t,rfl⟩:=rx; exact SeqAt.EqAt.str_int a t' b t
  | str b=>obtain ⟨t,rfl⟩:=rx; exact SeqAt.EqAt.str_str a t' b t
  | _=>exact absurd (show false=true from fx) Bool.false_ne_true
 | _=>exact absurd (show false=true from fy) Bool.false_ne_true
def eqU (x:V) (u:Value):Bool:=match u with
 | .none=>eqV .non x
 | .bool b=>eqV (.bl b) x
 | .int i _=>eqV (.int i) x
 | .str z _=>eqV (.str z) x
 | _=>false
theorem eqU_of {x y:V} {u:Value} (r:RelV y u) (f:flatV y=true):eqU x u=eqV y x:=by
 cases y with
 | non=>cases r; rfl
 | bl b=>cases r; rfl
 | int i=>obtain ⟨t,rfl⟩:=r; rfl
 | str z=>obtain ⟨t,rfl⟩:=r; rfl
 | _=>exact absurd (show false=true from f) Bool.false_ne_true
theorem any_eqU {x:V}:∀ {xs:List V} {us:List Value},Vals xs us→xs.all flatV=true→us.any (eqU x)=xs.any fun y=>eqV y x
 | _,_,.nil,_=>rfl
 | y :: xs,u :: us,.cons r t,f=>by
  rw [List.all_cons,Bool.and_eq_true] at f
  rw [List.any_cons,List.any_cons,eqU_of r f.1,any_eqU t f.2]
theorem mem_eqAt {A:Around} {s:Shared} {x:V} {v:Value} (rx:RelV x v) (fx:flatV x=true):∀ {xs:List V} {us:List Value},Vals xs us→xs.all flatV=true→∀ u ∈ us,SeqAt.EqAt A s u v (eqU x u)
 | _,_,.nil,_=>fun u hu=>by cases hu
 | y :: xs,u :: us,.cons r t,f=>fun u' hu=>by
  rw [List.all_cons,Bool.and_eq_true] at f
  rcases List.mem_cons.mp hu with rfl | hu
  ·rw [eqU_of r f.1]; exact eqAt_V r rx f.1 fx
  ·exact mem_eqAt rx fx t f.2 u' hu
def inV (x:V) (xs:List V):Bool:=xs.any fun y=>eqV y x
def rIn (K:PySem.W.Frag) (neg:Bool):R2:=fun x y H Q=>∃ p xs,y=.ref p∧(SqL K H p xs∨SqT K H p xs)∧flatV x=true∧xs.all flatV=true∧Q (.bl (if neg then !inV x xs else inV x xs)) H
theorem op_in_seq:OpR X (compareOp .In) (rIn X.K false):=by
 intro pins s σ H x y v u Q I rx ry h
 obtain ⟨p,xs,rfl,hq,fx,fs,q⟩:=h
 cases ry
 rcases hq with hq | hq
 ·obtain ⟨its,r,pl,hz⟩:=I.list hq
  refine SeqAt.in_listAt (eqU x) pl.isList (fun w hw=>mem_eqAt rx fx r fs w (by simpa using hw)) ⟨.bl _,H,I,rfl,?_⟩
  rw [show its.toArray.any (eqU x)=its.any (eqU x) by simp,any_eqU r fs]
  exact q
 ·obtain ⟨its,r,pl,hz⟩:=I.tuple hq
  refine SeqAt.in_tupleAt (eqU x) pl (fun w hw=>mem_eqAt rx fx r fs w (by simpa using hw)) ⟨.bl _,H,I,rfl,?_⟩
  rw [show its.toArray.any (eqU x)=its.any (eqU x) by simp,any_eqU r fs]
  exact q
theorem op_notIn_seq:OpR X (compareOp .NotIn) (rIn X.K true):=by
 intro pins s σ H x y v u Q I rx ry h
 obtain ⟨p,xs,rfl,hq,fx,fs,q⟩:=h
 cases ry
 rcases hq with hq | hq
 ·obtain ⟨its,r,pl,hz⟩:=I.list hq
  refine SeqAt.notIn_listAt (eqU x) pl.isList (fun w hw=>mem_eqAt rx fx r fs w (by simpa using hw)) ⟨.bl _,H,I,rfl,?_⟩
  rw [show its.toArray.any (eqU x)=its.any (eqU x) by simp,any_eqU r fs]
  exact q
 ·obtain ⟨its,r,pl,hz⟩:=I.tuple hq
  refine SeqAt.notIn_tupleAt (eqU x) pl (fun w hw=>mem_eqAt rx fx r fs w (by simpa using hw)) ⟨.bl _,H,I,rfl,?_⟩
  rw [show its.toArray.any (eqU x)=its.any (eqU x) by simp,any_eqU r fs]
  exact q
theorem call_len_seq:CallR X (.builtin "len") (fun xs H Q=>∃ p ys,xs=[.ref p]∧(SqL X.K H p ys∨SqT X.K H p ys)∧Q (.int ys.length) H):=by
 intro pins s σ H xs us Q I r h
 obtain ⟨p,ys,rfl,hq,q⟩:=h
 obtain ⟨u,rfl,rx⟩:=vals1 r
 cases rx
 have hn:=line63
 rcases hq with hq | hq
 ·obtain ⟨its,r',pl,hz⟩:=I.list hq
  have hlen:=r'.length
  exact Calls.call_len_list pl.isList (by simp only [List.size_toArray] <;> omega) ⟨.int ys.length,H,I.tok _,⟨s.toks + 1,by rw [List.size_toArray,hlen]⟩,q⟩
 ·obtain ⟨its,r',pl,hz⟩:=I.tuple hq
  have hlen:=r'.length
  exact len_tuple pl (by simp only [List.size_toArray] <;> omega) ⟨.int ys.length,H,I.tok _,⟨s.toks + 1,by rw [List.size_toArray,hlen]⟩,q⟩
theorem call_len_str:CallR X (.builtin "len") (fun xs H Q=>∃ z,xs=[.str z]∧z.length ≤ sizeLine∧Q (.int z.length) H):=by
 intro pins s σ H xs us Q I r h
 obtain ⟨z,rfl,hz,q⟩:=h
 obtain ⟨u,rfl,t,rfl⟩:=vals1 r
 have hn:=line63
 exact len_str (by omega) ⟨.int z.length,H,I.tok _,⟨_,rfl⟩,q⟩
theorem CallR.or {f:Value} {r r':List V→Hp→VK→Prop} (h:CallR X f r) (h':CallR X f r'):CallR X f (fun xs H Q=>r xs H Q∨r' xs H Q):=by
 intro pins s σ H xs us Q I rs q
 rcases q with q | q
 ·exact h pins s σ H xs us Q I rs q
 ·exact h' pins s σ H xs us Q I rs q
theorem call_list_of:CallR X (.type "list") (fun xs H Q=>∃ p ys,xs=[.ref p]∧(SqL X.K H p ys∨SqT X.K H p ys)∧∀ l,H l=none→Q (.ref l) (upd H l (.lst ys))):=by
 intro pins s σ H xs us Q I r h
 obtain ⟨p,ys,rfl,hq,q⟩:=h
 obtain ⟨u,rfl,rx⟩:=vals1 r
 cases rx
 have fin:∀ (its:List Value),Vals ys its→ys.length ≤ sizeLine→∀ (h':Heap) (c':Nat),(∀ b o',s.heap.get? b=some o'→h'.get? b=some o') →
   h'.get? s.heap.objs.size=some { cls:=.type "list",dict:=none,data:=.seq its.toArray c',slots:=#[] }→EP X pins σ Q (.ref s.heap.objs.size) { s with heap:=h' }:=fun its r' hz h' c' kp e =>
  ⟨.ref s.heap.objs.size,_,I.laid (t':=s.toks) kp (Nat.le_refl _) (show ObjOk X.prog X.w _ h' _ (.lst ys) from ⟨hz,its,c',r',e⟩),rfl,q _ (I.hok.fresh (Nat.le_refl _))⟩
 rcases hq with hq | hq
 ·obtain ⟨its,r',pl,hz⟩:=I.list hq
  have hlen:=r'.length
  obtain ⟨o,ho,hc,n,hd⟩:=pl.isList
  exact call_list_seq p (.inl rfl) ho hc hd (fun h' c' kp e=>fin its r' hz h' c' kp e) (by simp only [List.size_toArray] <;> omega)
 ·obtain ⟨its,r',pl,hz⟩:=I.tuple hq
  have hlen:=r'.length
  obtain ⟨o,ho,hc,n,hd⟩:=pl
  exact call_list_seq p (.inr rfl) ho hc hd (fun h' c' kp e=>fin its r' hz h' c' kp e) (by simp only [List.size_toArray] <;> omega)
def tyV (K:PySem.W.Frag) (T:String) (x:V) (H:Hp):Prop:=match x with
 | .str _=>T = "str"
 | .int _=>T = "int"
 | .ref p=>(T = "list" ∧ ∃ xs,SqL K H p xs)∨(T = "tuple" ∧ ∃ o,K.lookup p=some o∧o.cls=.type "tuple" ∧ o.dict=none) ∨
   (T = "dict" ∧ ((∃ kvs,H p=some (.dK kvs))∨∃ kvs,H p=some (.dT kvs)))∨(T = "set" ∧ ∃ S n,H p=some (.set S n))
 | _=>False
theorem tyV_is {pins:List (Addr×Obj)} {σ:St} {H:Hp} {s:Shared} {T:String} {x:V} {v:Value} (I:Inv X pins σ H s) (r:RelV x v) (ty:tyV X.K T x H) :
  s.TypeIs v T∧∀ a,v=.ref a→∃ ob,s.heap.get? a=some ob∧ob.dict=none:=by
 cases x with
 | str z =>
  obtain ⟨t,rfl⟩:=r
  cases (show T = "str" from ty)
  exact ⟨typeIs_str s z t,fun _ e=>nomatch e⟩
 | int i =>
  obtain ⟨t,rfl⟩:=r
  cases (show T = "int" from ty)
  exact ⟨typeIs_int s i t,fun _ e=>nomatch e⟩
 | ref p =>
  cases r
  rcases ty with ⟨rfl,xs,hq⟩ | ⟨rfl,o,hk,hc,hd⟩ | ⟨rfl,hk⟩ | ⟨rfl,S,n,hk⟩
  ·obtain ⟨its,_,pl,_⟩:=I.list hq
   refine ⟨pl.isList.typeIs,fun a e=>?_⟩
   cases e
   obtain ⟨o,n,e,c,hd,_⟩:=pl
   exact ⟨o,e,hd⟩
  ·refine ⟨⟨o,I.kIn p o hk,hc⟩,fun a e=>?_⟩
   cases e
   exact ⟨o,I.kIn _ o hk,hd⟩
  ·have z:∃ o,s.heap.get? p=some o∧o.ExactDict:=by
    rcases hk with ⟨kvs,hk⟩ | ⟨kvs,hk⟩
    ·obtain ⟨_,_,_,_,o,_,_,e,ex,_⟩:=I.hok p _ hk
     exact ⟨o,e,ex⟩
    ·obtain ⟨_,_,_,_,o,_,_,e,ex,_⟩:=I.hok p _ hk
     exact ⟨o,e,ex⟩
   obtain ⟨o,e,ex⟩:=z
   refine ⟨⟨o,e,ex.1⟩,fun a e2=>?_⟩
   cases e2
   exact ⟨o,e,ex.2.1⟩
  ·obtain ⟨o,_,_,_,e,ex,_⟩:=I.hok p _ hk
   refine ⟨⟨o,e,ex.1⟩,fun a e2=>?_⟩
   cases e2
   exact ⟨o,e,ex.2.1⟩
 | _=>exact False.elim ty
def tBM0 (K:PySem.W.Frag) (T:String) (r:V→List V→Hp→VK→Prop) (to:TE):TE:=fun σ H Q=>to σ H fun x H1=>tyV K T x H1∧r x [] H1 Q
def tBM (K:PySem.W.Frag) (T:String) (r:V→List V→Hp→VK→Prop) (to:TE) (t:TA):TE:=fun σ H Q=>to σ H fun x H1=>tyV K T x H1∧t σ H1 fun xs H2=>r x xs H2 Q
variable {o e:Expr} {es:List Expr} {to:TE} {t:TA} {name:Str} {apos cpos:Pos} {T id:String} {r:V→List V→Hp→VK→Prop}
theorem pe_bm0 (pa:PlainAttrs T) (slot:Slot T name id) (hty:typeOf (.builtin id)=pure (.type "method_descriptor")) (hm:MtR X id r) (ho:PE X o to)
  (hbase:attributeBase o name X.env (eval o X.env)=eval o X.env:=by rfl) (hline:(apos.endLine == cpos.line)=true:=by rfl):PE X (.Call (.Attribute o name apos) [] [] cpos) (tBM0 X.K T r to):=by
 intro pins s σ H Q I h
 refine wpAny_Call_method0_late hbase hline (thn (ho pins s σ H _ I h) fun v s1 ⟨x,H1,I1,r1,ty,q1⟩=>?_)
 obtain ⟨h1,h2⟩:=tyV_is I1 r1 ty
 exact ⟨T,id,pa,slot,hty,h1,h2,Calls.callWith_builtin rfl (PySem.evalArgs_none (hm pins s1 σ H1 x [] v [] Q I1 r1 .nil q1))⟩
theorem pe_bm (pa:PlainAttrs T) (slot:Slot T name id) (hty:typeOf (.builtin id)=pure (.type "method_descriptor")) (hm:MtR X id r) (ho:PE X o to) (ha:PA X (e :: es) t)
  (hbase:attributeBase o name X.env (eval o X.env)=eval o X.env:=by rfl)
  (hfew:((backTo cpos (starEach (e :: es) X.env)).all (fun x=>!x.1) && (backToKw cpos (keywordEach [] X.env)).all (fun x=>x.1.isSome)
   && decide ((e :: es).length + ([]:List Keyword).length + (if ([]:List Keyword).isEmpty then 0 else 1) < 30))=true:=by rfl)
  (hline:(apos.endLine == cpos.line)=true:=by rfl) (hs:starEach (e :: es) X.env=(false,eval e X.env) :: starEach es X.env:=by rfl) (hplain:(backTo cpos (starEach es X.env)).any (·.1)=false:=by rfl) :
  PE X (.Call (.Attribute o name apos) (e :: es) [] cpos) (tBM X.K T r to t):=by
 intro pins s σ H Q I h
 refine wpAny_Call_method_late hbase hfew hline rfl (thn (ho pins s σ H _ I h) fun v s1 ⟨x,H1,I1,r1,ty,q1⟩=>?_)
 obtain ⟨h1,h2⟩:=tyV_is I1 r1 ty
 refine ⟨T,id,pa,slot,hty,h1,h2,?_⟩
 have hA:=ha cpos pins s1 σ H1 _ I1 q1
 rw [hs] at hA ⊢
 refine Calls.callWith_builtin (by show (false || (backTo cpos (starEach es X.env)).any (·.1))=false; rw [hplain] <;> rfl) (Calls.evalArgs_plain ?_)
 exact thn hA fun us s2 ⟨vs,H2,I2,r2,q2⟩=>hm pins s2 σ H2 x vs v us Q I2 r1 r2 q2
/- xs.append(e),list.index on a module's tuple .. are MtR facts of 06m -/
end
end L2
namespace L2
open PySem PySem.Spec PyProof.Rows
def MtM (X:Cx) (id:String) (r:V→List V→Hp→VK→Prop):Prop :=
 ∀ (pins:List (Addr×Obj)) (s:Shared) (σ:St) (H:Hp) (x:V) (xs:List V) (v:Value) (us:List Value) (Q:VK),Inv X pins σ H s→RelV x v→Vals xs us→r x xs H Q →
  wpAny (model X.prog X.w) X.A (call (.builtin id) (v :: us)) (EP X pins σ Q) X.xe s
theorem Vals.one:∀ {x:V} {us:List Value},Vals [x] us→∃ u,us=[u]∧RelV x u
 | _,_,.cons r .nil=>⟨_,rfl,r⟩
theorem Vals.zero:∀ {us:List Value},Vals [] us→us=[]
 | _,.nil=>rfl
theorem Vals.dropLast {xs:List V} {us:List Value} (h:Vals xs us):Vals xs.dropLast us.dropLast:=by
 induction h with
 | nil=>exact .nil
 | cons r t ih =>
  cases t with
  | nil=>exact .nil
  | cons q t'=>exact .cons r ih
theorem Vals.eraseIdx:∀ {xs:List V} {us:List Value} (i:Nat),Vals xs us→Vals (xs.eraseIdx i) (us.eraseIdx i)
 | _,_,_,.nil=>.nil
 | _,_,0,.cons _ t=>t
 | _,_,i + 1,.cons r t=>.cons r (Vals.eraseIdx i t)
theorem erase_last {α:Type} (l:List α):l.eraseIdx (l.length - 1)=l.dropLast:=by
 induction l with
 | nil=>rfl
 | cons a r ih =>
  cases r with
  | nil=>rfl
  | cons b r =>
   have e:(a :: b :: r).length - 1=((b :: r).length - 1) + 1:=by
    have h1:(a :: b :: r).length=r.length + 2:=rfl
    have h2:(b :: r).length=r.length + 1:=rfl
    omega
   rw [e,List.eraseIdx_cons_succ,ih]
   all_goals rfl
theorem len_erase {α:Type}:∀ (l:List α) (i:Nat),(l.eraseIdx i).length ≤ l.length
 | [],_=>Nat.le_refl _
 | _ :: _,0=>Nat.le_succ _
 | _ :: r,i + 1=>Nat.succ_le_succ (len_erase r i)
section
variable {X:Cx} {pins:List (Addr×Obj)} {σ:St} {H:Hp} {s:Shared} {l b:Addr} {xs ys zs:List V}
theorem Inv.lset {its its':List Value} {n:Nat} {f:Array Value→Array Value} {t':Nat} (I:Inv X pins σ H s) (hH:H l=some (.lst xs))
  (e:s.heap.get? l=some { cls:=.type "list",data:=.seq its.toArray n }) (hf:f its.toArray=its'.toArray) (hv:Vals ys its') (hz:ys.length ≤ sizeLine) :
  Inv X pins σ (upd H l (.lst ys)) { s with heap:=s.heap.update l (Obj.mapSeq f),toks:=t' }:=by
 have q:=PySem.IsL.update e f
 rw [hf] at q
 refine I.write (x:=l) (e:=l) (by rw [hH]; exact trivial) (.inl rfl) (fun b' u hb hu=>(Heap.get?_update_other s.heap (Obj.mapSeq f) (Ne.symm hb)).trans hu) ⟨_,q⟩ ?_
 exact ⟨hz,its',_,hv,q⟩
theorem Inv.lnew {its:List Value} {t':Nat} (I:Inv X pins σ H s) (hv:Vals ys its) (hz:ys.length ≤ sizeLine) :
  Inv X pins σ (upd H s.heap.objs.size (.lst ys)) { s with heap:=s.heap.push { cls:=.type "list",data:=.seq its.toArray },toks:=t' } :=
 I.laid (fun _ _ q=>Heap.get?_push_of_some _ q) (Nat.le_refl _) ⟨hz,its,0,hv,Heap.get?_push_size _ rfl⟩
theorem Inv.fresh (I:Inv X pins σ H s):H s.heap.objs.size=none:=I.hok.fresh (Nat.le_refl _)
theorem Inv.lstM (I:Inv X pins σ H s) (hH:H l=some (.lst xs)):xs.length ≤ sizeLine∧∃ (its:List Value) (n:Nat),Vals xs its∧xs.length=its.length∧s.heap.get? l=some { cls:=.type "list",data:=.seq its.toArray n }:=by
 obtain ⟨z,its,n,r,e⟩:=I.hok l _ hH
 exact ⟨z,its,n,r,r.length,e⟩
theorem notLongL {n:Nat} (h:n ≤ sizeLine):Builtin.List.listTooLong n=false:=by
 unfold Builtin.List.listTooLong
 exact decide_eq_false (by omega)
end
section
variable {X:Cx}
def rAppend:V→List V→Hp→VK→Prop:=fun x vs H Q=>∃ l xs y,x=.ref l∧vs=[y]∧H l=some (.lst xs)∧xs.length < sizeLine∧Q .non (upd H l (.lst (xs ++ [y])))
theorem mt_append:MtM X "list.append" rAppend:=by
 intro pins s σ H x vs v us Q I rx rv h
 obtain ⟨l,xs,y,rfl,rfl,hH,hz,q⟩:=h
 cases rx
 obtain ⟨u,rfl,ru⟩:=rv.one
 obtain ⟨z,its,n,r,hl,e⟩:=I.lstM hH
 refine call_meets F.slot_list_append ⟨_,e,rfl⟩ F.entry_list_append (F.args_list_append_2 _ _) (PySem.list_append l its.toArray n u (by rw [List.size_toArray]; omega)) ⟨e,?_⟩
 refine ⟨.non,_,I.lset (its':=its ++ [u]) hH e (by simp) (r.append (.cons ru .nil)) ?_,rfl,q⟩
 rw [List.length_append,List.length_singleton]
 omega
def rExtend:V→List V→Hp→VK→Prop:=fun x vs H Q=>∃ l b xs zs,x=.ref l∧vs=[.ref b]∧H l=some (.lst xs)∧H b=some (.lst zs)∧xs.length + zs.length ≤ sizeLine∧Q .non (upd H l (.lst (xs ++ zs)))
theorem mt_extend:MtM X "list.extend" rExtend:=by
 intro pins s σ H x vs v us Q I rx rv h
 obtain ⟨l,b,xs,zs,rfl,rfl,hH,hB,hz,q⟩:=h
 cases rx
 obtain ⟨u,rfl,ru⟩:=rv.one
 cases ru
 obtain ⟨z,its,n,r,hl,e⟩:=I.lstM hH
 obtain ⟨z2,its2,n2,r2,hl2,e2⟩:=I.lstM hB
 have hsz:its.toArray.size + its2.toArray.size ≤ sizeLine:=by rw [List.size_toArray,List.size_toArray]; omega
 have hlong:¬ (!its.toArray.isEmpty && Builtin.List.listTooLong (its.toArray.size + its2.toArray.size))=true:=by
  rw [notLongL hsz,Bool.and_false]
  exact Bool.false_ne_true
 refine call_meets F.slot_list_extend ⟨_,e,rfl⟩ F.entry_list_extend (F.args_list_extend_2 _ _)
  (AutoSeq1.list_extend_list_list_0 l its.toArray n b its2.toArray n2 hlong (by rw [List.size_toArray]; omega) (by omega)) ⟨e,e2,?_⟩
 refine ⟨.non,_,I.lset (its':=its ++ its2) hH e (by simp) (r.append r2) ?_,rfl,q⟩
 rw [List.length_append]
 omega
def rPop:V→List V→Hp→VK→Prop:=fun x vs H Q=>∃ l xs y,x=.ref l∧vs=[]∧H l=some (.lst xs)∧xs[xs.length - 1]? = some y∧Q y (upd H l (.lst xs.dropLast))
theorem mt_pop:MtM X "list.pop" rPop:=by
 intro pins s σ H x vs v us Q I rx rv h
 obtain ⟨l,xs,y,rfl,rfl,hH,hy,q⟩:=h
 cases rx
 have hus:=rv.zero
 subst hus
 obtain ⟨z,its,n,r,hl,e⟩:=I.lstM hH
 obtain ⟨u,hu,ru⟩:=r.get hy
 have hy':its.toArray[its.toArray.size - 1]? = some u:=by
  show its.toArray[its.length - 1]? = some u
  rw [← Array.getElem?_toList,← hl]
  exact hu
 refine call_meets F.slot_list_pop ⟨_,e,rfl⟩ F.entry_list_pop (F.args_list_pop_1 _) (MeetsSeq.list_pop_last l its.toArray n u hy' (by rw [List.size_toArray]; omega)) ⟨e,?_⟩
 refine ⟨y,_,I.lset (its':=its.dropLast) hH e ?_ r.dropLast ?_,ru,q⟩
 ·show its.toArray.eraseIdxIfInBounds (its.toArray.size - 1)=its.dropLast.toArray
  rw [List.size_toArray,List.eraseIdxIfInBounds_toArray,erase_last]
 ·rw [List.length_dropLast]
  omega
def rPopAt:V→List V→Hp→VK→Prop:=fun x vs H Q=>∃ l xs i k y,x=.ref l∧vs=[.int i]∧H l=some (.lst xs)∧-(2 ^ 63) ≤ i∧i < 2 ^ 63∧seqIndex? i xs.length=some k∧xs[k]? = some y∧Q y (upd H l (.lst (xs.eraseIdx k)))
theorem mt_popAt:MtM X "list.pop" rPopAt:=by
 intro pins s σ H x vs v us Q I rx rv h
 obtain ⟨l,xs,i,k,y,rfl,rfl,hH,h1,h2,hk,hy,q⟩:=h
 cases rx
 obtain ⟨u,rfl,ru⟩:=rv.one
 obtain ⟨t,rfl⟩:=ru
 obtain ⟨z,its,n,r,hl,e⟩:=I.lstM hH
 obtain ⟨w,hw,rw'⟩:=r.get hy
 refine call_meets F.slot_list_pop ⟨_,e,rfl⟩ F.entry_list_pop (F.args_list_pop_2 _ _)
  (MeetsSeq.list_pop_at l its.toArray n i t k w (fitsIndex_both h1 h2) (by rw [List.size_toArray,← hl]; exact hk) (by rw [← Array.getElem?_toList]; exact hw) (by rw [List.size_toArray]; omega)) ⟨e,?_⟩
 refine ⟨y,_,I.lset (its':=its.eraseIdx k) hH e ?_ (r.eraseIdx k) ?_,rw',q⟩
 ·show its.toArray.eraseIdxIfInBounds k=(its.eraseIdx k).toArray
  rw [List.eraseIdxIfInBounds_toArray]
 ·have:=len_erase xs k
  omega
def rReverse:V→List V→Hp→VK→Prop:=fun x vs H Q=>∃ l xs,x=.ref l∧vs=[]∧H l=some (.lst xs)∧Q .non (upd H l (.lst xs.reverse))
def rClear:V→List V→Hp→VK→Prop:=fun x vs H Q=>∃ l xs,x=.ref l∧vs=[]∧H l=some (.lst xs)∧Q .non (upd H l (.lst []))
theorem mt_clear:MtM X "list.clear" rClear:=by
 intro pins s σ H x vs v us Q I rx rv h
 obtain ⟨l,xs,rfl,rfl,hH,q⟩:=h
 cases rx
 have hus:=rv.zero
 subst hus
 obtain ⟨z,its,n,r,hl,e⟩:=I.lstM hH
 refine call_meets F.slot_list_clear ⟨_,e,rfl⟩ F.entry_list_clear (F.args_list_clear_1 _) (AutoSeq1.list_clear_list_0 l its.toArray n (by rw [List.size_toArray]; omega)) ⟨e,?_⟩
 exact ⟨.non,_,I.lset (its':=[]) (ys:=[]) hH e rfl .nil (Nat.zero_le _),rfl,q⟩
def rCat:R2:=fun x y H Q=>∃ l b xs zs,x=.ref l∧y=.ref b∧H l=some (.lst xs)∧H b=some (.lst zs)∧xs.length + zs.length ≤ sizeLine∧∀ p,H p=none→Q (.ref p) (upd H p (.lst (xs ++ zs)))
theorem op_cat:OpR X (binaryOp .Add) rCat:=by
 intro pins s σ H x y v u Q I rx ry h
 obtain ⟨l,b,xs,zs,rfl,rfl,hH,hB,hz,q⟩:=h
 cases rx
 cases ry
 obtain ⟨z,its,n,r,hl,e⟩:=I.lstM hH
 obtain ⟨z2,its2,n2,r2,hl2,e2⟩:=I.lstM hB
 refine PySem.P.add_list e e2 ?_ (by rw [List.size_toArray,List.size_toArray]; omega)
 have ea:its.toArray ++ its2.toArray=(its ++ its2).toArray:=by simp
 rw [ea]
 exact ⟨.ref _,_,I.lnew (t':=s.toks) (r.append r2) (by rw [List.length_append]; omega),rfl,q _ I.fresh⟩
def rRep:R2:=fun x y H Q=>∃ l k xs,x=.ref l∧y=.int k∧H l=some (.lst xs)∧-(2 ^ 63) ≤ k∧k < 2 ^ 63∧xs.length * k.toNat ≤ sizeLine ∧
 ∀ p,H p=none→Q (.ref p) (upd H p (.lst (List.replicate k.toNat xs).flatten))
end
section
variable {prog:Program} {w:World} {A:Around} {E:Value→Shared→Prop} {s:Shared}
end
section
variable {X:Cx}
end
end L2
namespace L2
open PySem PySem.Spec PyProof.Rows
section
variable {κ:Type} [DecidableEq κ]
def valV (kvs:List (κ×V)) (k:κ):Option V:=(kvs.find? fun kv=>decide (kv.1=k)).map (·.2)
def putK (kvs:List (κ×V)) (k:κ) (v:V):List (κ×V) :=
 if (kvs.any fun kv=>decide (kv.1=k))=true then kvs.map (fun kv=>if kv.1=k then (kv.1,v) else kv) else kvs ++ [(k,v)]
def dropK (kvs:List (κ×V)) (k:κ):List (κ×V):=kvs.filter fun kv=>decide (kv.1 ≠ k)
theorem valV_pos {p:κ×V} {r:List (κ×V)} {k:κ} (e:p.1=k):valV (p :: r) k=some p.2:=by simp [valV,List.find?_cons,e]
theorem valV_neg {p:κ×V} {r:List (κ×V)} {k:κ} (e:¬ p.1=k):valV (p :: r) k=valV r k:=by simp [valV,List.find?_cons,e]
theorem valV_any (k:κ):∀ kvs:List (κ×V),(kvs.any fun kv=>decide (kv.1=k))=(valV kvs k).isSome
 | []=>rfl
 | p :: r=>by
  rw [List.any_cons]
  by_cases e:p.1=k
  ·simp only [valV_pos e,decide_eq_true e,Bool.true_or,Option.isSome_some]
  ·rw [valV_neg e,decide_eq_false e,Bool.false_or]; exact valV_any k r
theorem length_putK (kvs:List (κ×V)) (k:κ) (v:V):(putK kvs k v).length ≤ kvs.length + 1:=by
 unfold putK
 split
 ·rw [List.length_map]; omega
 ·rw [List.length_append,List.length_cons,List.length_nil]; omega
theorem putK_new {kvs:List (κ×V)} {k:κ} (v:V) (h:valV kvs k=none):putK kvs k v=kvs ++ [(k,v)]:=by
 unfold putK
 rw [valV_any,h]
 exact if_neg (by decide)
theorem RelO.isSome_eq {o:Option V} {u:Option Value} (r:RelO o u):o.isSome=u.isSome:=by
 cases o with
 | none=>cases u with
  | none=>rfl
  | some _=>exact (show False from r).elim
 | some _=>cases u with
  | none=>exact (show False from r).elim
  | some _=>rfl
theorem KV.val {kvs:List (κ×V)} {vs:List (κ×Value)} (r:KV kvs vs) (k:κ):RelO (valV kvs k) (valueAt vs k):=by
 unfold KV at r
 induction r with
 | nil=>exact True.intro
 | @cons p q ps qs h t ih =>
  obtain ⟨h1,h2⟩:=h
  by_cases e:p.1=k
  ·have e':q.1=k:=h1.symm.trans e
   have b:valueAt (q :: qs) k=some q.2:=by simp [valueAt,List.find?_cons,e']
   rw [valV_pos e,b]; exact h2
  ·have e':¬ q.1=k:=fun z=>e (h1.trans z)
   have b:valueAt (q :: qs) k=valueAt qs k:=by simp [valueAt,List.find?_cons,e']
   rw [valV_neg e,b]; exact ih
theorem KV.any {kvs:List (κ×V)} {vs:List (κ×Value)} (r:KV kvs vs) (k:κ):(kvs.any fun kv=>decide (kv.1=k))=vs.any fun kv=>decide (kv.1=k):=by
 unfold KV at r
 induction r with
 | nil=>rfl
 | cons h t ih=>rw [List.any_cons,List.any_cons,ih,h.1]
theorem KV.repl {kvs:List (κ×V)} {vs:List (κ×Value)} (r:KV kvs vs) (k:κ) {y:V} {u:Value} (ry:RelV y u) :
  KV (kvs.map fun kv=>if kv.1=k then (kv.1,y) else kv) (vs.map fun kv=>if kv.1=k then (kv.1,u) else kv):=by
 unfold KV at r ⊢
 induction r with
 | nil=>exact .nil
 | @cons p q ps qs h t ih =>
  rw [List.map_cons,List.map_cons]
  refine .cons ?_ ih
  obtain ⟨h1,h2⟩:=h
  by_cases e:p.1=k
  ·rw [if_pos e,if_pos (h1.symm.trans e)]; exact ⟨h1,ry⟩
  ·rw [if_neg e,if_neg (fun z=>e (h1.trans z))]; exact ⟨h1,h2⟩
theorem KV.put {kvs:List (κ×V)} {vs:List (κ×Value)} (r:KV kvs vs) (k:κ) {y:V} {u:Value} (ry:RelV y u):KV (putK kvs k y) (stored vs k u):=by
 unfold putK stored
 rw [r.any k]
 by_cases e:(vs.any fun kv=>decide (kv.1=k))=true
 ·rw [if_pos e,if_pos e]; exact r.repl k ry
 ·rw [if_neg e,if_neg e]; exact Paired.snoc r ⟨rfl,ry⟩
theorem KV.length {kvs:List (κ×V)} {vs:List (κ×Value)} (r:KV kvs vs):kvs.length=vs.length:=Paired.length r
end
theorem kV_is {P:Program} {w:World} {k:Key} {u:Value} (r:RelV (kV k) u):(mixKind P w).is k u=true:=by
 cases k with
 | inl i=>obtain ⟨t,e⟩:=(show ∃ t,u=Value.int i t from r); subst e; exact mixKind_int P w i t
 | inr x=>obtain ⟨t,e⟩:=(show ∃ t,u=Value.str x t from r); subst e; exact mixKind_str P w x t
theorem items_are {P:Program} {w:World}:∀ {ks:List Key} {us:List Value},Vals (ks.map kV) us→ItemsAre (mixKind P w) ks us
 | [],_,r=>by rw [List.map_nil] at r; cases r; exact .nil
 | k :: ks,_,r=>by
  rw [List.map_cons] at r
  cases r with
  | cons h t=>exact .cons (kV_is h) (items_are t)
abbrev KT (H:Hp):List (List Key×V)→List (List Key×Addr×Value)→Prop:=Paired fun p q=>p.1=q.1∧H q.2.1=some (.tup (p.1.map kV))∧RelV p.2 q.2.2
theorem KT.val {H:Hp} {kvs:List (List Key×V)} {xs:List (List Key×Addr×Value)} (r:KT H kvs xs) (k:List Key):RelO (valV kvs k) ((atKey xs k).map (·.2)):=by
 induction r with
 | nil=>exact True.intro
 | @cons p q ps qs h t ih =>
  obtain ⟨h1,_,h2⟩:=h
  by_cases e:p.1=k
  ·have e':q.1=k:=h1.symm.trans e
   have b:atKey (q :: qs) k=some q.2:=by simp [atKey,List.find?_cons,e']
   rw [valV_pos e,b]; exact h2
  ·have e':¬ q.1=k:=fun z=>e (h1.trans z)
   have b:atKey (q :: qs) k=atKey qs k:=by simp [atKey,List.find?_cons,e']
   rw [valV_neg e,b]; exact ih
theorem KT.repl {H:Hp} {kvs:List (List Key×V)} {xs:List (List Key×Addr×Value)} (r:KT H kvs xs) (k:List Key) {y:V} {u:Value} (ry:RelV y u) :
  KT H (kvs.map fun kv=>if kv.1=k then (kv.1,y) else kv) (xs.map (putAt k u)):=by
 induction r with
 | nil=>exact .nil
 | @cons p q ps qs h t ih =>
  rw [List.map_cons,List.map_cons]
  refine .cons ?_ ih
  obtain ⟨h1,h2,h3⟩:=h
  unfold putAt
  by_cases e:p.1=k
  ·rw [if_pos e,if_pos (h1.symm.trans e)]; exact ⟨h1,h2,ry⟩
  ·rw [if_neg e,if_neg (fun z=>e (h1.trans z))]; exact ⟨h1,h2,h3⟩
theorem KT.put {H:Hp} {kvs:List (List Key×V)} {xs:List (List Key×Addr×Value)} (r:KT H kvs xs) (k:List Key) {b:Addr} {y:V} {u:Value} (hb:H b=some (.tup (k.map kV))) (ry:RelV y u) :
  KT H (putK kvs k y) (storedH xs k b u):=by
 have e:(kvs.any fun kv=>decide (kv.1=k))=(atKey xs k).isSome:=by
  rw [valV_any,(r.val k).isSome_eq,Option.isSome_map]
 unfold putK storedH
 rw [e]
 by_cases q:(atKey xs k).isSome=true
 ·rw [if_pos q,if_pos q]; exact r.repl k ry
 ·rw [if_neg q,if_neg q]; exact Paired.snoc r ⟨rfl,hb,ry⟩
theorem KT.keeps {H H':Hp} {kvs:List (List Key×V)} {xs:List (List Key×Addr×Value)} (r:KT H kvs xs) (ht:∀ b ys,H b=some (.tup ys)→H' b=some (.tup ys)):KT H' kvs xs :=
 Paired.mapP r fun _ _ z=>⟨z.1,ht _ _ z.2.1,z.2.2⟩
section
variable {P:Program} {w:World} {H:Hp} {h:Heap} {a:Addr}
theorem rd_of {u:HO} (ok:HOk P w H h) (e:Rd H a u):ObjOk P w H h a u:=e.ok ok
theorem dk_rd {kvs:List (Key×V)} (ok:HOk P w H h) (e:Rd H a (.dK kvs)):kvs.length ≤ sizeLine∧(a == sysModules)=false∧∃ vs,KV kvs vs∧h.DictOf (mixKind P w) a vs :=
 show ObjOk P w H h a (.dK kvs) from rd_of ok e
theorem dk_of {kvs:List (Key×V)} (ok:HOk P w H h) (e:H a=some (.dK kvs)):kvs.length ≤ sizeLine∧(a == sysModules)=false∧∃ vs,KV kvs vs∧h.DictOf (mixKind P w) a vs:=dk_rd ok (.inl e)
theorem key_of {ks:List Key} (ok:HOk P w H h) (e:H a=some (.tup (ks.map kV))):(tupleKind (mixKind P w)).is h ks a:=by
 obtain ⟨_,its,r,o,h1,h2,n,h3⟩:=(show ObjOk P w H h a (.tup (ks.map kV)) from ok a _ e)
 exact ⟨o,its.toArray,n,h1,h2,h3,by simpa using items_are r⟩
theorem dt_rd {kvs:List (List Key×V)} (ok:HOk P w H h) (e:Rd H a (.dT kvs)):kvs.length ≤ sizeLine∧(a == sysModules)=false ∧
  ∃ xs,KT H kvs xs∧h.DictOfH (tupleKind (mixKind P w)) a xs:=by
 obtain ⟨z,y,xs,r,o,es,ep,h1,h2,h3,h4,h5⟩:=(show ObjOk P w H h a (.dT kvs) from rd_of ok e)
 refine ⟨z,y,xs,r,o,es,ep,h1,h2,h3,h4,fun x hx=>?_,h5⟩
 have all:∀ {l:List (List Key×V)} {m:List (List Key×Addr×Value)},KT H l m→∀ x ∈ m,(tupleKind (mixKind P w)).is h x.1 x.2.1:=by
  intro l m q
  induction q with
  | nil=>intro x hx; exact nomatch hx
  | @cons p q ps qs hq t ih =>
   intro x hx
   rcases List.mem_cons.mp hx with e | hx
   ·subst e
    exact key_of ok (by rw [← hq.1]; exact hq.2.1)
   ·exact ih x hx
 exact all r x hx
theorem dt_of {kvs:List (List Key×V)} (ok:HOk P w H h) (e:H a=some (.dT kvs)):kvs.length ≤ sizeLine∧(a == sysModules)=false ∧
  ∃ xs,KT H kvs xs∧h.DictOfH (tupleKind (mixKind P w)) a xs:=dt_rd ok (.inl e)
end
def DGet (H:Hp) (a:Addr) (y:V) (r:Option V):Prop :=
 (∃ kvs k,Rd H a (.dK kvs)∧y=kV k∧r=valV kvs k)∨∃ kvs k b,Rd H a (.dT kvs)∧y=.ref b∧H b=some (.tup (k.map kV))∧r=valV kvs k
def DPut (H:Hp) (a:Addr) (y v:V) (H':Hp):Prop :=
 (∃ kvs k,H a=some (.dK kvs)∧y=kV k∧kvs.length < sizeLine∧H'=upd H a (.dK (putK kvs k v))) ∨
 ∃ kvs k b,H a=some (.dT kvs)∧y=.ref b∧H b=some (.tup (k.map kV))∧kvs.length < sizeLine∧H'=upd H a (.dT (putK kvs k v))
theorem DGet.k {H:Hp} {a:Addr} {kvs:List (Key×V)} {k:Key} (e:H a=some (.dK kvs)):DGet H a (kV k) (valV kvs k):=.inl ⟨kvs,k,.inl e,rfl,rfl⟩
theorem DGet.t {H:Hp} {a b:Addr} {kvs:List (List Key×V)} {k:List Key} (e:H a=some (.dT kvs)) (eb:H b=some (.tup (k.map kV))):DGet H a (.ref b) (valV kvs k):=.inr ⟨kvs,k,b,.inl e,rfl,eb,rfl⟩
theorem DPut.k {H:Hp} {a:Addr} {kvs:List (Key×V)} {k:Key} {v:V} (e:H a=some (.dK kvs)) (hl:kvs.length < sizeLine):DPut H a (kV k) v (upd H a (.dK (putK kvs k v))):=.inl ⟨kvs,k,e,rfl,hl,rfl⟩
theorem DPut.t {H:Hp} {a b:Addr} {kvs:List (List Key×V)} {k:List Key} {v:V} (e:H a=some (.dT kvs)) (eb:H b=some (.tup (k.map kV))) (hl:kvs.length < sizeLine) :
  DPut H a (.ref b) v (upd H a (.dT (putK kvs k v))):=.inr ⟨kvs,k,b,e,rfl,eb,hl,rfl⟩
section
variable {X:Cx} {pins:List (Addr×Obj)} {σ:St} {H:Hp} {s:Shared} {a:Addr} {y v:V} {u r:Value} {o:Option V} {A:Around} {E:Value→Shared→Prop}
theorem Inv.big (I:Inv X pins σ H s):sysModules < s.heap.objs.size:=by
 have h:mainGlobals < s.heap.objs.size:=(I.mod.glob.keeps I.bk).lt
 exact Nat.lt_trans (by decide) h
theorem d_getItem {Q:Value→Shared→Prop} (hu:A.units + 1 < cLine) (I:Inv X pins σ H s) (g:DGet H a y (some v)) (ry:RelV y u) (h:∀ w' s',Inv X pins σ H s'→RelV v w'→Q w' s') :
  wpAny (model X.prog X.w) A (getItem (.ref a) u) Q E s:=by
 rcases g with ⟨kvs,k,e,ey,l⟩ | ⟨kvs,k,b,e,ey,eb,l⟩
 ·subst ey
  obtain ⟨z,hd,vs,rel,dd⟩:=dk_rd I.hok e
  obtain ⟨w',hw,rw'⟩:=RelO.some_of (v:=v) (o:=valueAt vs k) (by rw [l]; exact rel.val k)
  exact wpAny_getItem_of (kV_is ry) dd.mapOf hw (h w' _ (I.tok _) rw')
 ·subst ey
  cases (show u=Value.ref b from ry)
  obtain ⟨z,hd,xs,rel,dd⟩:=dt_rd I.hok e
  obtain ⟨w',hw,rw'⟩:=RelO.some_of (v:=v) (o:=(atKey xs k).map (·.2)) (by rw [l]; exact rel.val k)
  obtain ⟨p,hp,hp2⟩:=Option.map_eq_some_iff.mp hw
  refine wpAny_getItem_heap (tupleKind_room_in1 hu) (key_of I.hok eb) dd hp ?_
  rw [hp2]
  exact h w' _ (I.tok _) rw'
theorem d_in {Q:Value→Shared→Prop} (hu:A.units + 1 < cLine) (I:Inv X pins σ H s) (g:DGet H a y o) (ry:RelV y u) (h:∀ s',Inv X pins σ H s'→Q (.bool o.isSome) s') :
  wpAny (model X.prog X.w) A (compareOp .In u (.ref a)) Q E s:=by
 rcases g with ⟨kvs,k,e,ey,l⟩ | ⟨kvs,k,b,e,ey,eb,l⟩
 ·subst ey
  obtain ⟨z,hd,vs,rel,dd⟩:=dk_rd I.hok e
  refine wpAny_in_of (kV_is ry) hd dd.mapOf ?_
  rw [← (rel.val k).isSome_eq,← l]
  exact h _ (I.tok _)
 ·subst ey
  cases (show u=Value.ref b from ry)
  obtain ⟨z,hd,xs,rel,dd⟩:=dt_rd I.hok e
  refine wpAny_in_heap (tupleKind_room_in1 hu) (key_of I.hok eb) hd dd ?_
  have q:=(rel.val k).isSome_eq
  rw [Option.isSome_map] at q
  rw [← q,← l]
  exact h _ (I.tok _)
theorem d_notIn {Q:Value→Shared→Prop} (hu:A.units + 1 < cLine) (I:Inv X pins σ H s) (g:DGet H a y o) (ry:RelV y u) (h:∀ s',Inv X pins σ H s'→Q (.bool (!o.isSome)) s') :
  wpAny (model X.prog X.w) A (compareOp .NotIn u (.ref a)) Q E s:=by
 rcases g with ⟨kvs,k,e,ey,l⟩ | ⟨kvs,k,b,e,ey,eb,l⟩
 ·subst ey
  obtain ⟨z,hd,vs,rel,dd⟩:=dk_rd I.hok e
  refine wpAny_notIn_of (kV_is ry) hd dd.mapOf ?_
  rw [← (rel.val k).isSome_eq,← l]
  exact h _ (I.tok _)
 ·subst ey
  cases (show u=Value.ref b from ry)
  obtain ⟨z,hd,xs,rel,dd⟩:=dt_rd I.hok e
  refine wpAny_notIn_heap (tupleKind_room_in1 hu) (key_of I.hok eb) hd dd ?_
  have q:=(rel.val k).isSome_eq
  rw [Option.isSome_map] at q
  rw [← q,← l]
  exact h _ (I.tok _)
theorem d_write {h':Heap} {t':Nat} {ob:HO} (I:Inv X pins σ H s) (mu:Mut (H a)) (hs:Heap.SameBut a s.heap h') (he:∃ q,h'.get? a=some q) (new:ObjOk X.prog X.w (upd H a ob) h' a ob) :
  Inv X pins σ (upd H a ob) { s with heap:=h',toks:=t' } :=
 I.write (x:=a) (e:=a) mu (.inl rfl) (fun b q hb z=>(hs.2 b hb).trans z) he new
theorem dk_new {P:Program} {w:World} {H':Hp} {h':Heap} {kvs:List (Key×V)} {vs:List (Key×Value)} (z:kvs.length ≤ sizeLine) (hd:(a == sysModules)=false) (rel:KV kvs vs) (dd:h'.DictOf (mixKind P w) a vs) :
  ObjOk P w H' h' a (.dK kvs):=⟨z,hd,vs,rel,dd⟩
theorem d_setItem {H':Hp} {Q:Unit→Shared→Prop} (hu:A.units + 1 < cLine) (I:Inv X pins σ H s) (g:DPut H a y v H') (ry:RelV y u) (rv:RelV v r) (h:∀ s',Inv X pins σ H' s'→Q () s') :
  wpAny (model X.prog X.w) A (setItem (.ref a) u r) Q E s:=by
 rcases g with ⟨kvs,k,e,ey,l,eH⟩ | ⟨kvs,k,b,e,ey,eb,l,eH⟩
 ·subst ey eH
  obtain ⟨z,hd,vs,rel,dd⟩:=dk_of I.hok e
  have hz:vs.length ≤ sizeLine:=by rw [← rel.length]; exact z
  have hl:(putK kvs k v).length ≤ sizeLine:=by have:=length_putK kvs k v; omega
  refine wpAny_setItem_pairs (hsz:=hz) (kV_is ry) dd fun h' dd' hs=>h _ ?_
  have he:∃ q,h'.get? a=some q:=let ⟨q,_,_,hq,_⟩:=dd'; ⟨q,hq⟩
  exact d_write I (by rw [e]; exact True.intro) hs he (dk_new hl hd (rel.put k rv) dd')
 ·subst ey eH
  cases (show u=Value.ref b from ry)
  obtain ⟨z,hd,xs,rel,dd⟩:=dt_of I.hok e
  have hz:xs.length ≤ sizeLine:=by rw [← Paired.length rel]; exact z
  have hl:(putK kvs k v).length ≤ sizeLine:=by have:=length_putK kvs k v; omega
  refine wpAny_setItem_heap (hsz:=hz) (tupleKind_room_in1 hu) (key_of I.hok eb) dd fun h' dd' hs=>h _ ?_
  obtain ⟨q,es,ep,hq,h2,h3,h4,_,h5⟩:=dd'
  refine d_write I (by rw [e]; exact True.intro) hs ⟨q,hq⟩ ⟨hl,hd,_,(rel.put k eb rv).keeps fun c ys ec=>?_,q,es,ep,hq,h2,h3,h4,h5⟩
  rw [upd_ne (ne_of ec e (fun z=>nomatch z))]
  exact ec
end
section
variable {X:Cx} {pins:List (Addr×Obj)} {σ:St} {H:Hp} {s:Shared} {a:Addr} {kvs:List (Key×V)} {k:Key} {u:Value} {A:Around} {E:Value→Shared→Prop}
theorem d_len {Q:Value→Shared→Prop} (I:Inv X pins σ H s) (e:Rd H a (.dK kvs)) (h:∀ t s',Inv X pins σ H s'→Q (.int kvs.length t) s'):wpAny (model X.prog X.w) A (call (.builtin "len") [.ref a]) Q E s:=by
 obtain ⟨z,hd,vs,rel,dd⟩:=dk_rd I.hok e
 refine call_len_dict hd dd (by rw [← rel.length]; rw [sizeLine_eq] at z; omega) ?_
 rw [← rel.length]
 exact h _ _ (I.tok _)
end
def NoSl (i:Expr):Prop:=∀ ov iv,subscripted i false ov iv=operate [ov,iv] (getItem ov iv)
theorem subD_of {prog:Program} {w:World} {A:Around} {E:Value→Shared→Prop} {s:Shared} {env:Env} {value slice:Expr} {pos:Pos} {T id:String} {Q:Value→Shared→Prop}
  (hl:typeLookup (.type T) "__getitem__" = pure (some (.builtin id))) (hs:NoSl slice)
  (h:wpAny (model prog w) A (eval value env) (fun o s₁=>wpAny (model prog w) A (eval slice env) (fun i s₂=>s₂.TypeIs o T∧wpAny (model prog w) A (getItem o i) Q E s₂) E s₁) E s) :
  wpAny (model prog w) A (eval (.Subscript value slice pos) env) Q E s:=by
 refine Subscript_ (wpAny_mono h (fun o s₁ h₁=>wpAny_mono h₁ (fun i s₂ h₂=>?_) fun _ _ x=>x) fun _ _ x=>x)
 obtain ⟨hT,h₂⟩:=h₂
 unfold subscriptTail
 refine wpAny_bind ?_
 rw [getitemInPython_of_ne hT.not_modules]
 refine wpAny_bind (wpAny_specialOf hT hl ?_)
 have fin:wpAny (model prog w) A (subscripted slice false o i) (fun r s₃=>wpAny (model prog w) A (letTemporaryGo value o r >>= fun _=>pure r) Q E s₃) E s₂:=by
  rw [hs o i]
  exact wpAny_operating (wpAny_mono h₂ (fun r s₃ h₃=>wpAny_bind (wpAny_letTemporaryGo (wpAny_pure h₃))) fun _ _ x=>x)
 first
  | exact wpAny_pure (wpAny_bind fin)
  | exact wpAny_bind (wpAny_pure (wpAny_bind fin))
  | exact wpAny_bind fin
theorem dict_typeIs {X:Cx} {pins:List (Addr×Obj)} {σ:St} {H:Hp} {s:Shared} {a:Addr} {y:V} {o:Option V} (I:Inv X pins σ H s) (g:DGet H a y o):s.TypeIs (.ref a) "dict" := by
 rcases g with ⟨kvs,k,e,_,_⟩ | ⟨kvs,k,b,e,_,_,_⟩
 ·obtain ⟨_,_,vs,_,dd⟩:=dk_rd I.hok e
  exact dd.typeIs
 ·obtain ⟨_,_,xs,_,dd⟩:=dt_rd I.hok e
  exact dd.typeIs
def tDGet (td ty:TE):TE:=fun σ H Q=>td σ H fun x H1=>ty σ H1 fun y H2=>∃ a v,x=.ref a∧DGet H2 a y (some v)∧Q v H2
def tDIn (ty td:TE):TE:=fun σ H Q=>ty σ H fun y H1=>td σ H1 fun x H2=>∃ a o,x=.ref a∧DGet H2 a y o∧Q (.bl o.isSome) H2
def tDNotIn (ty td:TE):TE:=fun σ H Q=>ty σ H fun y H1=>td σ H1 fun x H2=>∃ a o,x=.ref a∧DGet H2 a y o∧Q (.bl (!o.isSome)) H2
def sDPut (td ty tv:TE):TS:=fun D σ H=>tv σ H fun v H1=>td σ H1 fun x H2=>ty σ H2 fun y H3=>∃ a H4,x=.ref a∧DPut H3 a y v H4∧D.nx σ H4
def sDAug (td ty tv:TE) (rd:V→V→Hp→VK→Prop):TS:=fun D σ H=>td σ H fun x H1=>ty σ H1 fun y H2=>∃ a v,x=.ref a∧DGet H2 a y (some v) ∧
 tv σ H2 fun y2 H3=>rd v y2 H3 fun z H4=>∃ H5,DPut H4 a y z H5∧D.nx σ H5
def sDDel (td ty:TE):TS:=fun D σ H=>td σ H fun x H1=>ty σ H1 fun y H2=>∃ a kvs k,x=.ref a∧H2 a=some (.dK kvs)∧y=kV k∧(valV kvs k).isSome=true∧D.nx σ (upd H2 a (.dK (dropK kvs k)))
section
variable {X:Cx} {o i e value:Expr} {pos pos' tpos:Pos} {td ty tv:TE}
theorem pe_dget (hu:X.A.units + 1 < cLine) (ho:PE X o td) (hi:PE X i ty) (hs:NoSl i):PE X (.Subscript o i pos) (tDGet td ty):=by
 intro pins s σ H Q I h
 refine subD_of PySem.F.slot_dict_getitem.lookup hs (thn (ho pins s σ H _ I h) fun u s1 ⟨x,H1,I1,rx,q1⟩=>thn (hi pins s1 σ H1 _ I1 q1) fun iv s2 ⟨y,H2,I2,ry,a,v,ex,g,q2⟩=>?_)
 subst ex
 obtain rfl:u=Value.ref a:=rx
 exact ⟨dict_typeIs I2 g,d_getItem hu I2 g ry fun w' s3 I3 rw'=>⟨v,H2,I3,rw',q2⟩⟩
theorem ps_dput (hu:X.A.units + 1 < cLine) (ho:PE X o td) (hi:PE X i ty) (hv:PE X value tv) (hs:swapsWith value (some (.Subscript o i pos')) pos.line X.env=pure false) :
  PS X (.Assign [.Subscript o i pos'] value pos) (sDPut td ty tv):=by
 intro pins s σ H D I h
 refine wpAny_Assign_Subscript (thn (hv pins s σ H _ I h) fun r s1 ⟨v,H1,I1,rv,q1⟩=>thn (ho pins s1 σ H1 _ I1 q1) fun u s2 ⟨x,H2,I2,rx,q2⟩=>thn (hi pins s2 σ H2 _ I2 q2) fun iv s3 ⟨y,H3,I3,ry,a,H4,ex,g,q3⟩=>?_) hs
 subst ex
 obtain rfl:u=Value.ref a:=rx
 exact d_setItem hu I3 g ry rv fun s4 I4=>⟨σ,H4,I4,q3⟩
end
theorem dk_empty {P:Program} {w:World} {H:Hp} (h:Heap) (hb:sysModules < h.objs.size):ObjOk P w H (h.push { cls:=.type "dict",data:=.dict #[] }) h.objs.size (.dK []) :=
 ⟨Nat.zero_le _,beq_eq_false_iff_ne.mpr (Ne.symm (Nat.ne_of_lt hb)),[],.nil,Heap.DictOf.new h⟩
theorem dt_empty {P:Program} {w:World} {H:Hp} (h:Heap) (hb:sysModules < h.objs.size):ObjOk P w H (h.push { cls:=.type "dict",data:=.dict #[] }) h.objs.size (.dT []) :=
 ⟨Nat.zero_le _,beq_eq_false_iff_ne.mpr (Ne.symm (Nat.ne_of_lt hb)),[],.nil,_,#[],0,Heap.get?_push_size _ rfl,⟨rfl,rfl,rfl⟩,rfl,rfl,List.nodup_nil⟩
def tDNewK:TE:=fun _ H Q=>∀ p,H p=none→Q (.ref p) (upd H p (.dK []))
def tDNewT:TE:=fun _ H Q=>∀ p,H p=none→Q (.ref p) (upd H p (.dT []))
section
variable {X:Cx} {pos:Pos}
theorem pe_dnewK:PE X (.Dict [] [] pos) tDNewK:=fun pins s σ H Q I h =>
 wpAny_Dict_empty ⟨.ref s.heap.objs.size,_,I.laid (a:=s.heap.objs.size) (o:=.dK []) (t':=s.toks) (fun _ _ q=>Heap.get?_push_of_some _ q) (Nat.le_refl _) (dk_empty s.heap I.big),rfl,h _ (I.hok.fresh (Nat.le_refl _))⟩
theorem pe_dnewT:PE X (.Dict [] [] pos) tDNewT:=fun pins s σ H Q I h =>
 wpAny_Dict_empty ⟨.ref s.heap.objs.size,_,I.laid (a:=s.heap.objs.size) (o:=.dT []) (t':=s.toks) (fun _ _ q=>Heap.get?_push_of_some _ q) (Nat.le_refl _) (dt_empty s.heap I.big),rfl,h _ (I.hok.fresh (Nat.le_refl _))⟩
end
def tPairs:List (TE×TE)→St→Hp→(List (V×V)→Hp→Prop)→Prop
 | [],_,H,Q=>Q [] H
 | (tk,tv) :: r,σ,H,Q=>tk σ H fun x H1=>tv σ H1 fun y H2=>tPairs r σ H2 fun ps H3=>Q ((x,y) :: ps) H3
abbrev VV:List (V×V)→List (Value×Value)→Prop:=Paired fun p q=>RelV p.1 q.1∧RelV p.2 q.2
def PPs (X:Cx) (pos:Pos) (keys:List (Option Expr)) (values:List Expr) (trs:List (TE×TE)):Prop :=
 ∀ (pins:List (Addr×Obj)) (s:Shared) (σ:St) (H:Hp) (Q:List (V×V)→Hp→Prop),Inv X pins σ H s→tPairs trs σ H Q →
  wpAny (model X.prog X.w) X.A (evalPairs (pairTrees keys values X.env pos)) (fun vs s'=>∃ ps H',Inv X pins σ H' s'∧VV ps vs∧Q ps H') X.xe s
def mergeK (kvs more:List (Key×V)):List (Key×V):=more.foldl (fun acc kv=>putK acc kv.1 kv.2) kvs
def tDisp (trs:List (TE×TE)):TE:=fun σ H Q=>∀ p,H p=none→tPairs trs σ (upd H p (.dK [])) fun ps H2=>H2 p=some (.dK [])∧∃ kvs:List (Key×V),ps=kvs.map (fun kv=>(kV kv.1,kv.2))∧kvs.length ≤ 15∧Q (.ref p) (upd H2 p (.dK (mergeK [] kvs)))
structure M1 (X:Cx) (o:Expr) (m:Str) (apos:Pos) (e:Expr) (cpos:Pos):Prop where
 base:attributeBase o m X.env (eval o X.env)=eval o X.env
 few:((backTo cpos (starEach [e] X.env)).all (fun x=>!x.1) && (backToKw cpos (keywordEach [] X.env)).all (fun x=>x.1.isSome)
  && decide (([e]:List Expr).length + ([]:List Keyword).length + (if ([]:List Keyword).isEmpty then 0 else 1) < 30))=true
 line:(apos.endLine == cpos.line)=true
 trees:backTo cpos (starEach [e] X.env)=[(false,eval e X.env)]
structure M2 (X:Cx) (o:Expr) (m:Str) (apos:Pos) (e f:Expr) (cpos:Pos):Prop where
 base:attributeBase o m X.env (eval o X.env)=eval o X.env
 few:((backTo cpos (starEach [e,f] X.env)).all (fun x=>!x.1) && (backToKw cpos (keywordEach [] X.env)).all (fun x=>x.1.isSome)
  && decide (([e,f]:List Expr).length + ([]:List Keyword).length + (if ([]:List Keyword).isEmpty then 0 else 1) < 30))=true
 line:(apos.endLine == cpos.line)=true
 trees:backTo cpos (starEach [e,f] X.env)=[(false,eval e X.env),(false,eval f X.env)]
def IsD (H:Hp) (a:Addr):Prop:=(∃ kvs,Rd H a (.dK kvs))∨∃ kvs,Rd H a (.dT kvs)
section
variable {X:Cx} {pins:List (Addr×Obj)} {σ:St} {H:Hp} {s:Shared} {a:Addr} {y d:V} {u r:Value} {o:Option V} {A:Around} {E:Value→Shared→Prop}
end
def tDGet1 (td ty:TE):TE:=fun σ H Q=>td σ H fun x H1=>∃ a,x=.ref a∧IsD H1 a∧ty σ H1 fun y H2=>∃ o,DGet H2 a y o∧Q (o.getD .non) H2
def tDGet2 (td ty tx:TE):TE:=fun σ H Q=>td σ H fun x H1=>∃ a,x=.ref a∧IsD H1 a∧ty σ H1 fun y H2=>tx σ H2 fun z H3=>∃ o,DGet H3 a y o∧Q (o.getD z) H3
def tDPop1 (td ty:TE):TE:=fun σ H Q=>td σ H fun x H1=>∃ a,x=.ref a∧IsD H1 a∧ty σ H1 fun y H2=>∃ kvs k v,H2 a=some (.dK kvs)∧y=kV k∧valV kvs k=some v∧Q v (upd H2 a (.dK (dropK kvs k)))
def tDPop2 (td ty tx:TE):TE:=fun σ H Q=>td σ H fun x H1=>∃ a,x=.ref a∧IsD H1 a∧ty σ H1 fun y H2=>tx σ H2 fun z H3=>∃ kvs k,H3 a=some (.dK kvs)∧y=kV k ∧
 (∀ v,valV kvs k=some v→Q v (upd H3 a (.dK (dropK kvs k))))∧(valV kvs k=none→Q z H3)
section
variable {X:Cx} {o e f:Expr} {apos cpos:Pos} {td ty tx:TE}
end
section
variable {X:Cx} {pins:List (Addr×Obj)} {σ:St} {H:Hp} {s:Shared} {a:Addr} {kvs:List (Key×V)} {A:Around} {E:Value→Shared→Prop}
end
section
variable {X:Cx} {pins:List (Addr×Obj)} {σ:St} {H:Hp} {s:Shared} {a:Addr} {y:V} {u:Value} {A:Around} {E:Value→Shared→Prop}
end
end L2
namespace Att
open PySem PySem.W PySem.Calls PyProof.Rows
theorem ints_of_wellAll {P:Params} {h:Heap}:∀ (ns:List Int) (vs:List Value),WellAll P h vs (ns.map WData.int)→IntsAre vs ns:=by
 intro ns
 induction ns with
 | nil =>
  intro vs w
  rw [List.map_nil] at w
  cases w
  exact .nil
 | cons n ns ih =>
  intro vs w
  rw [List.map_cons] at w
  cases w with
  | cons a b =>
   cases a
   exact .cons _ _ (ih _ b)
theorem script_of {l:OpenLaw} {n:Nat} (hn:l.most=some n) {P:Params} {h:Heap} {args:List WData} {vals:List Value}
  (hpre:l.row.toRowW.claim.pre args=true) (hwl:WellAll P h vals args) :
  ∃ a vs ns,vals=[Value.ref a]∧args=[WData.list (ns.map WData.int)]∧h.get? a=some { cls:=.type "list",data:=.seq vs.toArray }∧IntsAre vs ns∧ns.length ≤ n:=by
 have hsh:WShape.hasAll [] args [.list .int]=true:=(pre_splitW hpre).1
 have hc:l.pre.holds [] { args:=args }=true:=(pre_splitW hpre).2
 obtain ⟨d,r,rfl,h1,h2⟩:=hasAllW_cons hsh
 obtain rfl:=hasAllW_nil h2
 obtain ⟨xs,rfl,h3⟩:=hasW_list h1
 obtain ⟨ns,rfl⟩:=items_int h3
 have hlen:ns.length ≤ n:=by
  unfold OpenLaw.pre at hc
  have h4:(WTm.not (.lt (.lit (.int (n:Int))) (.len (.arg 0)))).holds [] { args:=[.list (ns.map .int)] }=true:=by
   have h4:=(holds_andW hc).1
   rw [hn] at h4
   exact h4
  have h5:=condW_of h4 (w_not (w_lt w_lit (w_len_list (w_arg rfl))))
  rw [List.length_map] at h5
  refine Nat.le_of_not_lt fun q=>?_
  have q':(n:Int) < ((ns.length:Nat):Int):=by omega
  first
   | (rw [decide_eq_true q'] at h5; exact absurd h5 (by decide))
   | (simp at h5; omega)
 cases hwl with
 | cons w1 w2 =>
  cases w2
  cases w1 with
  | list ho hall=>exact ⟨_,_,ns,rfl,rfl,ho,ints_of_wellAll ns _ hall,hlen⟩
theorem post_true (l:OpenLaw) (args:List WData):l.row.toRowW.claim.post args (.bool true) args=true :=
 postW_of (r:=l.row.toRowW) (X:=(true == true))
  (show WShape.has [] (.bool true) .bool=true by first | rfl | decide | simp [WShape.has,WShape.arms,WShape.armsAll])
  (show (WTm.eq .res (.lit (.bool true))).value [] { args:=args,res:=some (.bool true),after:=args }=some (.bool (true == true)) from w_eq_bool (w_res rfl) w_lit) rfl
theorem attach_call {l:OpenLaw} {n:Nat} {q:Program} {loose:List Str} {XP:(Str→Option Value)→Heap→Prop} {YP:World→Heap→Prop} {d:DefRec}
  (hn:l.most=some n) (hdf:d.params.defaults=[])
  (call:∀ (w:World) (s₀ s₁:Shared) (mg mb:Str→Option Value) (fa:Addr) (o:Obj) (pm cd doc:Value) (a:Addr) (vs:List Value) (ns:List Int),
   Ground q loose [] XP w s₀ mg mb s₁.heap→YP w s₁.heap →
   s₁.heap.get? fa=some o→o.data=.func (docDef d.name d.params d.body d.scope pm cd doc)→s₁.heap.CodeRec cd d.name→mg d.name=some (.ref fa) →
   s₁.heap.get? a=some { cls:=.type "list",data:=.seq vs.toArray }→IntsAre vs ns→ns.length ≤ n→s₁.gens=#[] →
   codeAny (model l.prog w) callerA (.call (.ref fa) ⟨[.ref a],[]⟩) (fun r s'=>r=.ok (.ret (.bool true))∧OldK s₁.heap s'.heap∧s'.os=s₁.os∧AllBare s'.gens) s₁) :
  WalkO q loose XP YP l.row.toRowW d [] (fun f vs=>PySem.call f vs):=by
 intro w s₀ s₁ mg mb G Y fa o pm cd doc dV kV ho hd hcd hD hmg hg args vals as hpre hlay hrd hwl hlo
 obtain rfl:dV=.none:=Dflts.none hD hdf
 obtain rfl:kV=.none:=Dflts.noKw hD
 obtain ⟨a,vs,ns,rfl,rfl,hobj,hints,hlen⟩:=script_of hn hpre hwl
 refine enter_call (codeAny_mono (call w s₀ s₁ mg mb fa o pm cd doc a vs ns G Y ho (fd_plain hd) hcd hmg hobj hints hlen hg) fun r s' hq=>?_)
 obtain ⟨rfl,h2,h3,h4⟩:=hq
 exact ⟨.inl ⟨.bool true,.bool true,[],rfl,fun _=>rfl,.bool true,post_true l _,fun _=>⟨List.Pairwise.nil,fun _ hm=>(nomatch hm)⟩⟩,h2,h3,h4⟩
section
variable {prog:Program} {w:World} {A:Around} {E:Value→Shared→Prop} {s:Shared} {K:Frag}
def noObjs (h:Heap):Heap:={ h with objs:=#[] }
def ledger (h:Heap) (L d:Addr):List (Addr×Obj):=(List.range h.objs.size).filterMap fun a=>if a=L∨a=d then none else (h.get? a).map fun o=>(a,o)
end
end Att
namespace L2
open PySem PySem.Spec PyProof.Rows
theorem vals_ints:∀ {vs:List Value} {ns:List Int},IntsAre vs ns→Vals (ns.map V.int) vs
 | _,_,.nil=>.nil
 | _,_,.cons n t h=>.cons ⟨t,rfl⟩ (vals_ints h)
def Only (H:Hp):Prop:=∀ b,H b=none∨∃ o xs,H b=some (.frz o (.lst xs))
theorem law_call {P:Program} {w:World} {K:PySem.W.Frag} {mg mb:Str→Option Value} {CX:CXT} {k:Nat} {fa a:Addr} {fd:FuncData} {x:Str} {sp:Sp} {s₁:Shared} {vs:List Value} {ns:List Int}
  (KX:K.In s₁.heap) (hns:s₁.heap.Ns mainGlobals mg) (hb:s₁.heap.Ns builtinsNs mb) (hbb:∀ x:Str,x ≠ "__name__" → mb x=bootBuiltins x) (hlim:s₁.heap.NoLimit) (hbm:BMain mg s₁.heap) (hg:s₁.gens=#[])
  (ha:s₁.heap.get? a=some { cls:=.type "list",data:=.seq vs.toArray }) (hi:IntsAre vs ns) (hl:ns.length ≤ sizeLine) (hr:Room k callerA)
  (F:∀ base:Heap,K.In base→base.Ns mainGlobals mg→FnOk P w K mg base CX k fa fd [x] sp) (hbind:∀ (s:Shared) (u:Value),BindsTo s fd ⟨[u],[]⟩ [(x,u)])
  (hsp:∀ H:Hp,Only H→SqL K H a (ns.map V.int)→sp [.ref a] H (fun v _=>v=.bl true) fun _ _ _=>False)
  (hCX:∀ H e s',CX [] H s₁ (fun _ _ _=>False) e s'→False) :
  codeAny (model P w) callerA (.call (.ref fa) ⟨[.ref a],[]⟩) (fun r s'=>r=.ok (.ret (.bool true))∧OldK s₁.heap s'.heap∧s'.os=s₁.os∧AllBare s'.gens) s₁:=by
 have rv:=vals_ints hi
 have lenV:=hi.length
 have core:∀ H:Hp,Only H→SqL K H a (ns.map V.int)→HOk P w H s₁.heap→(∀ b,H b ≠ none→b=a)→(H a ≠ none→K.lookup a=none) →
   codeAny (model P w) callerA (.call (.ref fa) ⟨[.ref a],[]⟩) (fun r s'=>r=.ok (.ret (.bool true))∧OldK s₁.heap s'.heap∧s'.os=s₁.os∧AllBare s'.gens) s₁:=by
  intro H hO hS hok hA hK
  have base_of:∀ {b:Addr} {o:Obj},s₁.heap.get? b=some o→H b=none→(hidT s₁.heap H).get? b=some o:=fun e n=>hidT_get e n
  have noA:∀ {b:Addr} {o:Obj} {es:Array DictEntry} {ep:Nat},s₁.heap.get? b=some o→o.data=.dict es ep→H b=none:=fun {b o es ep} e d=>by
   cases q:H b with
   | none=>rfl
   | some u =>
    have e':b=a:=hA b (by rw [q]; simp)
    subst e'
    rw [ha] at e; cases e
    have d':Data.seq vs.toArray _=Data.dict es ep:=d
    cases d'
  have nsK:∀ {b:Addr} {m:Str→Option Value},s₁.heap.Ns b m→(hidT s₁.heap H).Ns b m:=fun {b m} ⟨o,es,ep,e,d,r⟩=>⟨o,es,ep,base_of e (noA e d),d,r⟩
  have hKb:K.In (hidT s₁.heap H):=fun b o e=>base_of (KX b o e) (by
   cases q:H b with
   | none=>rfl
   | some u =>
    have e':b=a:=hA b (by rw [q]; simp)
    subst e'
    rw [hK (by rw [q]; simp)] at e; cases e)
  have hM:Mod K mg (hidT s₁.heap H):=⟨hKb,nsK hns,⟨mb,nsK hb,hbb⟩,let ⟨mc,h1,h2⟩:=hlim; ⟨mc,nsK h1,h2⟩,by
   obtain ⟨bm,ob,b1,b2,b3,b4,b5,b6⟩:=hbm
   refine ⟨bm,ob,b1,b2,base_of b3 ?_,b4,b5,b6⟩
   cases q:H bm with
   | none=>rfl
   | some u =>
    have e':bm=a:=hA bm (by rw [q]; simp)
    subst e'
    rw [ha] at b3; cases b3
    cases b6⟩
  have e0:Env0 P w K mg (hidT s₁.heap H) callerA [] s₁ H:=⟨rfl,hM,fun b o e=>of_hidT e,Nat.le_of_eq (hidT_size _ _),trivial,fun b hb=>absurd (show b ∈ ([]:List Addr) from hb) (by simp),hok,.of_eq hg⟩
  refine codeAny_mono ((F _ hKb (nsK hns)).run callerA [] s₁ H ⟨[.ref a],[]⟩ [.ref a] [.ref a] _ _ hr e0 (hbind s₁ (.ref a)) (.cons rfl .nil) (hsp H hO hS)) fun r s' h=>?_
  cases r with
  | error e=>exact (hCX H e s' h).elim
  | ok fl =>
   cases fl with
   | next=>exact False.elim h
   | brk=>exact False.elim h
   | cont=>exact False.elim h
   | ret u =>
    obtain ⟨v,H',os,bare,un,hok',r',q⟩:=h
    have q':v=.bl true:=q
    subst q'
    obtain rfl:u=Value.bool true:=r'
    refine ⟨rfl,OldK.of_keep fun b o e=>?_,os,bare⟩
    cases q:H b with
    | none=>exact un.keep b o e q (by intro z; exact absurd (show b ∈ ([]:List Addr) from z) (by simp)) (by simp)
    | some u =>
     rcases hO b with z | ⟨ob,xs,z⟩
     ·rw [q] at z; cases z
     ·have z2:=un.frzs b ob _ z
      obtain ⟨e1,_⟩:=hok b _ z
      obtain ⟨e2,_⟩:=hok' b _ z2
      rw [e] at e1; cases e1
      exact e2
 cases hk:K.lookup a with
 | some o =>
  have e:=KX a o hk
  rw [ha] at e
  cases e
  refine core (fun _=>none) (fun _=>.inl rfl) (.inr ⟨_,vs.toArray,_,hk,rfl,rfl,rfl,by rw [List.size_toArray,lenV]; exact hl,by simpa using rv⟩) (fun b u z=>by have z':(none:Option HO)=some u:=z; cases z') (fun b z=>absurd rfl z) fun z=>absurd rfl z
 | none =>
  refine core (fun b=>if b=a then some (.frz { cls:=.type "list",data:=.seq vs.toArray } (.lst (ns.map V.int))) else none) (fun b=>?_) (.inl (.inr ⟨{ cls:=.type "list",data:=.seq vs.toArray },if_pos rfl⟩)) (fun b u z=>?_) (fun b z=>?_) fun _=>hk
  ·by_cases hb:b=a
   ·exact .inr ⟨_,_,if_pos hb⟩
   ·exact .inl (if_neg hb)
  ·by_cases hb:b=a
   ·have z':=(if_pos hb).symm.trans z
    cases z'
    subst hb
    exact ⟨ha,by rw [List.length_map]; exact hl,vs,_,rv,ha⟩
   ·have z':=(if_neg hb).symm.trans z
    cases z'
  ·by_cases hb:b=a
   ·exact hb
   ·exact absurd (if_neg hb) z
end L2
namespace L2
open PySem PySem.Spec PyProof.Rows
abbrev KOf {K:PySem.W.Frag} {h:Heap} (_:K.In h):PySem.W.Frag:=K
theorem walk_of {l:PySem.W.OpenLaw} {n k:Nat} {q:Program} {loose:List Str} {XP:(Str→Option Value)→Heap→Prop} {YP:World→Heap→Prop} {d:DefRec} {K:Params→PySem.W.Frag} {CX:World→CXT} {sp:World→Sp} {x:Str}
  (hn:l.most=some n) (hn2:n ≤ sizeLine) (hdf:d.params.defaults=[]) (hr:Room k callerA)
  (hY:∀ (w:World) (h:Heap),YP w h→(K w.params).In h)
  (F:∀ (w:World) (mg:Str→Option Value) (fa:Addr) (h:Heap),(K w.params).In h→h.Ns mainGlobals mg→mg d.name=some (.ref fa) →
   ∃ fd:FuncData,(∀ (s:Shared) (u:Value),BindsTo s fd ⟨[u],[]⟩ [(x,u)]) ∧
    ∀ base:Heap,(K w.params).In base→base.Ns mainGlobals mg→FnOk l.prog w (K w.params) mg base (CX w) k fa fd [x] (sp w))
  (hsp:∀ (w:World) (H:Hp) (a:Addr) (ns:List Int),ns.length ≤ n→Only H→SqL (K w.params) H a (ns.map V.int)→sp w [.ref a] H (fun v _=>v=.bl true) fun _ _ _=>False)
  (hCX:∀ (w:World) (H:Hp) (s:Shared) (e:Value) (s':Shared),CX w [] H s (fun _ _ _=>False) e s'→False) :
  PySem.W.WalkO q loose XP YP l.row.toRowW d [] (fun f vs=>PySem.call f vs):=by
 refine Att.attach_call hn hdf fun w s₀ s₁ mg mb fa o pm cd doc a vs ns G Y ho hd hcd hmg hobj hints hlen hg=>?_
 have KX:=hY w _ Y
 obtain ⟨fd,hb,hF⟩:=F w mg fa _ KX G.T.g hmg
 exact law_call KX G.T.g G.T.b G.T.builtins G.T.nolimit G.T.bmain hg hobj hints (Nat.le_trans hlen hn2) hr hF hb (fun H hO hS=>hsp w H a ns hlen hO hS) fun H e s'=>hCX w H s₁ e s'
end L2
/- THE LAST THEOREM (shape; LID,My.* are yours):
   My.Adr: a structure of the addresses that your layer names (classes,functions); My.Txt K t: a structure (Prop) of the equations over K;
   My.txt_mk:{K} {implicit addresses ..} (e1:nsIn K mainGlobals "law" = some (some (.ref f))) (e2:K.lookup f=some ⟨oc,od,.func (fnOf "law" "law" params body scope dV kV doc pm an cdv ct),sl⟩) (e3:codeIn K cdv "law" = true) .. : ∃ t,My.Txt K t
(the tactic k_is has no namespace: write k_is) -/
namespace L2
open PySem PySem.Spec PyProof.Rows
def inClass (s:Stmt) (j:Nat):Stmt:=match s with
 | .ClassDef _ _ _ body _ _ _ _ _ _ _=>body.getD j (.Pass ⟨0,0,0,0⟩)
 | _=>.Pass ⟨0,0,0,0⟩
def defArgs (s:Stmt):Arguments:=match s with
 | .FunctionDef _ a _ _ _ _ _ _ _ _=>a
 | _=>{ posonlyargs:=[],args:=[],vararg:=none,kwonlyargs:=[],kw_defaults:=[],kwarg:=none,defaults:=[] }
def defBody (s:Stmt):List Stmt:=match s with
 | .FunctionDef _ _ b _ _ _ _ _ _ _=>b
 | _=>[]
def defScope (s:Stmt):Scope:=match s with
 | .FunctionDef _ _ _ _ _ _ sc _ _ _=>sc
 | _=>{ kind:=.function,names:=[],isGenerator:=false,isCoroutine:=false }
abbrev CX0:CXT:=fun _ _ _ _ _ _=>False
abbrev E0:XK:=fun _ _ _=>False
theorem pass0 {X:Cx}:Passes CX0 X E0:=fun _ _ _ _ _ _ _ h=>h.elim
structure Fun (K:PySem.W.Frag) (x qual:Str) (st:Stmt) (f:Addr) (fd:FuncData):Prop where
 ex:∃ (oc:Value) (od:Option Addr) (kV doc pm:Value) (an:Option Addr) (cdv ct:Value) (osl:Array (Option Value)),
  fd=PySem.W.fnOf x qual (defArgs st) (defBody st) (defScope st) .none kV doc pm an cdv ct∧K.lookup f=some ⟨oc,od,.func fd,osl⟩∧PySem.W.codeIn K cdv qual=true
 kp:PySem.W.keepIn K (.ref f)=true
section
variable {P:Program} {w:World} {K:PySem.W.Frag} {mg:Str→Option Value} {base:Heap}
theorem Fun.ok {x qual:Str} {st:Stmt} {f:Addr} {fd:FuncData} {N ps:List Str} {k:Nat} {sp:Sp} (F:Fun K x qual st f fd) (S:FnScope N ps (defScope st)) (len:∀ vs H Q E,sp vs H Q E→vs.length=ps.length)
  (hbody:∀ (cdv:Value) (A:Around) (outer:List Env) (s:Shared) (H:Hp) (vs:List V) (Q:VK) (E:XK),Room k (A.deeper (envOfC qual (defScope st) s.heap.objs.size f cdv))→sp vs H Q E →
   ∃ t,PSs (cxOf CX0 P w K mg base N qual (defScope st) f cdv A outer s H E).nox (defBody st) t∧t { nx:=fun _ H'=>Q .non H',rt:=Q } (start N vs) H):FnOk P w K mg base CX0 (k + 1) f fd ps sp:=by
 obtain ⟨oc,od,kV,doc,pm,an,cdv,ct,osl,rfl,lk,hcd⟩:=F.ex
 refine fn_of lk hcd S len fun A outer s H vs Q E hr hsp=>?_
 obtain ⟨t,h,q⟩:=hbody cdv A outer s H vs Q E hr hsp
 exact ⟨t,h.nox,q⟩
theorem Fun.binds {x qual:Str} {st:Stmt} {f:Addr} {fd:FuncData} {ps:List Str} (F:Fun K x qual st f fd)
  (h:∀ (kV doc pm:Value) (an:Option Addr) (cdv ct:Value) (us:List Value),us.length=ps.length→bindArgs (PySem.W.fnOf x qual (defArgs st) (defBody st) (defScope st) .none kV doc pm an cdv ct) ⟨us,[]⟩=pure (ps.zip us)):Binds K fd ps []:=by
 obtain ⟨oc,od,kV,doc,pm,an,cdv,ct,osl,rfl,lk,hcd⟩:=F.ex
 exact .all (h kV doc pm an cdv ct)
theorem fun_mk {x qual:Str} {st:Stmt} {f:Addr} {oc:Value} {od an:Option Addr} {osl:Array (Option Value)} {kV doc pm cdv ct:Value} (l:K.lookup f=some ⟨oc,od,.func (PySem.W.fnOf x qual (defArgs st) (defBody st) (defScope st) .none kV doc pm an cdv ct),osl⟩)
  (c:PySem.W.codeIn K cdv qual=true) (k:PySem.W.keepIn K (.ref f)=true):Fun K x qual st f (PySem.W.fnOf x qual (defArgs st) (defBody st) (defScope st) .none kV doc pm an cdv ct):=⟨⟨oc,od,kV,doc,pm,an,cdv,ct,osl,rfl,l,c⟩,k⟩
end
theorem hu_of {A:Around} {k:Nat} (hr:Room k A):A.units + 1 < cLine:=Nat.lt_of_le_of_lt (Nat.add_le_add_left (by decide:1 ≤ 64) _) hr.units
theorem small1000 {n:Nat} (h:n ≤ 1000):n < sizeLine:=Nat.lt_of_le_of_lt h (by decide)
section
variable {X:Cx}
theorem pv (i:Nat) {x:Str} {pos:Pos} (hN:X.N[i]? = some x:=by rfl) (hv:Vis X.env.scope x:=by first | exact Or.inl rfl | exact Or.inr (Or.inl rfl) | exact Or.inr (Or.inr rfl)) (hd:(x == ("__debug__" : Str))=false:=by decide)
  (hcd:(x == ("__classdict__" : Str))=false:=by decide):PE X (.Name x pos) (tVar i):=pe_var hN hv hd hcd
theorem call_lenD:CallR X (.builtin "len") (fun xs H Q=>∃ a kvs,xs=[V.ref a]∧H a=some (.dK kvs)∧Q (.int kvs.length) H):=by
 intro pins s σ H xs us Q I r h
 obtain ⟨a,kvs,rfl,ha,q⟩:=h
 obtain ⟨u,rfl,ru⟩:=vals1 r
 cases ru
 exact d_len I (.inl ha) fun t s' I'=>⟨.int kvs.length,H,I',⟨t,rfl⟩,q⟩
end
theorem iteF {A B:Prop} (h:B):if false=true then A else B:=by
 rw [if_neg Bool.false_ne_true]
 exact h
theorem iteT {A B:Prop} (h:A):if true=true then A else B:=by
 rw [if_pos rfl]
 exact h
theorem ite2 {c A B:Prop} [Decidable c] (h1:c→A) (h2:¬ c→B):if c then A else B:=by
 by_cases h:c
 ·rw [if_pos h]
  exact h1 h
 ·rw [if_neg h]
  exact h2 h
def Same (H H':Hp):Prop:=∀ b o,H b=some o→H' b=some o
theorem Same.refl (H:Hp):Same H H:=fun _ _ h=>h
theorem Same.trans {H H1 H2:Hp} (a:Same H H1) (b:Same H1 H2):Same H H2:=fun c o h=>b c o (a c o h)
theorem Same.free {H H':Hp} (e:Same H H') {l:Addr} (h:H' l=Option.none):H l=Option.none:=by
 cases q:H l with
 | none=>rfl
 | some o =>
  rw [e l o q] at h
  cases h
theorem Same.seq {K:PySem.W.Frag} {H H':Hp} {a:Addr} {xs:List V} (e:Same H H') (h:SqL K H a xs):SqL K H' a xs:=by
 rcases h with (h | ⟨o,h⟩) | h
 ·exact .inl (.inl (e _ _ h))
 ·exact .inl (.inr ⟨o,e _ _ h⟩)
 ·exact .inr h
section
variable {κ:Type} [DecidableEq κ]
end
end L2
section
namespace L2
open PySem PySem.Spec PyProof.Rows
section
variable {prog:Program} {w:World} {A:Around} {R:Result→Shared→Prop} {s:Shared}
theorem codeAny_compLoop_gen {elt target iter:Expr} {ifs:List Expr} {scope:Scope} {pos:Pos} {it acc:Value} {env:Env} (I:Nat→Shared→Prop)
  (turn:∀ n s,I n s→wpAny (model prog w) A (pyNext it) (fun r s₁=>match r with
   | none=>R (.ok .next) s₁
   | some v=>wpAny (model prog w) A (letOwnedTupleGo target it v) (fun _ s₁'=>wpAny (model prog w) A (assign target env v) (fun _ s₂ =>
     wpAny (model prog w) A (forIn ifs true fun c r=>if r=true then do let ok ← isTrue c env (eval c env); pure (ForInStep.yield ok) else pure (ForInStep.yield r)) (fun ok s₃ =>
      if ok=true then wpAny (model prog w) A (eval elt env) (fun x s₄ =>
       wpAny (model prog w) A (call (.builtin "list.append") [acc,x]) (fun _ s₅=>∃ m,m < n∧I m s₅) (fun _ _=>False) s₄) (fun _ _=>False) s₃
      else ∃ m,m < n∧I m s₃) (fun _ _=>False) s₂) (fun _ _=>False) s₁') (fun _ _=>False) s₁) (fun _ _=>False) s)
  (n:Nat) (h:I n s) :
  codeAny (model prog w) A (.compLoop (.ListComp elt [⟨target,iter,ifs,0⟩] scope pos) 0 it acc env) R s:=by
 refine codeAny_loop rfl I (fun n s hI=>?_) n h
 show wpAny _ A ((compTurn (.ListComp elt [⟨target,iter,ifs,0⟩] scope pos) 0 it acc env).onRaise (fun x=>do noteFrame x env; theTreesLotGoes x)) _ _ s
 refine wpAny_noted ?_
 rw [compTurn_list]
 refine wpAny_bind (wpAny_standAt (wpAny_bind (wpAny_mono (turn n s hI) (fun r s₁ h₁=>?_) fun _ _ h'=>h'.elim)))
 cases r with
 | none=>exact wpAny_pure h₁
 | some v =>
  refine wpAny_bind (wpAny_mono h₁ (fun _ s₁' h₁'=>?_) fun _ _ h'=>h'.elim)
  refine wpAny_bind (wpAny_mono h₁' (fun _ s₂ h₂=>wpAny_bind (wpAny_mono h₂ (fun ok s₃ h₃=>?_) fun _ _ h'=>h'.elim)) fun _ _ h'=>h'.elim)
  cases ok with
  | false=>exact wpAny_pure ⟨rfl,h₃⟩
  | true =>
   exact wpAny_bind (wpAny_bind (wpAny_mono h₃ (fun x s₄ h₄=>wpAny_bind (wpAny_mono h₄ (fun _ s₅ h₅=>wpAny_pure (wpAny_pure ⟨rfl,h₅⟩)) fun _ _ h'=>h'.elim)) fun _ _ h'=>h'.elim))
end
def cxComp (X:Cx) (scope:Scope) (cl:List (Str×Addr)) (N':List Str) (s:Shared) (H:Hp) (C:Addr) (ex:List Addr):Cx where
 prog:=X.prog
 w:=X.w
 K:=X.K
 mg:=X.mg
 base:=X.base
 A:=X.A
 N:=N'
 s₀:=s
 H₀:=H
 env:=compEnvC scope cl C X.env
 outer:=X.stack
 stack:=X.stack
 ex:=ex
 fn:=fun _=>false
 calm:=X.calm
 pn:=[]
 xe:=fun _ _=>False
structure CompScope (X:Cx) (scope:Scope) (cl:List (Str×Addr)) (N':List Str) (fr:St→St):Prop where
 kind:scope.kind=.function
 cell:∀ y ∈ scope.names,y.2 ≠ .cell
 names:∀ y ∈ scope.names,y.2=.local→scope.names.lookup y.1=some .local
 clos:closureFor scope X.env=pure cl
 sub:∀ x c,cl.lookup x=some c→X.env.cells.lookup x=some c
 has:∀ x,((relabel scope X.env).names.lookup x=some .cell∨(relabel scope X.env).names.lookup x=some .free)→∃ c,cl.lookup x=some c
 len:∀ σ:St,σ.length=X.N.length→(fr σ).length=N'.length
 fr:∀ (σ:St) (i:Nat) (x:Str) (v:V),N'[i]? = some x→(fr σ)[i]? = some (some v)→Vis (relabel scope X.env) x →
  ((relabel scope X.env).names.lookup x=some .cell∨(relabel scope X.env).names.lookup x=some .free) ∧
  (X.env.kindOf x=some .cell∨X.env.kindOf x=some .free)∧∃ j:Nat,X.N[j]? = some x∧σ[j]? = some (some v)
def Keep (a b:St):Prop:=∀ (i:Nat) (v:V),a[i]? = some (some v)→b[i]? = some (some v)
theorem Keep.set {a:St} {i:Nat} {v:V} (h:a[i]? = some none):Keep a (a.set i (some v)):=fun j u e=>by
 by_cases hj:i=j
 ·subst hj; rw [h] at e; cases e
 ·rw [List.getElem?_set_ne hj]; exact e
theorem Keep.trans {a b c:St} (h:Keep a b) (k:Keep b c):Keep a c:=fun i v e=>k i v (h i v e)
def PF (X:Cx) (ifs:List Expr) (t:TT):Prop :=
 ∀ (pins:List (Addr×Obj)) (s:Shared) (σ:St) (H:Hp) (Q:Bool→Hp→Prop),Inv X pins σ H s→t σ H Q →
  wpAny (model X.prog X.w) X.A (forIn ifs true fun c r=>if r=true then do let ok ← isTrue c X.env (eval c X.env); pure (ForInStep.yield ok) else pure (ForInStep.yield r)) (TP X pins σ Q) X.xe s
def tYes:TT:=fun _ H Q=>Q true H
theorem pf_nil {X:Cx}:PF X [] tYes:=fun _ _ _ H _ I h=>wpAny_tests_nil ⟨H,I,h⟩
theorem pf_one {X:Cx} {c:Expr} {t:TT} (h:PT X c t):PF X [c] t:=fun pins s σ H Q I hq=>wpAny_tests_one (h pins s σ H Q I hq)
def CompW (J:It) (fr:St→St) (g:TG) (tf:TT) (te:TE) (Q:VK) (σ:St) (H1:Hp) (D:Addr):Prop :=
 ∃ W:Nat→Nat→List V→Hp→Prop,(∃ m,W 0 m [] (upd H1 D (.lst [])))∧∀ i m ys H,W i m ys H →
  (J.stop i H∧Q (.ref D) H)∨(J.go i H∧∃ N:List V→Hp→Prop,(∀ ys' H',N ys' H'→∃ m',m' < m∧W (i + 1) m' ys' H') ∧
   ∀ x H',J.yld i H x H'→g x (fr σ) H' fun σ2 H2=>Keep (fr σ) σ2∧tf σ2 H2 fun b H3 =>
    if b=true then te σ2 H3 fun y H4=>H4 D=some (.lst ys)∧ys.length < sizeLine∧N (ys ++ [y]) (upd H4 D (.lst (ys ++ [y]))) else N ys H3)
def tComp (wi:TI) (fr:St→St) (g:TG) (tf:TT) (te:TE):TE:=fun σ H Q=>wi σ H fun J H1=>∀ D,H1 D=none→CompW J fr g tf te Q σ H1 D
section
variable {X:Cx} {pins:List (Addr×Obj)} {σ:St} {H:Hp} {s:Shared} {scope:Scope} {cl:List (Str×Addr)} {N':List Str} {fr:St→St} {C:Addr} {fp:List Addr}
theorem comp_ok (I:Inv X pins σ H s) (S:CompScope X scope cl N' fr) (hC:s.heap.objs.size ≤ C) (hf:∀ b ∈ fp,FpOk X pins H b) (ho:∀ b ∈ fp,∃ o,s.heap.get? b=some o):(cxComp X scope cl N' s H C fp).Ok where
 mod:=I.ok.mod
 kind:=S.kind
 glob:=I.ok.glob
 blt:=I.ok.blt
 above:=hC
 inj:=fun x y c h1 h2=>I.ok.inj x y c (S.sub x c h1) (S.sub y c h2)
 has:=fun x h=>S.has x h
 cab:=fun x c h=>absurd (show false=true from h) Bool.false_ne_true
 hd:=I.ok.hd
 frames:=I.ok.frames
 stk:=.inl rfl
 exf:=fun b hb=>by
  obtain ⟨o,e⟩:=ho b hb
  refine ⟨Nat.ne_of_lt (Nat.lt_of_lt_of_le (Heap.lt_size e) hC),fun x c h=>(hf b hb).2.2.2.2.1 x c (S.sub x c h)⟩
 bs:=I.bs
 bsz:=Nat.le_trans I.ok.bsz I.sz
 noex:=fun b o e hb=>by
  rcases (hf b hb).2.2.2.1 with z | z
  ·exact I.ok.noex b o e z
  ·exact absurd (Nat.lt_of_lt_of_le (Heap.lt_size e) (Nat.le_trans I.ok.bsz z)) (Nat.lt_irrefl _)
 exfs:=fun b hb z=>by
  rcases List.mem_cons.mp (I.stkSub b z) with q | q
  ·exact (hf b hb).2.1 q
  ·exact (hf b hb).2.2.1 q
 funs:=I.stack
 frf:=I.stkFree
theorem comp_start {h₁:Heap} {m₁:Str→Option Value} {tk:Nat} {D:Addr} (I:Inv X pins σ H s) (S:CompScope X scope cl N' fr) (hC:s.heap.objs.size < C) (hD:D=s.heap.objs.size) (hf:∀ b ∈ fp,FpOk X pins H b) (ho:∀ b ∈ fp,∃ o,s.heap.get? b=some o)
  (old:∀ b o,s.heap.get? b=some o→h₁.get? b=some o) (hl:h₁.get? D=some { cls:=.type "list",data:=.seq ([]:List Value).toArray 0 }) (hn:h₁.Ns C m₁) (hCz:h₁.objs.size ≤ C + 1) :
  Inv (cxComp X scope cl N' s H C fp) [] (fr σ) (upd H D (.lst [])) { s with heap:=h₁,toks:=tk }:=by
 have fD:H D=none:=I.hok.fresh (Nat.le_of_eq hD.symm)
 have fC:H C=none:=I.hok.fresh (Nat.le_of_lt hC)
 have hDC:D ≠ C:=by rw [hD]; exact Nat.ne_of_lt hC
 refine ⟨comp_ok I S (Nat.le_of_lt hC) hf ho,rfl,I.bare,Un.laid old (Nat.le_of_eq hD.symm) fD,⟨m₁,hn,fun i x v e1 e2 e3=>?_⟩,fun x c e=>?_,?_,fun x c e=>?_,fun p hp=>absurd (show p ∈ ([]:List (Addr×Obj)) from hp) (by simp),?_,S.len σ I.len⟩
 ·obtain ⟨k1,k2,j,j1,j2⟩:=S.fr σ i x v e1 e2 e3
  obtain ⟨c,hc⟩:=S.has x k1
  have hc':=S.sub x c hc
  obtain ⟨m,_,hl'⟩:=I.loc
  obtain ⟨u,r,l⟩:=hl' j x v j1 j2 (by rcases k2 with k | k; exact .inr (.inl k); exact .inr (.inr k))
  refine ⟨u,r,.inr ⟨k1,c,hc,?_⟩⟩
  rcases l with ⟨k,_⟩ | ⟨_,c2,hc2,o,z,d⟩
  ·rcases k2 with q | q <;> (rw [k] at q; cases q)
  ·rw [hc'] at hc2; cases hc2
   exact ⟨o,old _ _ z,d⟩
 ·obtain ⟨v,o,z,d⟩:=I.cell x c (S.sub x c e)
  exact ⟨v,o,old _ _ z,d⟩
 ·show upd H D (.lst []) C=none
  rw [upd_ne hDC.symm]; exact fC
 ·show upd H D (.lst []) c=none
  rw [upd_ne (fun z=>?_)]
  ·exact I.freeC x c (S.sub x c e)
  ·obtain ⟨v,o,q,d⟩:=I.cell x c (S.sub x c e)
   have:=Heap.lt_size q
   rw [z,hD] at this
   exact Nat.lt_irrefl _ this
 ·exact I.hok.laid old (Nat.le_of_eq hD.symm) ⟨Nat.zero_le _,[],0,.nil,hl⟩
theorem comp_end {H':Hp} {s2:Shared} {h':Heap} (I:Inv X pins σ H s) (hC:s.heap.objs.size < C) (hf:∀ b ∈ fp,FpOk X pins H b) (J:Inv (cxComp X scope cl N' s H C fp) [] (fr σ) H' s2) (hs:Heap.SameBut C s2.heap h') :
  Inv X pins σ H' { s2 with heap:=h' }:=by
 have fC:H' C=none:=J.free
 have u:Un (frs X.stack) fp H H' s.heap s2.heap:=J.base
 have ne:∀ b o,s.heap.get? b=some o→b ≠ C:=fun b o e=>Nat.ne_of_lt (Nat.lt_trans (Heap.lt_size e) hC)
 have u2:Un (frs X.stack) fp H H' s.heap h':=by
  refine ⟨fun b o e n hb hx=>?_,fun b o e n hb hx=>?_,u.free,fun b o e hx=>?_,u.tups,u.frzs,u.tbls⟩
  ·rw [hs.2 b (ne b o e)]; exact u.keep b o e n hb hx
  ·obtain ⟨sl,q⟩:=u.slot b o e n hb hx
   exact ⟨sl,by rw [hs.2 b (ne b o e)]; exact q⟩
  ·obtain ⟨o',q⟩:=u.there b o e hx
   exact ⟨o',by rw [hs.2 b (ne b o e)]; exact q⟩
 have hok:HOk X.prog X.w H' h':=fun b o e=>by
  refine (J.hok b o e).stay (fun c v hc q=>?_) (fun _ q=>q) fun _ _ q=>q
  have nc:c ≠ C:=by
   rintro rfl
   rcases hc with z | z
   ·rw [← z,fC] at e; cases e
   ·rw [fC] at z; cases z
  rw [hs.2 c nc]; exact q
 refine I.call' (s':={ s2 with heap:=h' }) (ch:=fp) J.os u2 hok J.bare fun b hb=>?_
 obtain ⟨_,f1,f2,f3,f4,f5⟩:=hf b hb
 exact ⟨f3,f1,f4,f5⟩
end
theorem pe_comp {X:Cx} {elt tg iter:Expr} {ifs:List Expr} {scope:Scope} {pos:Pos} {cl:List (Str×Addr)} {N':List Str} {fr:St→St} {wi:TI} {g:TG} {tf:TT} {te:TE}
  (hc:X.calm=true) (S:CompScope X scope cl N' fr) (hi:PI X tg iter wi) (hg:∀ s H C ex,PG (cxComp X scope cl N' s H C ex) tg g) (hf:∀ s H C ex,PF (cxComp X scope cl N' s H C ex) ifs tf)
  (he:∀ s H C ex,PE (cxComp X scope cl N' s H C ex) elt te) (hs:∀ x,foldedSetIterable iter X.env x=pure x:=by intro _; rfl):PE X (.ListComp elt [⟨tg,iter,ifs,0⟩] scope pos) (tComp wi fr g tf te):=by
 intro pins s σ H Q I h
 rw [eval_ListComp]
 refine wpAny_comprehension_free (use:=none) rfl hs S.clos S.kind S.names (thn (hi pins s σ H _ I h) fun v s1 h1=>thn h1 fun itv s2 h2=>?_)
 obtain ⟨it,fp,tn,J,H2,e,I2,T,st2,f2,q⟩:=h2
 subst e
 refine wpAny_newObj_type (wpAny_newFunctionEnv S.cell (by intro y hy; simp at hy) (fun h₁ hns₁ hsb₁=>?_) S.kind)
 dsimp only at hns₁ hsb₁ ⊢
 generalize hP:s2.heap.push { cls:=.type "list",dict:=none,data:=.seq ([]:List Value).toArray }=P at hns₁ hsb₁ ⊢
 have hPz:P.objs.size=s2.heap.objs.size + 1:=by rw [← hP,Heap.size_push]
 have hCD:s2.heap.objs.size < P.objs.size:=by rw [hPz]; exact Nat.lt_succ_self _
 have ho2:∀ b ∈ fp,∃ o,s2.heap.get? b=some o:=fun b hb=>let ⟨o,e,_⟩:=T.obj _ _ st2 b hb; ⟨o,e⟩
 have below:∀ b,b < s2.heap.objs.size→b ≠ P.objs.size:=fun b hb=>Nat.ne_of_lt (Nat.lt_trans hb hCD)
 have old:∀ b o,s2.heap.get? b=some o→h₁.get? b=some o:=fun b o e=>hsb₁.extBut b o (below b (Heap.lt_size e)) (Heap.get?_push_of_some _ (hP ▸ Heap.get?_push_of_some _ e))
 have hacc:h₁.get? s2.heap.objs.size=some { cls:=.type "list",data:=.seq ([]:List Value).toArray 0 }:=hsb₁.extBut _ _ (Nat.ne_of_lt hCD) (Heap.get?_push_of_some _ (hP ▸ Heap.get?_push_size _ rfl))
 have fD:H2 s2.heap.objs.size=none:=I2.hok.fresh (Nat.le_refl _)
 obtain ⟨W,⟨m0,w0⟩,turn⟩:=q s2.heap.objs.size fD
 have hz:h₁.objs.size ≤ P.objs.size + 1:=by
  have e:=hsb₁.1
  rw [Heap.size_push] at e
  exact Nat.le_of_eq e
 have st1:tn 0 h₁:=T.keep _ _ _ st2 fun b hb o e=>old b o e
 have stat:∀ {pins':List (Addr×Obj)} {H':Hp},(∀ p ∈ pins',p.1 ∉ fp)→(∀ b ∈ fp,H' b=none)→∀ b ∈ fp,FpOk (cxComp X scope cl N' s2 H2 P.objs.size fp) pins' H' b:=fun {pins' H'} hp hn b hb=>by
  obtain ⟨o,e⟩:=ho2 b hb
  obtain ⟨_,f1,f2',f3,f4,f5⟩:=f2 b hb
  refine ⟨hn b hb,below b (Heap.lt_size e),fun z=>?_,.inl hb,fun x c h=>f4 x c (S.sub x c h),fun p hp' z=>?_⟩
  ·rcases List.mem_cons.mp (I2.stkSub b z) with q | q
   ·exact f1 q
   ·exact f2' q
  ·have hp2:p ∈ pins':=by simpa [cxComp] using hp'
   exact hp p hp2 (by rw [z]; exact hb)
 have loop:∀ s3:Shared,s3={ s2 with heap:=h₁,toks:=s2.toks + ([]:List (Str×Value)).length } →
   codeAny (model X.prog X.w) X.A (.compLoop (.ListComp elt [⟨tg,iter,ifs,0⟩] scope pos) 0 (.ref it) (.ref s2.heap.objs.size) (compEnvC scope cl P.objs.size X.env)) (compPost (model X.prog X.w) X.A X.xe none (EP X pins σ Q) (.ref s2.heap.objs.size) P.objs.size) s3:=by
  rintro s3 rfl
  have I3:Inv (cxComp X scope cl N' s2 H2 P.objs.size fp) [] (fr σ) (upd H2 s2.heap.objs.size (.lst [])) { s2 with heap:=h₁,toks:=s2.toks + ([]:List (Str×Value)).length }:=comp_start I2 S hCD rfl f2 ho2 old hacc hns₁ hz
  refine codeAny_compLoop_gen (fun n s'=>∃ i ys H',Inv (cxComp X scope cl N' s2 H2 P.objs.size fp) [] (fr σ) H' s'∧tn i s'.heap∧(∀ b ∈ fp,H' b=none)∧W i n ys H') ?_ m0 ⟨0,[],_,I3,st1,fun b hb=>?_,w0⟩
  ·rintro n s3 ⟨i,ys,H3,I3,st3,fr3,w3⟩
   rcases turn i n ys H3 w3 with ⟨stop,qn⟩ | ⟨go,N,hN,step⟩
   ·refine thn (T.done (cxComp X scope cl N' s2 H2 P.objs.size fp) rfl rfl rfl hc i [] s3 (fr σ) H3 _ I3 (stat (by simp) fr3) st3 stop) fun r s4 ⟨hr,I4⟩=>?_
    subst hr
    obtain ⟨m4,hn4,_⟩:=I4.loc
    exact ⟨m4,hn4,fun h' hs'=>⟨.ref s2.heap.objs.size,H3,comp_end I2 hCD f2 I4 hs',rfl,qn⟩⟩
   ·refine thn (T.item (cxComp X scope cl N' s2 H2 P.objs.size fp) rfl rfl rfl hc i [] s3 (fr σ) H3 _ I3 (stat (by simp) fr3) st3 go) fun r s4 ⟨u,hr,h4⟩=>?_
    subst hr
    refine thn h4 fun _ s5 ⟨x,H5,I5,r5,y5,st5,fr5⟩=>?_
    have I5':=I5.pinned (stat (by simp) fr5) (T.obj _ _ st5)
    refine thn (hg s2 H2 P.objs.size fp _ s5 (fr σ) H5 x u _ I5' r5 (step x H5 y5)) fun _ s6 ⟨σ6,H6,I6,kp,q6⟩=>?_
    refine thn (hf s2 H2 P.objs.size fp _ s6 σ6 H6 _ I6 q6) fun ok s7 ⟨H7,I7,q7⟩=>?_
    have again:∀ {σ8:St} {H8:Hp} {s8:Shared} {ys8:List V},Keep (fr σ) σ8→Inv (cxComp X scope cl N' s2 H2 P.objs.size fp) ([] ++ pinsAt fp s5.heap) σ8 H8 s8→N ys8 H8 →
      ∃ m,m < n∧∃ i ys H',Inv (cxComp X scope cl N' s2 H2 P.objs.size fp) [] (fr σ) H' s8∧tn i s8.heap∧(∀ b ∈ fp,H' b=none)∧W i m ys H':=fun {σ8 H8 s8 ys8} kp8 I8 n8=>by
     obtain ⟨m',hm,w8⟩:=hN ys8 H8 n8
     refine ⟨m',hm,i + 1,ys8,H8,(I8.unpinned).weak (by rw [I8.len]; exact S.len σ I2.len) kp8,T.keep _ _ _ st5 fun b hb o e=>(I8.pin (b,o) (List.mem_append_right _ (List.mem_append_right _ (mem_pinsAt hb e)))).1,fun b hb=>?_,w8⟩
     obtain ⟨o,e,d⟩:=T.obj _ _ st5 b hb
     exact (I8.pin (b,o) (List.mem_append_right _ (List.mem_append_right _ (mem_pinsAt hb e)))).2.1
    cases ok with
    | false=>exact again kp I7 q7
    | true =>
     refine thn (he s2 H2 P.objs.size fp _ s7 σ6 H7 _ I7 q7) fun uy s8 ⟨y,H8,I8,r8,hD8,hz8,q8⟩=>?_
     exact thn (mt_append _ s8 σ6 H8 (.ref s2.heap.objs.size) [y] (.ref s2.heap.objs.size) [uy] (fun _ H9=>N (ys ++ [y]) H9) I8 rfl (.cons r8 .nil) ⟨_,ys,y,rfl,rfl,hD8,hz8,q8⟩) fun _ s9 ⟨v9,H9,I9,_,q9⟩=>again kp I9 q9
  ·show upd H2 s2.heap.objs.size (.lst []) b=none
   obtain ⟨o,e⟩:=ho2 b hb
   rw [upd_ne (Nat.ne_of_lt (Heap.lt_size e))]
   exact (f2 b hb).1
 exact codeAny_compStart_list (loop _ rfl) (T.self X.A 0 _ _ _ st1 (loop _ rfl))
section
variable {K:PySem.W.Frag} {a:Addr} {fr:St→St} {g:TG} {tf:TT} {te:TE} {Q:VK} {σ:St} {H1:Hp} {D:Addr}
def CompT (fr:St→St) (g:TG) (tf:TT) (te:TE) (σ:St) (D:Addr) (x:V) (ys:List V) (H:Hp) (N:List V→Hp→Prop):Prop :=
 g x (fr σ) H fun σ2 H2=>Keep (fr σ) σ2∧tf σ2 H2 fun b H3=>if b=true then te σ2 H3 fun y H4=>H4 D=some (.lst ys)∧ys.length < sizeLine∧N (ys ++ [y]) (upd H4 D (.lst (ys ++ [y]))) else N ys H3
theorem comp_list {xs:List V} (Pv:Nat→List V→Hp→Prop) (h0:Pv 0 [] (upd H1 D (.lst []))) (hl:∀ i ys H,i ≤ xs.length→Pv i ys H→SqL K H a xs)
  (hs:∀ i x ys H,xs[i]? = some x→Pv i ys H→CompT fr g tf te σ D x ys H (Pv (i + 1))) (hd:∀ ys H,Pv xs.length ys H→Q (.ref D) H):CompW (Itl K a) fr g tf te Q σ H1 D:=by
 refine ⟨fun i m ys H=>m=xs.length - i∧i ≤ xs.length∧Pv i ys H,⟨xs.length,by simp,Nat.zero_le _,h0⟩,?_⟩
 rintro i m ys H ⟨rfl,hi,p⟩
 have q:=hl i ys H hi p
 by_cases hlt:i < xs.length
 ·refine .inr ⟨⟨xs,xs[i],q,by simp [hlt]⟩,Pv (i + 1),fun ys' H' p'=>⟨xs.length - (i + 1),by omega,rfl,hlt,p'⟩,fun x H' y=>?_⟩
  obtain ⟨e,y⟩:=y
  subst e
  exact hs i x ys _ (y xs q) p
 ·have e:i=xs.length:=by omega
  subst e
  exact .inl ⟨⟨xs,q,Nat.le_refl _⟩,hd ys H p⟩
theorem comp_range {lo:Int} {n:Nat} (Pv:Nat→List V→Hp→Prop) (h0:Pv 0 [] (upd H1 D (.lst [])))
  (hs:∀ i ys H,i < n→Pv i ys H→CompT fr g tf te σ D (.int (lo + i)) ys H (Pv (i + 1))) (hd:∀ ys H,Pv n ys H→Q (.ref D) H):CompW (Itr lo n) fr g tf te Q σ H1 D:=by
 refine ⟨fun i m ys H=>m=n - i∧i ≤ n∧Pv i ys H,⟨n,by simp,Nat.zero_le _,h0⟩,?_⟩
 rintro i m ys H ⟨rfl,hi,p⟩
 by_cases hlt:i < n
 ·refine .inr ⟨hlt,Pv (i + 1),fun ys' H' p'=>⟨n - (i + 1),by omega,rfl,hlt,p'⟩,fun x H' y=>?_⟩
  obtain ⟨e,y⟩:=y
  subst e y
  exact hs i ys _ hlt p
 ·have e:i=n:=by omega
  subst e
  exact .inl ⟨Nat.le_refl _,hd ys H p⟩
def Its (x:Str):It:=⟨fun i _=>i < x.cps.size,fun i H v H'=>H'=H∧∃ c,x.cps[i]? = some c∧v=.str ⟨#[c]⟩,fun i _=>x.cps.size ≤ i⟩
theorem comp_str {x:Str} (Pv:Nat→List V→Hp→Prop) (h0:Pv 0 [] (upd H1 D (.lst [])))
  (hs:∀ i c ys H,x.cps[i]? = some c→Pv i ys H→CompT fr g tf te σ D (.str ⟨#[c]⟩) ys H (Pv (i + 1))) (hd:∀ ys H,Pv x.cps.size ys H→Q (.ref D) H):CompW (Its x) fr g tf te Q σ H1 D:=by
 refine ⟨fun i m ys H=>m=x.cps.size - i∧i ≤ x.cps.size∧Pv i ys H,⟨x.cps.size,by simp,Nat.zero_le _,h0⟩,?_⟩
 rintro i m ys H ⟨rfl,hi,p⟩
 by_cases hlt:i < x.cps.size
 ·refine .inr ⟨hlt,Pv (i + 1),fun ys' H' p'=>⟨x.cps.size - (i + 1),by omega,rfl,hlt,p'⟩,fun v H' y=>?_⟩
  obtain ⟨e,c,hc,ev⟩:=y
  subst e ev
  exact hs i c ys _ hc p
 ·have e:i=x.cps.size:=by omega
  subst e
  exact .inl ⟨Nat.le_refl _,hd ys H p⟩
end
theorem turn_ascii {P:Program} {w:World} {K:PySem.W.Frag} {tg:Expr} (it:Addr) (x:Str) (t:Tok):Turn P w K tg (Its x) [it] it (fun i h=>h.IsStrIter it "str_ascii_iterator" x t i) where
 mem:=by simp
 obj:=fun i h st b hb=>by
  have e:b=it:=by simpa using hb
  subst e
  obtain ⟨o,e,c,d⟩:=st
  exact ⟨o,e,fun v z=>by rw [d] at z; cases z⟩
 keep:=fun i h h' st k=>by
  obtain ⟨o,e,r⟩:=st
  exact ⟨o,k it (by simp) o e,r⟩
 item:=by
  intro X hP hw hK hc i pins s σ H E I hf st hg
  subst hP hw hK
  obtain ⟨f0,f1,f2,f3,f4,f5⟩:=hf it (by simp)
  have hlt:i < x.cps.size:=hg
  refine wpAny_pyNext_ascii_item st (c:=x.cps[i]) (by simp [hlt]) fun h' st' sb=>?_
  have I1:Inv X pins σ H { s with heap:=h',toks:=s.toks + 1 }:=I.turned (fun b o hb e=>(sb.2 b hb).trans e) f0 f1 f3 f4 f5
  obtain ⟨o,e,c,d⟩:=id st'
  exact ⟨_,rfl,go_of (s:={ s with heap:=h',toks:=s.toks + 1 }) e c d (by decide) ⟨.str ⟨#[x.cps[i]]⟩,H,I1,⟨_,rfl⟩,⟨rfl,_,by simp [hlt],rfl⟩,st',fun b hb=>(hf b hb).1⟩⟩
 done:=by
  intro X hP hw hK hc i pins s σ H E I hf st hg
  subst hP hw hK
  obtain ⟨f0,f1,f2,f3,f4,f5⟩:=hf it (by simp)
  have hle:x.cps.size ≤ i:=hg
  exact wpAny_pyNext_ascii_end (I.ok.hd hc) st (by simp [hle]) fun h' eb=>⟨rfl,I.turned (t':=s.toks) (fun b o hb e=>eb b o hb e) f0 f1 f3 f4 f5⟩
 self:=fun _ _ _ _ _ st h=>wpAny_pyIter_striter_ascii st h
def iStr (tl:TE):TI:=fun σ H R=>tl σ H fun v H1=>∃ x,v=.str x∧x.cps.all (· < 128)=true∧R (Its x) H1
theorem pi_str {X:Cx} {tg l:Expr} {tl:TE} (hl:PE X l tl):PI X tg l (iStr tl):=by
 intro pins s σ H R I h
 refine thn (hl pins s σ H _ I h) fun v s1 ⟨y,H1,I1,r1,q1⟩=>?_
 obtain ⟨x,e,ha,q⟩:=q1
 subst e
 obtain ⟨t,rfl⟩:=r1
 refine wpAny_pyIter_ascii ha ?_
 refine ⟨s1.heap.objs.size,[s1.heap.objs.size],_,_,H1,rfl,I1.kept (t':=s1.toks) fun b o e=>Heap.get?_push_of_some _ e,turn_ascii _ x t,⟨_,Heap.get?_push_size _ rfl,rfl,rfl⟩,fun b hb=>?_,q⟩
 have e:b=s1.heap.objs.size:=by simpa using hb
 subst e
 exact I1.fpOk (Nat.le_refl _) (I1.hok.fresh (Nat.le_refl _))
theorem Vals.at_bool:∀ {bs:List Bool} {us:List Value} {i:Nat} {u:Value},Vals (bs.map V.bl) us→us[i]? = some u→∃ b,bs[i]? = some b∧u=.bool b
 | [],_,_,_,.nil,e=>by simp at e
 | b :: bs,_,0,u,.cons r _,e=>by
  simp at e; subst e
  exact ⟨b,rfl,r⟩
 | b :: bs,_,i + 1,u,.cons _ t,e=>by
  obtain ⟨c,h1,h2⟩:=Vals.at_bool (i:=i) t (by simpa using e)
  exact ⟨c,by simpa using h1,h2⟩
theorem range_all (bs:List Bool):(List.range bs.length).all (fun i=>bs.getD i false)=bs.all id:=by
 have e:(List.range bs.length).map (fun i=>bs.getD i false)=bs:=by
  apply List.ext_getElem
  ·simp
  ·intro i h1 h2
   simp at h1
   simp [h1]
 calc (List.range bs.length).all (fun i=>bs.getD i false)=((List.range bs.length).map (fun i=>bs.getD i false)).all id:=by rw [List.all_map]; rfl
  _=bs.all id:=by rw [e]
theorem call_all_bools {X:Cx} (hc:X.calm=true):CallR X (.builtin "all") (fun xs H Q=>∃ (p:Addr) (bs:List Bool),xs=[.ref p]∧SqL X.K H p (bs.map V.bl)∧Q (.bl (bs.all id)) H):=by
 intro pins s σ H xs us Q I r h
 obtain ⟨p,bs,rfl,hq,q⟩:=h
 obtain ⟨u,rfl,ru⟩:=vals1 r
 cases ru
 obtain ⟨its,rv,pl,hz⟩:=I.list hq
 have hlt:p < s.heap.objs.size:=by obtain ⟨_,_,e,_⟩:=pl; exact Heap.lt_size e
 refine call_all_walk (wpAny_pyIter_list pl.isList ?_)
 refine ⟨s.heap.objs.size,_,_,its.toArray.size,_,_,fun i=>bs.getD i false,rfl,Walks.list (A:=X.A.in1) (show X.A.in1.handled=none from I.ok.hd hc) s.heap.objs.size p (Nat.ne_of_lt hlt) its.toArray,⟨⟨_,Heap.get?_push_size _ rfl,rfl,rfl⟩,pl.isList.push _⟩,?_,fun h' tk k=>?_⟩
 ·intro i v s' Q' E' hv hQ
  obtain ⟨b,hb,rfl⟩:=Vals.at_bool (i:=i) rv (by simpa using hv)
  refine wpAny_truthy_bool ?_
  have e:bs.getD i false=b:=by rw [List.getD_eq_getElem?_getD,hb]; rfl
  have hQ':Q' (bs.getD i false) s':=hQ
  rw [e] at hQ'
  exact hQ'
 ·have hl:=rv.length
  rw [List.length_map] at hl
  refine ⟨.bl (bs.all id),H,?_,?_,q⟩
  ·refine I.kept (t':=tk) fun b o e=>k b o ?_ (Heap.get?_push_of_some _ e)
   have:=Heap.lt_size e
   intro z
   have z':b=s.heap.objs.size:=by simpa using z
   rw [z'] at this
   exact Nat.lt_irrefl _ this
  ·show Value.bool ((List.range its.toArray.size).all fun i=>bs.getD i false)=Value.bool (bs.all id)
   rw [List.size_toArray,← hl,range_all]
theorem call_isinst {X:Cx}:CallR X (.builtin "isinstance") (fun xs H Q=>∃ x c b t,xs=[x,c]∧TyOf X.K H x t∧((∃ n,c=.ty n∧PySem.W.kitOne X.K t (.type n)=some b)∨∃ a,c=.ref a∧PySem.W.kitOne X.K t (.ref a)=some b)∧Q (.bl b) H):=by
 intro pins s σ H xs us Q I r h
 obtain ⟨x,c,b,t,rfl,ty,k,q⟩:=h
 obtain ⟨u,w',rfl,rx,rw'⟩:=vals2 r
 rcases k with ⟨n,rfl,k⟩ | ⟨a,rfl,k⟩
 ·cases rw'
  exact isinst_ok I rx ty k fun tk=>⟨.bl b,H,I.tok tk,rfl,q⟩
 ·cases rw'
  exact isinst_ok I rx ty k fun tk=>⟨.bl b,H,I.tok tk,rfl,q⟩
def rSlS:V→Option Int→Option Int→Hp→VK→Prop:=fun x lo hi H Q=>∃ z,x=.str z∧z.length ≤ sizeLine∧Q (.str (Txt.slice z lo hi)) H
theorem sl_str {X:Cx}:SlR X rSlS:=by
 intro pins s σ H x v vl vu lo hi sl Q I rx hs pl pu h
 obtain ⟨z,rfl,hz,q⟩:=h
 obtain ⟨t,rfl⟩:=rx
 refine ⟨"str",_,F.slot_str_getitem.lookup,typeIs_str _ _ _,?_⟩
 obtain ⟨o,ho,hc,hd⟩:=hs
 cases pl with
 | none =>
  cases pu with
  | none=>exact wpAny_getItem_str_slice (l:=none) (u:=none) (st:=none) ⟨o,ho,hc,hd⟩ rfl (post_val_or_str ⟨Nat.le_trans (Txt.slice_le z none none) hz,fun t' k=>⟨.str (Txt.slice z none none),H,I.tok k,⟨t',rfl⟩,q⟩⟩)
  | int j tj=>exact wpAny_getItem_str_slice (l:=none) (u:=some (j,tj)) (st:=none) ⟨o,ho,hc,hd⟩ rfl (post_val_or_str ⟨Nat.le_trans (Txt.slice_le z none (some j)) hz,fun t' k=>⟨.str (Txt.slice z none (some j)),H,I.tok k,⟨t',rfl⟩,q⟩⟩)
 | int i ti =>
  cases pu with
  | none=>exact wpAny_getItem_str_slice (l:=some (i,ti)) (u:=none) (st:=none) ⟨o,ho,hc,hd⟩ rfl (post_val_or_str ⟨Nat.le_trans (Txt.slice_le z (some i) none) hz,fun t' k=>⟨.str (Txt.slice z (some i) none),H,I.tok k,⟨t',rfl⟩,q⟩⟩)
  | int j tj=>exact wpAny_getItem_str_slice (l:=some (i,ti)) (u:=some (j,tj)) (st:=none) ⟨o,ho,hc,hd⟩ rfl (post_val_or_str ⟨Nat.le_trans (Txt.slice_le z (some i) (some j)) hz,fun t' k=>⟨.str (Txt.slice z (some i) (some j)),H,I.tok k,⟨t',rfl⟩,q⟩⟩)
end L2
namespace L2
open PySem PySem.Spec PyProof.Rows
def tCut (M:St→Hp→St→Hp→Prop) (t:TS):TS:=fun D σ H=>t { D with nx:=M σ H } σ H∧∀ σ' H',M σ H σ' H'→D.nx σ' H'
theorem ps_cut {X:Cx} {st:Stmt} {t:TS} (M:St→Hp→St→Hp→Prop) (h:PS X st t):PS X st (tCut M t):=by
 intro pins s σ H D I hq
 refine thn (h pins s σ H { D with nx:=M σ H } I hq.1) fun f s' q=>?_
 cases f with
 | next=>obtain ⟨σ',H',I',m⟩:=q; exact ⟨σ',H',I',hq.2 σ' H' m⟩
 | brk=>exact q
 | cont=>exact q
 | ret u=>exact q
def tCutE (M:VK) (t:TE):TE:=fun σ H Q=>t σ H M∧∀ v H',M v H'→Q v H'
end L2
namespace L2
open PySem PySem.Spec PyProof.Rows
def plainE:Expr→Bool
 | .Starred .. => false
 | _=>true
theorem star_cons {e:Expr} {es:List Expr} {env:Env} (h:plainE e=true):starEach (e :: es) env=(false,eval e env) :: starEach es env:=by
 cases e <;> first
  | rfl
  | exact absurd h Bool.false_ne_true
theorem pa_c {X:Cx} {e:Expr} {es:List Expr} {te:TE} {t:TA} (ha:PE X e te) (hr:PA X es t) (h:plainE e=true:=by rfl):PA X (e :: es) (tCons te t):=pa_cons ha hr (star_cons h)
end L2
namespace L2
open PySem PySem.Spec PyProof.Rows
structure WSs (X:Cx) (b:List Stmt) (D:Ends) (σ:St) (H:Hp):Prop where
 run:∀ (pins:List (Addr×Obj)) (s:Shared),Inv X pins σ H s→wpAny (model X.prog X.w) X.A (execs b X.env) (SP X pins D) X.xe s
structure WS (X:Cx) (st:Stmt) (D:Ends) (σ:St) (H:Hp):Prop where
 run:∀ (pins:List (Addr×Obj)) (s:Shared),Inv X pins σ H s→wpAny (model X.prog X.w) X.A (exec st X.env) (SP X pins D) X.xe s
structure WE (X:Cx) (e:Expr) (σ:St) (H:Hp) (Q:VK):Prop where
 run:∀ (pins:List (Addr×Obj)) (s:Shared),Inv X pins σ H s→wpAny (model X.prog X.w) X.A (eval e X.env) (EP X pins σ Q) X.xe s
section
variable {X:Cx} {b rest:List Stmt} {st:Stmt} {e:Expr} {D:Ends} {σ:St} {H:Hp} {t:TS} {te:TE} {Q:VK}
theorem pss_w:PSs X b (WSs X b):=fun pins s _ _ _ I h=>h.run pins s I
theorem ps_w:PS X st (WS X st):=fun pins s _ _ _ I h=>h.run pins s I
theorem pe_w:PE X e (WE X e):=fun pins s _ _ _ I h=>h.run pins s I
theorem WSs.of (h:PSs X b t) (q:t D σ H):WSs X b D σ H:=⟨fun pins s I=>h pins s σ H D I q⟩
theorem WS.of (h:PS X st t) (q:t D σ H):WS X st D σ H:=⟨fun pins s I=>h pins s σ H D I q⟩
theorem WE.of (h:PE X e te) (q:te σ H Q):WE X e σ H Q:=⟨fun pins s I=>h pins s σ H Q I q⟩
theorem WSs.step (h:PS X st t) (q:t { D with nx:=WSs X rest D } σ H):WSs X (st :: rest) D σ H:=WSs.of (pss_cons h pss_w) q
theorem WSs.last (h:PS X st t) (q:t D σ H):WSs X [st] D σ H:=WSs.of (pss_one h) q
theorem WSs.cut (M:St→Hp→Prop) (h:WS X st { D with nx:=M } σ H) (k:∀ σ' H',M σ' H'→WSs X rest D σ' H'):WSs X (st :: rest) D σ H:=by
 refine WSs.step (t:=tCut (fun _ _=>M) (WS X st)) (ps_cut (fun _ _=>M) ps_w) ⟨h,fun σ' H' m=>k σ' H' m⟩
end
end L2
namespace L2
open PySem PySem.Spec PyProof.Rows
end L2
namespace L2
open PySem PySem.Spec PyProof.Rows
structure WA (X:Cx) (es:List Expr) (σ:St) (H:Hp) (Q:List V→Hp→Prop):Prop where
 run:∀ (pos:Pos) (pins:List (Addr×Obj)) (s:Shared),Inv X pins σ H s→wpAny (model X.prog X.w) X.A (spliced (backTo pos (starEach es X.env))) (AP X pins σ Q) X.xe s
end L2
end
section
namespace L2
open PySem PySem.Spec PyProof.Rows
def allP {α:Type} (P:α→Prop):List α→Prop
 | []=>True
 | a :: l=>P a∧allP P l
theorem allP.mem {α:Type} {P:α→Prop}:∀ {l:List α} {a:α},allP P l→a ∈ l→P a
 | _ :: _,a,h,m=>by
  rcases List.mem_cons.mp m with rfl | m
  ·exact h.1
  ·exact allP.mem h.2 m
theorem lookup_relabel_free {env:Env}:∀ {names:List (Str×NameKind)} {x:Str},names.lookup x=some .free →
  (names.map fun (n,k)=>if (k == NameKind.free && env.scope.kind == .function && env.kindOf n == some .cell) then (n,NameKind.cell) else (n,k)).lookup x=some .cell ∨
  (names.map fun (n,k)=>if (k == NameKind.free && env.scope.kind == .function && env.kindOf n == some .cell) then (n,NameKind.cell) else (n,k)).lookup x=some .free
 | [],_,h=>by simp at h
 | (n,k) :: r,x,h=>by
  have ih:=@lookup_relabel_free env r x
  by_cases hx:x == n
  ·have hk:k=.free:=by
    rw [List.lookup_cons,hx] at h
    exact Option.some.inj h
   subst hk
   by_cases hc:(NameKind.free == NameKind.free && env.scope.kind == .function && env.kindOf n == some .cell)=true
   ·left
    rw [List.map_cons]
    show List.lookup x ((if _ then (n,NameKind.cell) else (n,NameKind.free)) :: _)=_
    rw [if_pos hc,List.lookup_cons,hx]
   ·right
    rw [List.map_cons]
    show List.lookup x ((if _ then (n,NameKind.cell) else (n,NameKind.free)) :: _)=_
    rw [if_neg hc,List.lookup_cons,hx]
  ·have hx:(x == n)=false:=by simpa using hx
   rw [List.lookup_cons,hx] at h
   have q:=ih h
   rw [List.map_cons]
   have e:∀ (b:Bool) (l:List (Str×NameKind)),List.lookup x ((if b=true then (n,NameKind.cell) else (n,k)) :: l)=l.lookup x:=fun b l=>by
    cases b <;> simp [List.lookup_cons,hx]
   rcases q with q | q
   ·exact .inl ((e _ _).trans q)
   ·exact .inr ((e _ _).trans q)
theorem lookup_relabel_inv {env:Env}:∀ {names:List (Str×NameKind)} {x:Str},
    ((names.map fun (n,k)=>if (k == NameKind.free && env.scope.kind == .function && env.kindOf n == some .cell) then (n,NameKind.cell) else (n,k)).lookup x=some .cell ∨
     (names.map fun (n,k)=>if (k == NameKind.free && env.scope.kind == .function && env.kindOf n == some .cell) then (n,NameKind.cell) else (n,k)).lookup x=some .free) →
    names.lookup x=some .cell∨names.lookup x=some .free
  | [],_,h=>by simp at h
  | (n,k) :: r,x,h=>by
    have ih:=@lookup_relabel_inv env r x
    rw [List.map_cons] at h
    by_cases hx:x == n
    · rw [List.lookup_cons,hx]
      have e:∀ (c:Prop) [Decidable c] (l:List (Str×NameKind)),List.lookup x ((if c then (n,NameKind.cell) else (n,k)) :: l)=some (if c then .cell else k):=fun c _ l=>by
        split <;> rw [List.lookup_cons,hx]
      rcases h with h | h
      · have h:=(e _ _).symm.trans h
        have h:=Option.some.inj h
        split at h
        · rename_i c
          right
          have:k=.free:=by
            rw [Bool.and_eq_true,Bool.and_eq_true] at c
            simpa using c.1.1
          rw [this]
        · left; rw [h]
      · have h:=(e _ _).symm.trans h
        have h:=Option.some.inj h
        split at h
        · cases h
        · right; rw [h]
    · have hx:(x == n)=false:=by simpa using hx
      have e:∀ (c:Prop) [Decidable c] (l:List (Str×NameKind)),List.lookup x ((if c then (n,NameKind.cell) else (n,k)) :: l)=l.lookup x:=fun c _ l=>by
        split <;> rw [List.lookup_cons,hx]
      rw [List.lookup_cons,hx]
      exact ih (h.imp (fun z=>(e _ _).symm.trans z) fun z=>(e _ _).symm.trans z)
theorem CompScope.std {X:Cx} {scope:Scope} {cl:List (Str×Addr)} {N':List Str} (n:Nat) (js:List Nat) (kind:scope.kind=.function) (cell:∀ y ∈ scope.names,y.2 ≠ .cell)
  (names:∀ y ∈ scope.names,y.2=.local→scope.names.lookup y.1=some .local) (clos:closureFor scope X.env=pure cl) (hcl:allP (fun p=>X.env.cells.lookup p.1=some p.2) cl)
  (hfree:(scope.names.all fun y=>y.2 != .free || ((cl.lookup y.1).isSome && (X.env.kindOf y.1 == some .cell || X.env.kindOf y.1 == some .free)))=true)
  (hN:N'.length=n + js.length) (hj:allP (fun p:Nat×Nat=>∃ x,N'[n + p.1]? = some x∧X.N[p.2]? = some x∧scope.names.lookup x=some .free) ((List.range js.length).zip js)) :
  CompScope X scope cl N' (fun σ=>List.replicate n none ++ js.map fun j=>(σ[j]?).join) where
 kind:=kind
 cell:=cell
 names:=names
 clos:=clos
 sub:=fun x c h=>allP.mem (P:=fun p=>X.env.cells.lookup p.1=some p.2) (a:=(x,c)) hcl (PySem.mem_of_lookup h)
 has:=fun x h=>by
  rcases lookup_relabel_inv (env:=X.env) h with h | h
  ·exact absurd rfl (cell _ (PySem.mem_of_lookup h))
  ·have q:=List.all_eq_true.mp hfree _ (PySem.mem_of_lookup h)
   simp only [bne_self_eq_false,Bool.false_or,Bool.and_eq_true] at q
   exact Option.isSome_iff_exists.mp q.1
 len:=fun σ _=>by simp [hN]
 fr:=fun σ i x v h1 h2 _=>by
  have hi:n ≤ i:=by
   rcases Nat.lt_or_ge i n with hlt | hge
   ·rw [List.getElem?_append_left (by simpa using hlt),List.getElem?_replicate,if_pos hlt] at h2
    cases h2
   ·exact hge
  rw [List.getElem?_append_right (by simpa using hi),List.length_replicate,List.getElem?_map] at h2
  cases hjs:js[i - n]? with
  | none=>rw [hjs] at h2; cases h2
  | some j =>
   rw [hjs] at h2
   have h2:(σ[j]?).join=some v:=Option.some.inj h2
   have hlt:i - n < js.length:=by
    rcases Nat.lt_or_ge (i - n) js.length with z | z
    ·exact z
    ·rw [List.getElem?_eq_none z] at hjs; cases hjs
   have hm:(i - n,j) ∈ (List.range js.length).zip js:=by
    rw [List.mem_iff_getElem?]
    refine ⟨i - n,?_⟩
    rw [List.getElem?_zip_eq_some]
    exact ⟨by simp [hlt],hjs⟩
   obtain ⟨x',e1,e2,e3⟩:=allP.mem hj hm
   have e:n + (i - n)=i:=by omega
   simp only [e] at e1
   rw [h1] at e1
   cases e1
   have q:=List.all_eq_true.mp hfree _ (PySem.mem_of_lookup e3)
   simp only [bne_self_eq_false,Bool.false_or,Bool.and_eq_true,Bool.or_eq_true,beq_iff_eq] at q
   refine ⟨lookup_relabel_free e3,q.2,j,e2,?_⟩
   cases hs:σ[j]? with
   | none=>rw [hs] at h2; cases h2
   | some o=>rw [hs] at h2; exact congrArg some h2
end L2
namespace L2
open PySem PySem.Spec PyProof.Rows
inductive Tr where
 | non | int (i:Int) | str (x:Str) | tup (ts:List Tr) | lst (ts:List Tr)
noncomputable instance:DecidableEq Tr:=fun _ _=>Classical.propDecidable _
mutual
inductive Im (K:PySem.W.Frag) (H:Hp):Nat→Tr→V→Prop where
 | non {n:Nat}:Im K H n .non .non
 | int {n:Nat} (i:Int):Im K H n (.int i) (.int i)
 | str {n:Nat} (x:Str):Im K H n (.str x) (.str x)
 | tupI {n:Nat} {a:Addr} {xs:List V} {ts:List Tr}:SqT K H a xs→Ims K H n ts xs→Im K H (n + 1) (.tup ts) (.ref a)
 | lstI {n:Nat} {a:Addr} {xs:List V} {ts:List Tr}:SqL K H a xs→Ims K H n ts xs→Im K H (n + 1) (.lst ts) (.ref a)
inductive Ims (K:PySem.W.Frag) (H:Hp):Nat→List Tr→List V→Prop where
 | nil {n:Nat}:Ims K H n [] []
 | cons {n:Nat} {t:Tr} {v:V} {ts:List Tr} {vs:List V}:Im K H n t v→Ims K H n ts vs→Ims K H n (t :: ts) (v :: vs)
end
theorem Ims.toP {K:PySem.W.Frag} {H:Hp} {n:Nat}:∀ {ts:List Tr} {xs:List V},Ims K H n ts xs→Paired (Im K H n) ts xs
 | [],_,h=>by cases h; exact .nil
 | _ :: _,_,h=>by
  cases h with
  | cons r t=>exact .cons r t.toP
theorem Ims.ofP {K:PySem.W.Frag} {H:Hp} {n:Nat}:∀ {ts:List Tr} {xs:List V},Paired (Im K H n) ts xs→Ims K H n ts xs
 | _,_,.nil=>.nil
 | _,_,.cons r t=>.cons r (Ims.ofP t)
theorem Im.tup {K:PySem.W.Frag} {H:Hp} {n:Nat} {a:Addr} {xs:List V} {ts:List Tr} (sq:SqT K H a xs) (ps:Paired (Im K H n) ts xs):Im K H (n + 1) (.tup ts) (.ref a):=.tupI sq (.ofP ps)
theorem Im.lst {K:PySem.W.Frag} {H:Hp} {n:Nat} {a:Addr} {xs:List V} {ts:List Tr} (sq:SqL K H a xs) (ps:Paired (Im K H n) ts xs):Im K H (n + 1) (.lst ts) (.ref a):=.lstI sq (.ofP ps)
theorem Paired.get {α β:Type} {R:α→β→Prop}:∀ {l₁:List α} {l₂:List β} {i:Nat} {a:α},Paired R l₁ l₂→l₁[i]? = some a→∃ b,l₂[i]? = some b∧R a b
 | _,_,_,_,.nil,e=>by simp at e
 | _,_,0,_,.cons r _,e=>by simp at e; subst e; exact ⟨_,rfl,r⟩
 | _,_,i + 1,a,.cons _ t,e=>by
  obtain ⟨u,h1,h2⟩:=Paired.get (i:=i) (a:=a) t (by simpa using e)
  exact ⟨u,by simpa using h1,h2⟩
theorem Paired.get' {α β:Type} {R:α→β→Prop}:∀ {l₁:List α} {l₂:List β} {i:Nat} {b:β},Paired R l₁ l₂→l₂[i]? = some b→∃ a,l₁[i]? = some a∧R a b
 | _,_,_,_,.nil,e=>by simp at e
 | _,_,0,_,.cons r _,e=>by simp at e; subst e; exact ⟨_,rfl,r⟩
 | _,_,i + 1,a,.cons _ t,e=>by
  obtain ⟨u,h1,h2⟩:=Paired.get' (i:=i) (b:=a) t (by simpa using e)
  exact ⟨u,by simpa using h1,h2⟩
theorem Paired.append {α β:Type} {R:α→β→Prop}:∀ {a₁:List α} {b₁:List β} {a₂:List α} {b₂:List β},Paired R a₁ b₁→Paired R a₂ b₂→Paired R (a₁ ++ a₂) (b₁ ++ b₂)
 | _,_,_,_,.nil,s=>s
 | _,_,_,_,.cons r t,s=>.cons r (Paired.append t s)
theorem Paired.strs {K:PySem.W.Frag} {H:Hp} {n:Nat}:∀ xs:List Str,Paired (Im K H n) (xs.map Tr.str) (xs.map V.str)
 | []=>.nil
 | x :: xs=>.cons (.str x) (Paired.strs (K:=K) (H:=H) (n:=n) xs)
theorem Same.at {H H':Hp} {b:Addr} {o:HO} (e:Same H H') (h:H b=some o):H' b=some o:=e b o h
theorem Same.new {H:Hp} {p:Addr} {o:HO} (h:H p=none):Same H (upd H p o):=fun b u e=>by rw [upd_ne (ne_of_none e h)]; exact e
theorem Paired.uniq {α β:Type} {R:α→β→Prop} (f:∀ a a' b,R a b→R a' b→a=a'):∀ {l l':List α} {m:List β},Paired R l m→Paired R l' m→l=l'
 | _,_,_,.nil,.nil=>rfl
 | _,_,_,.cons r t,.cons r' t'=>by rw [f _ _ _ r r',Paired.uniq f t t']
section
variable {X:Cx} {pins:List (Addr×Obj)} {σ:St} {H:Hp} {s:Shared}
theorem Inv.lt_excl (I:Inv X pins σ H s) {a:Addr} {xs ys:List V} (h:SqL X.K H a xs) (h':SqT X.K H a ys):False:=by
 obtain ⟨its,_,pl,_⟩:=I.list h
 obtain ⟨its',_,tp,_⟩:=I.tuple h'
 exact SeqAt.ne_of_list_tuple pl.isList (show s.heap.IsTuple a its'.toArray from tp) rfl
theorem Im.inj (I:Inv X pins σ H s):∀ {n:Nat} {t u:Tr} {v:V},Im X.K H n t v→Im X.K H n u v→t=u:=by
 intro n
 induction n with
 | zero=>intro t u v h h'; cases h <;> cases h' <;> rfl
 | succ n ih =>
  intro t u v h h'
  cases h with
  | non=>cases h'; rfl
  | int i=>cases h'; rfl
  | str x=>cases h'; rfl
  | tupI sq pm =>
   cases h' with
   | tupI sq' pm' =>
    have e:=I.tuple_inj sq sq'
    subst e
    rw [Paired.uniq (R:=Im X.K H n) (fun _ _ _ z z'=>ih z z') pm.toP pm'.toP]
   | lstI sq' pm'=>exact (I.lt_excl sq' sq).elim
  | lstI sq pm =>
   cases h' with
   | tupI sq' pm'=>exact (I.lt_excl sq sq').elim
   | lstI sq' pm' =>
    have e:=I.list_inj sq sq'
    subst e
    rw [Paired.uniq (R:=Im X.K H n) (fun _ _ _ z z'=>ih z z') pm.toP pm'.toP]
theorem eqAt_cast {A:Around} {s:Shared} {u v:Value} {b b':Bool} (h:SeqAt.EqAt A s u v b) (e:b=b'):SeqAt.EqAt A s u v b':=e ▸ h
theorem all_getElem (ts us:List Tr):(((List.range (min ts.length us.length)).all fun j=>decide (ts[j]? = us[j]?)) && ts.length == us.length)=decide (ts=us):=by
 rw [Bool.eq_iff_iff]
 simp only [Bool.and_eq_true,List.all_eq_true,List.mem_range,decide_eq_true_eq,beq_iff_eq]
 constructor
 ·rintro ⟨h,e⟩
  refine List.ext_getElem? fun i=>?_
  by_cases hi:i < ts.length
  ·exact h i (by omega)
  ·rw [List.getElem?_eq_none (by omega),List.getElem?_eq_none (by omega)]
 ·rintro rfl
  exact ⟨fun _ _=>rfl,rfl⟩
theorem all_getElem' {ts us:List Tr} (h:ts.length=us.length):((List.range ts.length).all fun j=>decide (ts[j]? = us[j]?))=decide (ts=us):=by
 have q:=all_getElem ts us
 rw [h,Nat.min_self,beq_self_eq_true,Bool.and_true] at q
 rw [h]
 exact q
theorem in1_units (A:Around):A.in1.units=A.units + 1:=rfl
theorem items_eqAt {n:Nat} {A:Around} {ts us:List Tr} {xs ys:List V} {its its':List Value}
  (ih:∀ {t u:Tr} {x y:V} {vx vy:Value},Im X.K H n t x→Im X.K H n u y→RelV x vx→RelV y vy→SeqAt.EqAt A s vx vy (decide (t=u)))
  (ps:Paired (Im X.K H n) ts xs) (ps':Paired (Im X.K H n) us ys) (rv:Vals xs its) (rv':Vals ys its') :
  ∀ j (h1:j < its.toArray.size) (h2:j < its'.toArray.size),SeqAt.EqAt A s its.toArray[j] its'.toArray[j] (decide (ts[j]? = us[j]?)):=by
 intro j h1 h2
 have l1:=rv.length
 have l2:=rv'.length
 have h1':j < xs.length:=by simpa [l1] using h1
 have h2':j < ys.length:=by simpa [l2] using h2
 obtain ⟨t,e1,r1⟩:=Paired.get' ps (i:=j) (b:=xs[j]) (by simp [h1'])
 obtain ⟨u,e2,r2⟩:=Paired.get' ps' (i:=j) (b:=ys[j]) (by simp [h2'])
 obtain ⟨v1,f1,g1⟩:=rv.get (i:=j) (x:=xs[j]) (by simp [h1'])
 obtain ⟨v2,f2,g2⟩:=rv'.get (i:=j) (x:=ys[j]) (by simp [h2'])
 have k1:its.toArray[j]=v1:=by
  have:its[j]? = some its.toArray[j]:=by simp [show j < its.length by simpa using h1]
  rw [f1] at this
  exact (Option.some.inj this).symm
 have k2:its'.toArray[j]=v2:=by
  have:its'[j]? = some its'.toArray[j]:=by simp [show j < its'.length by simpa using h2]
  rw [f2] at this
  exact (Option.some.inj this).symm
 rw [k1,k2,e1,e2]
 refine eqAt_cast (ih r1 r2 g1 g2) ?_
 rw [Bool.eq_iff_iff]
 simp
theorem Im.tuple_rc (I:Inv X pins σ H s) {n:Nat} {A:Around} {a b:Addr} {ts us:List Tr} {xs ys:List V}
  (ih:∀ {t u:Tr} {x y:V} {vx vy:Value},Im X.K H n t x→Im X.K H n u y→RelV x vx→RelV y vy→SeqAt.EqAt A.in1 s vx vy (decide (t=u))) (hu:A.units < cLine)
  (sq:SqT X.K H a xs) (ps:Paired (Im X.K H n) ts xs) (sq':SqT X.K H b ys) (ps':Paired (Im X.K H n) us ys) :
  SeqAt.RcAt A s (.ref a) (.ref b) (decide (Tr.tup ts=Tr.tup us))∧SeqAt.RcNeAt A s (.ref a) (.ref b) (!decide (Tr.tup ts=Tr.tup us)):=by
 obtain ⟨its,rv,tp,_⟩:=I.tuple sq
 obtain ⟨its',rv',tp',_⟩:=I.tuple sq'
 have l1:=rv.length
 have l2:=rv'.length
 have m1:=Paired.length ps
 have m2:=Paired.length ps'
 have e:((List.range (min its.toArray.size its'.toArray.size)).all (fun j=>decide (ts[j]? = us[j]?)) && its.toArray.size == its'.toArray.size)=decide (Tr.tup ts=Tr.tup us):=by
  rw [List.size_toArray,List.size_toArray,← l1,← l2,← m1,← m2,all_getElem,Bool.eq_iff_iff]
  simp
 constructor
 ·rw [← e]; exact SeqAt.RcAt.tuples (show s.heap.IsTuple a its.toArray from tp) (show s.heap.IsTuple b its'.toArray from tp') hu (items_eqAt ih ps ps' rv rv')
 ·rw [← e]; exact SeqAt.RcNeAt.tuples (show s.heap.IsTuple a its.toArray from tp) (show s.heap.IsTuple b its'.toArray from tp') hu (items_eqAt ih ps ps' rv rv')
theorem Im.list_rc (I:Inv X pins σ H s) {n:Nat} {A:Around} {a b:Addr} {ts us:List Tr} {xs ys:List V}
  (ih:∀ {t u:Tr} {x y:V} {vx vy:Value},Im X.K H n t x→Im X.K H n u y→RelV x vx→RelV y vy→SeqAt.EqAt A.in1 s vx vy (decide (t=u))) (hu:A.units < cLine)
  (sq:SqL X.K H a xs) (ps:Paired (Im X.K H n) ts xs) (sq':SqL X.K H b ys) (ps':Paired (Im X.K H n) us ys) :
  SeqAt.RcAt A s (.ref a) (.ref b) (decide (Tr.lst ts=Tr.lst us))∧SeqAt.RcNeAt A s (.ref a) (.ref b) (!decide (Tr.lst ts=Tr.lst us)):=by
 obtain ⟨its,rv,tp,_⟩:=I.list sq
 obtain ⟨its',rv',tp',_⟩:=I.list sq'
 have l1:=rv.length
 have l2:=rv'.length
 have m1:=Paired.length ps
 have m2:=Paired.length ps'
 by_cases hl:ts.length=us.length
 ·have e:((List.range its.toArray.size).all fun j=>decide (ts[j]? = us[j]?))=decide (Tr.lst ts=Tr.lst us):=by
   rw [List.size_toArray,← l1,← m1,all_getElem' hl,Bool.eq_iff_iff]
   simp
  have hs:its.toArray.size=its'.toArray.size:=by rw [List.size_toArray,List.size_toArray]; omega
  constructor
  ·rw [← e]; exact SeqAt.RcAt.lists tp.isList tp'.isList hs hu (items_eqAt ih ps ps' rv rv')
  ·rw [← e]; exact SeqAt.RcNeAt.lists tp.isList tp'.isList hs hu (items_eqAt ih ps ps' rv rv')
 ·have e:decide (Tr.lst ts=Tr.lst us)=false:=decide_eq_false fun z=>hl (by injection z with z; rw [z])
  have hs:(its.toArray.size != its'.toArray.size)=true:=by rw [List.size_toArray,List.size_toArray]; simp; omega
  rw [e]
  exact ⟨SeqAt.RcAt.lists_lengths tp.isList tp'.isList hs hu,SeqAt.RcNeAt.lists_lengths tp.isList tp'.isList hs hu⟩
theorem Im.eqAt (I:Inv X pins σ H s):∀ (n:Nat) (A:Around) {t u:Tr} {x y:V} {vx vy:Value},Im X.K H n t x→Im X.K H n u y→RelV x vx→RelV y vy→A.units + n < cLine→SeqAt.EqAt A s vx vy (decide (t=u)):=by
 intro n
 induction n with
 | zero =>
  intro A t u x y vx vy h h' rx ry hu
  cases h <;> cases h' <;> exact eqAt_cast (eqAt_V rx ry rfl rfl) (by rw [Bool.eq_iff_iff]; simp [eqV])
 | succ n ih =>
  intro A t u x y vx vy h h' rx ry hu
  have hu0:A.units < cLine:=by omega
  have hu1:A.in1.units + n < cLine:=by rw [in1_units]; omega
  have ih1:∀ {t u:Tr} {x y:V} {vx vy:Value},Im X.K H n t x→Im X.K H n u y→RelV x vx→RelV y vy→SeqAt.EqAt A.in1 s vx vy (decide (t=u)):=fun z z' r r'=>ih A.in1 z z' r r' hu1
  cases h with
  | @tupI _ a xs ts sq pm =>
   cases rx
   obtain ⟨its,rv,tp,_⟩:=I.tuple sq
   cases h' with
   | non=>cases ry; exact eqAt_cast (SeqAt.EqAt.tuple_none (show s.heap.IsTuple _ its.toArray from tp) hu0) (decide_eq_false fun z=>nomatch z).symm
   | int i=>obtain ⟨t',rfl⟩:=ry; exact eqAt_cast (SeqAt.EqAt.tuple_int i t' (show s.heap.IsTuple _ its.toArray from tp) hu0) (decide_eq_false fun z=>nomatch z).symm
   | str i=>obtain ⟨t',rfl⟩:=ry; exact eqAt_cast (SeqAt.EqAt.tuple_str i t' (show s.heap.IsTuple _ its.toArray from tp) hu0) (decide_eq_false fun z=>nomatch z).symm
   | @tupI _ b ys us sq' pm' =>
    cases ry
    by_cases hab:a=b
    ·subst hab
     rw [Im.inj I (Im.tupI sq pm) (Im.tupI sq' pm'),decide_eq_true rfl]
     exact SeqAt.EqAt.same _
    ·exact SeqAt.EqAt.of_refs hab (Im.tuple_rc I ih1 hu0 sq pm.toP sq' pm'.toP).1
   | lstI sq' pm' =>
    cases ry
    obtain ⟨its',rv',tp',_⟩:=I.list sq'
    exact eqAt_cast (SeqAt.EqAt.tuple_list (show s.heap.IsTuple _ its.toArray from tp) tp'.isList hu0) (decide_eq_false fun z=>nomatch z).symm
  | @lstI _ a xs ts sq pm =>
   cases rx
   obtain ⟨its,rv,tp,_⟩:=I.list sq
   cases h' with
   | non=>cases ry; exact eqAt_cast (SeqAt.EqAt.list_none tp.isList hu0) (decide_eq_false fun z=>nomatch z).symm
   | int i=>obtain ⟨t',rfl⟩:=ry; exact eqAt_cast (SeqAt.EqAt.list_int i t' tp.isList hu0) (decide_eq_false fun z=>nomatch z).symm
   | str i=>obtain ⟨t',rfl⟩:=ry; exact eqAt_cast (SeqAt.EqAt.list_str i t' tp.isList hu0) (decide_eq_false fun z=>nomatch z).symm
   | tupI sq' pm' =>
    cases ry
    obtain ⟨its',rv',tp',_⟩:=I.tuple sq'
    exact eqAt_cast (SeqAt.EqAt.list_tuple tp.isList (show s.heap.IsTuple _ its'.toArray from tp') hu0) (decide_eq_false fun z=>nomatch z).symm
   | @lstI _ b ys us sq' pm' =>
    cases ry
    by_cases hab:a=b
    ·subst hab
     rw [Im.inj I (Im.lstI sq pm) (Im.lstI sq' pm'),decide_eq_true rfl]
     exact SeqAt.EqAt.same _
    ·exact SeqAt.EqAt.of_refs hab (Im.list_rc I ih1 hu0 sq pm.toP sq' pm'.toP).1
  | non =>
   cases rx
   cases h' with
   | non=>cases ry; exact eqAt_cast (SeqAt.EqAt.same _) (decide_eq_true rfl).symm
   | int i=>obtain ⟨t',rfl⟩:=ry; exact eqAt_cast (SeqAt.EqAt.none_int i t') (decide_eq_false fun z=>nomatch z).symm
   | str i=>obtain ⟨t',rfl⟩:=ry; exact eqAt_cast (SeqAt.EqAt.none_str i t') (decide_eq_false fun z=>nomatch z).symm
   | tupI sq' pm'=>cases ry; obtain ⟨its',_,tp',_⟩:=I.tuple sq'; exact eqAt_cast (SeqAt.EqAt.none_tuple (show s.heap.IsTuple _ its'.toArray from tp') hu0) (decide_eq_false fun z=>nomatch z).symm
   | lstI sq' pm'=>cases ry; obtain ⟨its',_,tp',_⟩:=I.list sq'; exact eqAt_cast (SeqAt.EqAt.none_list tp'.isList hu0) (decide_eq_false fun z=>nomatch z).symm
  | int j =>
   cases h' with
   | tupI sq' pm'=>obtain ⟨t',rfl⟩:=rx; cases ry; obtain ⟨its',_,tp',_⟩:=I.tuple sq'; exact eqAt_cast (SeqAt.EqAt.int_tuple j t' (show s.heap.IsTuple _ its'.toArray from tp') hu0) (decide_eq_false fun z=>nomatch z).symm
   | lstI sq' pm'=>obtain ⟨t',rfl⟩:=rx; cases ry; obtain ⟨its',_,tp',_⟩:=I.list sq'; exact eqAt_cast (SeqAt.EqAt.int_list j t' tp'.isList hu0) (decide_eq_false fun z=>nomatch z).symm
   | _=>exact eqAt_cast (eqAt_V rx ry rfl rfl) (by rw [Bool.eq_iff_iff]; simp [eqV])
  | str j =>
   cases h' with
   | tupI sq' pm'=>obtain ⟨t',rfl⟩:=rx; cases ry; obtain ⟨its',_,tp',_⟩:=I.tuple sq'; exact eqAt_cast (SeqAt.EqAt.str_tuple j t' (show s.heap.IsTuple _ its'.toArray from tp') hu0) (decide_eq_false fun z=>nomatch z).symm
   | lstI sq' pm'=>obtain ⟨t',rfl⟩:=rx; cases ry; obtain ⟨its',_,tp',_⟩:=I.list sq'; exact eqAt_cast (SeqAt.EqAt.str_list j t' tp'.isList hu0) (decide_eq_false fun z=>nomatch z).symm
   | _=>exact eqAt_cast (eqAt_V rx ry rfl rfl) (by rw [Bool.eq_iff_iff]; simp [eqV])
end
def rEqD (K:PySem.W.Frag) (neg:Bool):R2:=fun x y H Q=>∃ n t u,n ≤ 60∧((∃ ts us,t=Tr.tup ts∧u=Tr.tup us)∨∃ ts us,t=Tr.lst ts∧u=Tr.lst us)∧Im K H n t x∧Im K H n u y∧Q (.bl (if neg then !decide (t=u) else decide (t=u))) H
theorem op_eqD {X:Cx} (hu:X.A.units + 64 < cLine):OpR X (compareOp .Eq) (rEqD X.K false):=by
 intro pins s σ H x y v u Q I rx ry h
 obtain ⟨n,t,t',hn,hk,h1,h2,q⟩:=h
 rcases hk with ⟨ts,us,rfl,rfl⟩ | ⟨ts,us,rfl,rfl⟩
 ·cases h1 with
  | tupI sq pm =>
   cases h2 with
   | tupI sq' pm' =>
    cases rx
    cases ry
    exact (Im.tuple_rc (A:=X.A) I (fun z z' r r'=>Im.eqAt I _ _ z z' r r' (by rw [in1_units]; omega)) (by omega) sq pm.toP sq' pm'.toP).1 _ _ _ _ ⟨.bl _,H,I,rfl,q⟩
 ·cases h1 with
  | lstI sq pm =>
   cases h2 with
   | lstI sq' pm' =>
    cases rx
    cases ry
    exact (Im.list_rc (A:=X.A) I (fun z z' r r'=>Im.eqAt I _ _ z z' r r' (by rw [in1_units]; omega)) (by omega) sq pm.toP sq' pm'.toP).1 _ _ _ _ ⟨.bl _,H,I,rfl,q⟩
theorem op_neD {X:Cx} (hu:X.A.units + 64 < cLine):OpR X (compareOp .NotEq) (rEqD X.K true):=by
 intro pins s σ H x y v u Q I rx ry h
 obtain ⟨n,t,t',hn,hk,h1,h2,q⟩:=h
 rcases hk with ⟨ts,us,rfl,rfl⟩ | ⟨ts,us,rfl,rfl⟩
 ·cases h1 with
  | tupI sq pm =>
   cases h2 with
   | tupI sq' pm' =>
    cases rx
    cases ry
    exact (Im.tuple_rc (A:=X.A) I (fun z z' r r'=>Im.eqAt I _ _ z z' r r' (by rw [in1_units]; omega)) (by omega) sq pm.toP sq' pm'.toP).2 _ _ _ _ ⟨.bl _,H,I,rfl,q⟩
 ·cases h1 with
  | lstI sq pm =>
   cases h2 with
   | lstI sq' pm' =>
    cases rx
    cases ry
    exact (Im.list_rc (A:=X.A) I (fun z z' r r'=>Im.eqAt I _ _ z z' r r' (by rw [in1_units]; omega)) (by omega) sq pm.toP sq' pm'.toP).2 _ _ _ _ ⟨.bl _,H,I,rfl,q⟩
def tTupS (t:TA):TE:=fun σ H Q=>t σ H fun xs H1=>xs.length ≤ sizeLine∧∀ p H',Same H1 H'→H1 p=none→H' p=some (.tup xs)→Q (.ref p) H'
def tLstS (t:TA):TE:=fun σ H Q=>t σ H fun xs H1=>xs.length ≤ sizeLine∧∀ p H',Same H1 H'→H1 p=none→H' p=some (.lst xs)→Q (.ref p) H'
theorem pe_tupS {X:Cx} {es:List Expr} {t:TA} {pos:Pos} {x1} (h:PA X es t):PE X (.Tuple es x1 pos) (tTupS t):=by
 intro pins s σ H Q I hq
 refine wpAny_Tuple_spliced (thn (h pos pins s σ H _ I hq) fun us s1 ⟨xs,H1,I1,r,z,q⟩=>⟨by rw [← r.length]; exact z,?_⟩)
 have hf:H1 s1.heap.objs.size=none:=I1.hok.fresh (Nat.le_refl _)
 refine ⟨.ref s1.heap.objs.size,upd H1 s1.heap.objs.size (.tup xs),I1.laid (t':=s1.toks) (fun b u e=>Heap.get?_push_of_some _ e) (Nat.le_refl _) ?_,rfl,q _ _ (Same.new hf) hf upd_same⟩
 exact ⟨z,us,r,⟨_,Heap.get?_push_size _ rfl,rfl,_,rfl⟩⟩
theorem pe_lstS {X:Cx} {es:List Expr} {t:TA} {pos:Pos} (h:PA X es t):PE X (.List es pos) (tLstS t):=by
 intro pins s σ H Q I hq
 refine wpAny_List_spliced (thn (h pos pins s σ H _ I hq) fun us s1 ⟨xs,H1,I1,r,z,q⟩=>⟨by rw [← r.length]; exact z,?_⟩)
 have hf:H1 s1.heap.objs.size=none:=I1.hok.fresh (Nat.le_refl _)
 refine ⟨.ref s1.heap.objs.size,upd H1 s1.heap.objs.size (.lst xs),I1.laid (t':=s1.toks) (fun b u e=>Heap.get?_push_of_some _ e) (Nat.le_refl _) ?_,rfl,q _ _ (Same.new hf) hf upd_same⟩
 exact ⟨z,us,0,r,Heap.get?_push_size _ rfl⟩
theorem OpR.imp {X:Cx} {f:Value→Value→Sem Value} {r r':R2} (h:OpR X f r) (g:∀ x y H Q,r' x y H Q→r x y H Q):OpR X f r':=fun pins s σ H x y v u Q I rx ry q=>h pins s σ H x y v u Q I rx ry (g _ _ _ _ q)
theorem SlR.imp {X:Cx} {r r':V→Option Int→Option Int→Hp→VK→Prop} (h:SlR X r) (g:∀ x l u H Q,r' x l u H Q→r x l u H Q):SlR X r':=fun pins s σ H x v vl vu lo hi sl Q I rx hs pl pu q=>h pins s σ H x v vl vu lo hi sl Q I rx hs pl pu (g _ _ _ _ _ q)
theorem CallR.imp {X:Cx} {f:Value} {r r':List V→Hp→VK→Prop} (h:CallR X f r) (g:∀ xs H Q,r' xs H Q→r xs H Q):CallR X f r':=fun pins s σ H xs us Q I rs q=>h pins s σ H xs us Q I rs (g _ _ _ q)
def New (H:Hp) (o:HO) (Q:VK):Prop:=∀ p H',Same H H'→H p=none→H' p=some o→Q (.ref p) H'
theorem New.at {H:Hp} {o:HO} {Q:VK} (h:New H o Q) (p:Addr) (hp:H p=none):Q (.ref p) (upd H p o):=h p _ (Same.new hp) hp upd_same
def rCatS:R2:=fun x y H Q=>∃ l b xs zs,x=.ref l∧y=.ref b∧H l=some (.lst xs)∧H b=some (.lst zs)∧xs.length + zs.length ≤ sizeLine∧New H (.lst (xs ++ zs)) Q
theorem op_catS {X:Cx}:OpR X (binaryOp .Add) rCatS:=op_cat.imp fun x y H Q ⟨l,b,xs,zs,h1,h2,h3,h4,h5,h6⟩=>⟨l,b,xs,zs,h1,h2,h3,h4,h5,fun p hp=>h6.at p hp⟩
def rSlTS (K:PySem.W.Frag):V→Option Int→Option Int→Hp→VK→Prop:=fun x lo hi H Q=>∃ a xs,x=.ref a∧SqT K H a xs∧¬ (HT.sIx xs.length 0 lo=0∧HT.sIx xs.length xs.length hi=xs.length)∧New H (.tup (cutV xs lo hi)) Q
theorem sl_tupS {X:Cx}:SlR X (rSlTS X.K):=sl_tup.imp fun x l u H Q ⟨a,xs,h1,h2,h3,h4⟩=>⟨a,xs,h1,h2,h3,fun p hp=>h4.at p hp⟩
def rSlLS (K:PySem.W.Frag):V→Option Int→Option Int→Hp→VK→Prop:=fun x lo hi H Q=>∃ a xs,x=.ref a∧SqL K H a xs∧New H (.lst (cutV xs lo hi)) Q
theorem sl_listS {X:Cx}:SlR X (rSlLS X.K):=sl_list.imp fun x l u H Q ⟨a,xs,h1,h2,h4⟩=>⟨a,xs,h1,h2,fun p hp=>h4.at p hp⟩
theorem pe_makeR {X:Cx} {CX:CXT} {k:Nat} {f C:Addr} {fd:FuncData} {ps:List Str} {sp:Sp} {dvs:List V} {ds:List Value} {E:XK} {x:Str} {p pos:Pos} {e:Expr} {es:List Expr} {t:TA} (mr:List V→Hp→VK→Prop) (M:Mk X.K C f)
  (F:FnOk X.prog X.w X.K X.mg X.base CX k f fd ps sp) (hr:Room (k + 1) X.A) (hg:Gl X x) (hm:X.mg x=some (.ref C)) (hb:Binds X.K fd ps ds) (hd:Vals dvs ds) (hx:Passes CX X E)
  (hmr:∀ vs H Q,mr vs H Q→∀ x dx,H x=none→H dx=none→dx ≠ x→sp (.ref x :: (vs ++ dvs)) (upd (upd H dx (.own x)) x (.ins C dx [])) (fun v H2=>v=.non∧Q (.ref x) H2) E)
  (ha:PA X (e :: es) t) (hdb:(x == ("__debug__" : Str))=false:=by decide) (he:starEach (e :: es) X.env=(false,eval e X.env) :: starEach es X.env:=by rfl) (hpl:(backTo pos (starEach es X.env)).any (·.1)=false:=by rfl) :
  PE X (.Call (.Name x p) (e :: es) [] pos) (tCB mr t):=by
 intro pins s σ H Q I h
 refine wpAny_Call_Name_kw (ld_glob I hg hm ?_ hdb)
 refine PySem.W.callWith_K (h₀:=X.base) I.ok.mod.kin M.kp (thn (ha pos pins s σ H _ I h) fun us s1 ⟨vs,H1,I1,r,q⟩=>⟨I1.kIn,?_⟩) he hpl
 exact run_make M F hr hb hd hx I1 r (hmr vs H1 Q q)
section
variable {X:Cx} {k:Nat}
theorem op_din (hu:X.A.units + 1 < cLine):OpR X (compareOp .In) (fun y x H Q=>∃ a o,x=.ref a∧DGet H a y o∧Q (.bl o.isSome) H):=by
 intro pins s σ H y x v u Q I ry rx h
 obtain ⟨a,ov,rfl,g,q⟩:=h
 cases rx
 exact d_in hu I g ry fun s3 I3=>⟨.bl ov.isSome,H,I3,rfl,q⟩
theorem op_dnotin (hu:X.A.units + 1 < cLine):OpR X (compareOp .NotIn) (fun y x H Q=>∃ a o,x=.ref a∧DGet H a y o∧Q (.bl (!o.isSome)) H):=by
 intro pins s σ H y x v u Q I ry rx h
 obtain ⟨a,ov,rfl,g,q⟩:=h
 cases rx
 exact d_notIn hu I g ry fun s3 I3=>⟨.bl (!ov.isSome),H,I3,rfl,q⟩
theorem oAdd:OpR X (binaryOp .Add) (fun x y H Q=>rI0 (fun i j=>.int (i + j)) x y H Q∨(∃ i j,x=.str i∧y=.str j∧i.length + j.length ≤ sizeLine∧Q (.str (i ++ j)) H)∨rCatS x y H Q):=op_add.or (op_add_str.or op_catS)
end
theorem sz {n:Nat} (h:n ≤ 1000):n ≤ sizeLine:=Nat.le_of_lt (small1000 h)
structure FunD (K:PySem.W.Frag) (x qual:Str) (st:Stmt) (dV:Value) (f:Addr) (fd:FuncData):Prop where
 ex:∃ (oc:Value) (od:Option Addr) (kV doc pm:Value) (an:Option Addr) (cdv ct:Value) (osl:Array (Option Value)),
  fd=PySem.W.fnOf x qual (defArgs st) (defBody st) (defScope st) dV kV doc pm an cdv ct∧K.lookup f=some ⟨oc,od,.func fd,osl⟩∧PySem.W.codeIn K cdv qual=true
 kp:PySem.W.keepIn K (.ref f)=true
section
variable {P:Program} {w:World} {K:PySem.W.Frag} {mg:Str→Option Value} {base:Heap}
theorem FunD.ok {x qual:Str} {st:Stmt} {dV:Value} {f:Addr} {fd:FuncData} {N ps:List Str} {k:Nat} {sp:Sp} (F:FunD K x qual st dV f fd) (S:FnScope N ps (defScope st)) (len:∀ vs H Q E,sp vs H Q E→vs.length=ps.length)
  (hbody:∀ (cdv:Value) (A:Around) (outer:List Env) (s:Shared) (H:Hp) (vs:List V) (Q:VK) (E:XK),Room k (A.deeper (envOfC qual (defScope st) s.heap.objs.size f cdv))→sp vs H Q E →
   WSs (cxOf CX0 P w K mg base N qual (defScope st) f cdv A outer s H E).nox (defBody st) { nx:=fun _ H'=>Q .non H',rt:=Q } (start N vs) H):FnOk P w K mg base CX0 (k + 1) f fd ps sp:=by
 obtain ⟨oc,od,kV,doc,pm,an,cdv,ct,osl,rfl,lk,hcd⟩:=F.ex
 refine fn_of lk hcd S len fun A outer s H vs Q E hr hsp=>?_
 exact ⟨_,PSs.nox pss_w,hbody cdv A outer s H vs Q E hr hsp⟩
theorem Fun.okW {x qual:Str} {st:Stmt} {f:Addr} {fd:FuncData} {N ps:List Str} {k:Nat} {sp:Sp} (F:Fun K x qual st f fd) (S:FnScope N ps (defScope st)) (len:∀ vs H Q E,sp vs H Q E→vs.length=ps.length)
  (hbody:∀ (cdv:Value) (A:Around) (outer:List Env) (s:Shared) (H:Hp) (vs:List V) (Q:VK) (E:XK),Room k (A.deeper (envOfC qual (defScope st) s.heap.objs.size f cdv))→sp vs H Q E →
   WSs (cxOf CX0 P w K mg base N qual (defScope st) f cdv A outer s H E).nox (defBody st) { nx:=fun _ H'=>Q .non H',rt:=Q } (start N vs) H):FnOk P w K mg base CX0 (k + 1) f fd ps sp :=
 F.ok S len fun cdv A outer s H vs Q E hr h=>⟨_,pss_w,hbody cdv A outer s H vs Q E hr h⟩
theorem funD_mk {x qual:Str} {st:Stmt} {f:Addr} {oc dV:Value} {od an:Option Addr} {osl:Array (Option Value)} {kV doc pm cdv ct:Value} (l:K.lookup f=some ⟨oc,od,.func (PySem.W.fnOf x qual (defArgs st) (defBody st) (defScope st) dV kV doc pm an cdv ct),osl⟩)
  (c:PySem.W.codeIn K cdv qual=true) (k:PySem.W.keepIn K (.ref f)=true):FunD K x qual st dV f (PySem.W.fnOf x qual (defArgs st) (defBody st) (defScope st) dV kV doc pm an cdv ct):=⟨⟨oc,od,kV,doc,pm,an,cdv,ct,osl,rfl,l,c⟩,k⟩
end
structure Dn (K:PySem.W.Frag) (x qual:Str) (st:Stmt) (ps:List Str) where
 f:Addr
 fd:FuncData
 F:Fun K x qual st f fd
 b:Binds K fd ps []
theorem drop_get {α:Type} {l:List α} {i:Nat} {a:α} (h:l[i]? = some a):l.drop i=a :: l.drop (i + 1):=by
 have hi:i < l.length:=by
  rcases Nat.lt_or_ge i l.length with z | z
  ·exact z
  ·rw [List.getElem?_eq_none z] at h; cases h
 rw [List.drop_eq_getElem_cons hi]
 rw [List.getElem?_eq_getElem hi] at h
 rw [Option.some.inj h]
theorem flat_strs:∀ l:List Str,(l.map V.str).all flatV=true
 | []=>rfl
 | _ :: l=>by rw [List.map_cons,List.all_cons,flat_strs l]; rfl
theorem inV_strs (x:Str):∀ l:List Str,inV (.str x) (l.map V.str)=decide (x ∈ l)
 | []=>by simp [inV]
 | y :: l=>by
  have ih:=inV_strs x l
  unfold inV at ih ⊢
  rw [List.map_cons,List.any_cons,ih,Bool.eq_iff_iff]
  simp only [eqV,Bool.or_eq_true,beq_iff_eq,decide_eq_true_eq,List.mem_cons]
  constructor
  ·rintro (h | h)
   ·exact .inl h.symm
   ·exact .inr h
  ·rintro (h | h)
   ·exact .inl h.symm
   ·exact .inr h
end L2
end
section
namespace L2
open PySem PySem.Spec PyProof.Rows
def isDct:HO→Bool
 | .dK _=>true
 | .dT _=>true
 | _=>false
section
variable {X:Cx} {pins:List (Addr×Obj)} {σ:St} {H:Hp} {s:Shared} {d:Addr} {o:Obj} {u:HO}
theorem HOk.retold {P:Program} {w:World} {h:Heap} {v v':HO} (x:HOk P w H h) (hd:H d=some v) (no:∀ y,v ≠ .own y) (nt:∀ xs,v ≠ .tup xs) (nz:∀ o y,v ≠ .frz o (.own y)) (new:ObjOk P w (upd H d v') h d v'):HOk P w (upd H d v') h:=fun b q e=>by
 by_cases hb:b=d
 ·subst hb; rw [upd_same] at e; cases e; exact new
 ·rw [upd_ne hb] at e
  refine (x b q e).stay (fun _ _ _ z=>z) (fun c z=>?_) (fun c xs z=>?_) (fun c ob z=>?_)
  ·rw [upd_ne (fun y=>by subst y; rw [hd] at z; exact no _ (Option.some.inj z))]; exact z
  ·rw [upd_ne (fun y=>by subst y; rw [hd] at z; exact nt _ (Option.some.inj z))]; exact z
  ·rw [upd_ne (fun y=>by subst y; rw [hd] at z; exact nz _ _ (Option.some.inj z))]; exact z
theorem objOk_retold {P:Program} {w:World} {h:Heap} {v v' u:HO} (hd:H d=some v) (no:∀ y,v ≠ .own y) (nt:∀ xs,v ≠ .tup xs) (nz:∀ o y,v ≠ .frz o (.own y)) (x:ObjOk P w H h d u):ObjOk P w (upd H d v') h d u :=
 x.stay (fun _ _ _ z=>z) (fun c z=>by rw [upd_ne (fun y=>by subst y; rw [hd] at z; exact no _ (Option.some.inj z))]; exact z) (fun c xs z=>by rw [upd_ne (fun y=>by subst y; rw [hd] at z; exact nt _ (Option.some.inj z))]; exact z) (fun c ob z=>by rw [upd_ne (fun y=>by subst y; rw [hd] at z; exact nz _ _ (Option.some.inj z))]; exact z)
theorem Inv.retell {v':HO} {v:HO} (I:Inv X pins σ H s) (hd:H d=some v) (no:∀ y,v ≠ .own y) (nt:∀ xs,v ≠ .tup xs) (nz:∀ o y,v ≠ .frz o (.own y)) (nb:∀ ps,v ≠ .tbl ps) (nf:∀ o u,X.H₀ d ≠ some (.frz o u)) (new:ObjOk X.prog X.w (upd H d v') s.heap d v') :
  Inv X pins σ (upd H d v') s:=by
 have nd:∀ b,H b=none→b ≠ d:=fun b n z=>by subst z; rw [n] at hd; cases hd
 refine ⟨I.ok,I.os,I.bare,?_,I.loc,I.cell,?_,fun x c e=>?_,fun p hp=>?_,I.hok.retold hd no nt nz new,I.len⟩
 ·have b:=I.base
  refine ⟨b.keep,b.slot,fun c q e n hx=>?_,b.there,fun c xs e=>?_,fun c ob q e=>?_,fun c ps e=>?_⟩
  ·have z:=b.free c q e n hx
   rw [upd_ne (nd c z)]; exact z
  ·have z:=b.tups c xs e
   rw [upd_ne (fun y=>by subst y; rw [hd] at z; exact nt _ (Option.some.inj z))]; exact z
  ·have z:=b.frzs c ob q e
   rw [upd_ne (fun y=>by subst y; exact nf _ _ e)]; exact z
  ·obtain ⟨m,z⟩:=b.tbls c ps e
   exact ⟨m,by rw [upd_ne (fun y=>by subst y; rw [hd] at z; exact nb _ (Option.some.inj z))]; exact z⟩
 ·rw [upd_ne (nd _ I.free)]; exact I.free
 ·rw [upd_ne (nd _ (I.freeC x c e))]; exact I.freeC x c e
 ·obtain ⟨p1,p2,p3⟩:=I.pin p hp
  exact ⟨p1,by rw [upd_ne (nd _ p2)]; exact p2,p3⟩
theorem Inv.notFrz (I:Inv X pins σ H s) {v:HO} (hd:H d=some v) (n:∀ o u,v ≠ .frz o u):∀ o u,X.H₀ d ≠ some (.frz o u):=fun o u z=>by
 have:=I.base.frzs d o u z
 rw [hd] at this
 exact n _ _ (Option.some.inj this)
theorem Inv.freeze (I:Inv X pins σ H s) (hd:H d=some u) (hu:isDct u=true) (ho:s.heap.get? d=some o):Inv X pins σ (upd H d (.frz o u)) s:=by
 have n1:∀ y,u ≠ .own y:=fun y z=>by subst z; cases hu
 have n2:∀ xs,u ≠ .tup xs:=fun y z=>by subst z; cases hu
 have n3:∀ o y,u ≠ .frz o (.own y):=fun o y z=>by subst z; cases hu
 refine I.retell hd n1 n2 n3 (fun y z=>by subst z; cases hu) (I.notFrz hd fun _ _ z=>by subst z; cases hu) ⟨ho,objOk_retold hd n1 n2 n3 (I.hok d u hd)⟩
theorem Inv.thaw (I:Inv X pins σ H s) (hd:H d=some (.frz o u)) (nf:∀ o u,X.H₀ d ≠ some (.frz o u)) (nu:∀ y,u ≠ .own y:=by exact fun _ z=>nomatch z):Inv X pins σ (upd H d u) s:=by
 obtain ⟨_,q⟩:=I.hok d _ hd
 have n3:∀ o' y,HO.frz o u ≠ .frz o' (.own y):=fun o' y z=>nu y (HO.frz.inj z).2
 exact I.retell hd (fun _ z=>nomatch z) (fun _ z=>nomatch z) n3 (fun _ z=>nomatch z) nf (objOk_retold hd (fun _ z=>nomatch z) (fun _ z=>nomatch z) n3 q)
end
theorem Same.thaw {H H':Hp} {d:Addr} {o:Obj} {u:HO} (hd:H d=some u) (h:Same (upd H d (.frz o u)) H'):Same H (upd H' d u):=fun b q e=>by
 by_cases hb:b=d
 ·subst hb; rw [hd] at e; cases e; exact upd_same
 ·rw [upd_ne hb]; exact h b q (by rw [upd_ne hb]; exact e)
def Itd (d:Addr) (o:Obj) (kvs:List (Key×V)):It :=
 ⟨fun i H=>H d=some (.frz o (.dK kvs))∧i < kvs.length,fun i H x H'=>H'=H∧∃ kv,kvs[i]? = some kv∧x=kV kv.1,fun i H=>H d=some (.frz o (.dK kvs))∧kvs.length ≤ i⟩
theorem kV_of {P:Program} {w:World} {k:Key} {u:Value} (h:(mixKind P w).is k u=true):RelV (kV k) u:=by
 rcases keyIs_shape (show keyIs k u=true from h) with ⟨i,t,rfl,rfl⟩ | ⟨x,t,rfl,rfl⟩
 ·exact ⟨t,rfl⟩
 ·exact ⟨t,rfl⟩
theorem KV.get {kvs:List (Key×V)} {vs:List (Key×Value)} {i:Nat} {kv:Key×V} (r:KV kvs vs) (h:kvs[i]? = some kv):∃ u,vs[i]? = some (kv.1,u)∧RelV kv.2 u:=by
 obtain ⟨q,h1,h2,h3⟩:=Paired.get r h
 exact ⟨q.2,by rw [h1,h2],h3⟩
theorem turn_keys {P:Program} {w:World} {K:PySem.W.Frag} {tg:Expr} {d:Addr} {o:Obj} {kvs:List (Key×V)} {vs:List (Key×Value)} {ep:Nat} (it:Addr) (hk:KV kvs vs)
  (hD:∀ h:Heap,h.get? d=some o→h.DictAt (mixKind P w) d vs ep):Turn P w K tg (Itd d o kvs) [it] it (fun i h=>h.IsKeyIter it d i vs.length ep) where
 mem:=by simp
 obj:=fun i h st b hb=>by
  have e:b=it:=by simpa using hb
  subst e
  obtain ⟨ob,e,c,dd⟩:=st
  exact ⟨ob,e,fun v z=>by rw [dd] at z; cases z⟩
 keep:=fun i h h' st k=>st.at fun ob e=>k it (by simp) ob e
 item:=by
  intro X hP hw hK hc i pins s σ H E I hf st hg
  subst hP hw hK
  obtain ⟨hq,hlt⟩:=hg
  obtain ⟨f0,f1,f2,f3,f4,f5⟩:=hf it (by simp)
  have hdo:s.heap.get? d=some o:=(I.hok d _ hq).1
  obtain ⟨u,hu,_⟩:=hk.get (i:=i) (kv:=kvs[i]) (by simp [hlt])
  refine wpAny_pyNext_dict_item (knd:=mixKind X.prog X.w) st (hD _ hdo) hu fun key h' hkey st' sb=>?_
  have I1:Inv X pins σ H { s with heap:=h' }:=I.turned (t':=s.toks) (fun b o hb e=>(sb.2 b hb).trans e) f0 f1 f3 f4 f5
  obtain ⟨ob,e,c,dd⟩:=id st'
  exact ⟨key,rfl,go_of (s:={ s with heap:=h' }) e c dd (by decide) ⟨kV kvs[i].1,H,I1,kV_of hkey,⟨rfl,kvs[i],by simp [hlt],rfl⟩,st',fun b hb=>(hf b hb).1⟩⟩
 done:=by
  intro X hP hw hK hc i pins s σ H E I hf st hg
  subst hP hw hK
  obtain ⟨hq,hle⟩:=hg
  obtain ⟨f0,f1,f2,f3,f4,f5⟩:=hf it (by simp)
  have hdo:s.heap.get? d=some o:=(I.hok d _ hq).1
  have hl:=KV.length hk
  exact wpAny_pyNext_dict_end (knd:=mixKind X.prog X.w) (I.ok.hd hc) st (hD _ hdo) (List.getElem?_eq_none (by omega)) fun h' eb=>⟨rfl,I.turned (t':=s.toks) (fun b o hb e=>eb b o hb e) f0 f1 f3 f4 f5⟩
 self:=fun _ _ _ _ _ st h=>wpAny_pyIter_keyiter st h
def NF (X:Cx) (d:Addr) (u:HO):Prop:=(∀ o u,X.H₀ d ≠ some (.frz o u))∧∀ y,u ≠ .own y
def Thawed (X:Cx) (Q:Hp→Prop) (H:Hp):Prop:=∃ d o u,H d=some (.frz o u)∧NF X d u∧Q (upd H d u)
theorem Thawed.run {X:Cx} {pins:List (Addr×Obj)} {σ:St} {H:Hp} {s:Shared} {Q:Hp→Prop} (I:Inv X pins σ H s) (h:Thawed X Q H):∃ H',Inv X pins σ H' s∧Q H':=by
 obtain ⟨d,o,u,hd,nf,q⟩:=h
 exact ⟨_,I.thaw hd nf.1 nf.2,q⟩
def iKeys (X:Cx) (tl:TE):TI:=fun σ H R=>tl σ H fun x H1=>∃ d kvs,x=.ref d∧H1 d=some (.dK kvs)∧∀ o,NF X d (.dK kvs)→R (Itd d o kvs) (upd H1 d (.frz o (.dK kvs)))
def iKeysF (tl:TE):TI:=fun σ H R=>tl σ H fun x H1=>∃ d o kvs,x=.ref d∧H1 d=some (.frz o (.dK kvs))∧R (Itd d o kvs) H1
theorem dictAt_of {P:Program} {w:World} {h:Heap} {d:Addr} {o:Obj} {vs:List (Key×Value)} (x:h.DictOf (mixKind P w) d vs) (ho:h.get? d=some o):∃ ep,∀ h':Heap,h'.get? d=some o→h'.DictAt (mixKind P w) d vs ep:=by
 obtain ⟨o',es,ep,e,r⟩:=x
 rw [ho] at e
 cases e
 exact ⟨ep,fun h' e'=>⟨o,es,e',r⟩⟩
theorem pi_keys {X:Cx} {tg l:Expr} {tl:TE} (hl:PE X l tl):PI X tg l (iKeys X tl):=by
 intro pins s σ H R I h
 refine thn (hl pins s σ H _ I h) fun v s1 ⟨y,H1,I1,r1,q1⟩=>?_
 obtain ⟨d,kvs,rfl,hd,q⟩:=q1
 cases r1
 obtain ⟨hz,hs,vs,kv,dd⟩:=dk_of I1.hok hd
 obtain ⟨o,_,_,ho,_⟩:=id dd
 obtain ⟨ep,hD⟩:=dictAt_of dd ho
 have I2:=I1.freeze hd rfl ho
 refine wpAny_pyIter_dict (knd:=mixKind X.prog X.w) hs (hD _ ho) ?_
 have I3:Inv X pins σ (upd H1 d (.frz o (.dK kvs))) { s1 with heap:=s1.heap.push { cls:=.type "dict_keyiterator",data:=.fields #[.ref d,.int 0 0,.int vs.length 0,.int ep 0] } }:=I2.kept (t':=s1.toks) fun b o e=>Heap.get?_push_of_some _ e
 refine ⟨s1.heap.objs.size,[s1.heap.objs.size],_,_,_,rfl,I3,turn_keys _ kv hD,⟨_,Heap.get?_push_size _ rfl,rfl,rfl⟩,fun b hb=>?_,q o ⟨I1.notFrz hd (fun _ _ z=>nomatch z),fun _ z=>nomatch z⟩⟩
 have e:b=s1.heap.objs.size:=by simpa using hb
 subst e
 exact I2.fpOk (Nat.le_refl _) (I2.hok.fresh (Nat.le_refl _))
def tThaw (X:Cx) (t:TS):TS:=fun D σ H=>t { nx:=fun σ'=>Thawed X (D.nx σ'),rt:=fun v=>Thawed X (D.rt v),bk:=fun σ'=>Thawed X (D.bk σ'),ct:=fun σ'=>Thawed X (D.ct σ') } σ H
theorem ps_thaw {X:Cx} {st:Stmt} {t:TS} (h:PS X st t):PS X st (tThaw X t):=by
 intro pins s σ H D I hq
 refine thn (h pins s σ H _ I hq) fun f s' z=>?_
 cases f with
 | next=>obtain ⟨σ',H',I',q⟩:=z; obtain ⟨H2,I2,q2⟩:=q.run I'; exact ⟨σ',H2,I2,q2⟩
 | brk=>obtain ⟨σ',H',I',q⟩:=z; obtain ⟨H2,I2,q2⟩:=q.run I'; exact ⟨σ',H2,I2,q2⟩
 | cont=>obtain ⟨σ',H',I',q⟩:=z; obtain ⟨H2,I2,q2⟩:=q.run I'; exact ⟨σ',H2,I2,q2⟩
 | ret u=>obtain ⟨v,σ',H',I',r,q⟩:=z; obtain ⟨H2,I2,q2⟩:=q.run I'; exact ⟨v,σ',H2,I2,r,q2⟩
def tThawE (X:Cx) (t:TE):TE:=fun σ H Q=>t σ H fun v=>Thawed X (Q v)
theorem pe_thaw {X:Cx} {e:Expr} {t:TE} (h:PE X e t):PE X e (tThawE X t):=by
 intro pins s σ H Q I hq
 refine thn (h pins s σ H _ I hq) fun u s' ⟨v,H',I',r,q⟩=>?_
 obtain ⟨H2,I2,q2⟩:=q.run I'
 exact ⟨v,H2,I2,r,q2⟩
theorem for_keys {d:Addr} {o:Obj} {kvs:List (Key×V)} {g:TG} {tb:TS} {D:Ends} {σ:St} {H:Hp} (Pv:Nat→St→Hp→Prop) (h0:Pv 0 σ H) (hl:∀ i σ H,i ≤ kvs.length→Pv i σ H→H d=some (.frz o (.dK kvs)))
  (hs:∀ i kv σ H,kvs[i]? = some kv→Pv i σ H→g (kV kv.1) σ H fun σ2 H2=>tb { D with nx:=Pv (i + 1),ct:=Pv (i + 1),bk:=D.nx } σ2 H2) (hd:∀ σ H,Pv kvs.length σ H→D.nx σ H) :
  ∃ W:Nat→Nat→St→Hp→Prop,(∃ m,W 0 m σ H)∧∀ i m σ H,W i m σ H →
   ((Itd d o kvs).stop i H∧D.nx σ H)∨((Itd d o kvs).go i H∧∃ N:St→Hp→Prop,(∀ σ' H',N σ' H'→∃ m',m' < m∧W (i + 1) m' σ' H')∧∀ x H',(Itd d o kvs).yld i H x H'→g x σ H' fun σ2 H2=>tb { D with nx:=N,ct:=N,bk:=D.nx } σ2 H2):=by
 refine ⟨fun i m σ H=>m=kvs.length - i∧i ≤ kvs.length∧Pv i σ H,⟨kvs.length,by simp,Nat.zero_le _,h0⟩,?_⟩
 rintro i m σ H ⟨rfl,hi,p⟩
 have q:=hl i σ H hi p
 by_cases hlt:i < kvs.length
 ·refine .inr ⟨⟨q,hlt⟩,Pv (i + 1),fun σ' H' p'=>⟨kvs.length - (i + 1),by omega,rfl,hlt,p'⟩,fun x H' y=>?_⟩
  obtain ⟨e,kv,hkv,ex⟩:=y
  subst e ex
  exact hs i kv σ _ hkv p
 ·have e:i=kvs.length:=by omega
  subst e
  exact .inl ⟨⟨q,Nat.le_refl _⟩,hd σ H p⟩
section
variable {X:Cx} {pins:List (Addr×Obj)} {σ:St} {H:Hp} {s:Shared}
theorem Inv.turnedNew {ch:List Addr} {o:HO} {h':Heap} {t':Nat} (I:Inv X pins σ H s) (hf:∀ b ∈ ch,FpOk X pins H b) (k:∀ b u,b ∉ ch→s.heap.get? b=some u→h'.get? b=some u)
  (new:ObjOk X.prog X.w (upd H s.heap.objs.size o) h' s.heap.objs.size o):Inv X pins σ (upd H s.heap.objs.size o) { s with heap:=h',toks:=t' }:=by
 have hn:H s.heap.objs.size=none:=I.fresh
 have old:∀ b u,s.heap.get? b=some u→b ≠ s.heap.objs.size:=fun b u e=>Nat.ne_of_lt (Heap.lt_size e)
 have trk:∀ b u,H b=some u→b ∉ ch:=fun b u e z=>by rw [(hf b z).1] at e; cases e
 refine I.step (g':=s.gens) (d':=s.drawn) (ch:=ch) (fun b hb=>?_) (fun b o _ _ hc e _=>k b o hc e) (fun b o _ _ hc e _=>⟨o.slots,k b o hc e⟩) (fun b o _ e n=>by rw [upd_ne (old b o e)]; exact n)
  (fun b o hc e=>⟨o,k b o hc e⟩) (fun b xs e=>by rw [upd_ne (ne_of_none e hn)]; exact e) (fun b ob u e=>by rw [upd_ne (ne_of_none e hn)]; exact e) (fun b ps e=>⟨#[],by rw [upd_ne (ne_of_none e hn),e]; simp⟩) (fun m hm=>?_) (fun b u e=>?_) I.bare
 ·obtain ⟨f0,f1,f2,f3,f4,f5⟩:=hf b hb
  exact ⟨f3,f1,f4,f5⟩
 ·obtain ⟨ob,es,ep,ho,r⟩:=hm
  exact ⟨ob,es,ep,k _ ob (fun z=>(hf _ z).2.1 rfl) ho,r⟩
 ·by_cases hb:b=s.heap.objs.size
  ·subst hb; rw [upd_same] at e; cases e; exact new
  ·rw [upd_ne hb] at e
   refine (I.hok b u e).stay (fun c v hc q=>k c v ?_ q) (fun c q=>by rw [upd_ne (ne_of_none q hn)]; exact q) fun c xs q=>by rw [upd_ne (ne_of_none q hn)]; exact q
   rcases hc with z | z
   ·rw [z]; exact trk b u e
   ·exact trk c _ z
end
def Ite (K:PySem.W.Frag) (l:Addr):It :=
 ⟨fun i H=>∃ xs x,SqL K H l xs∧xs[i]? = some x,fun i H x H'=>∃ p y,x=.ref p∧H p=none∧H'=upd H p (.tup [.int (i:Nat),y])∧∀ xs,SqL K H l xs→xs[i]? = some y,fun i H=>∃ xs,SqL K H l xs∧xs.length ≤ i⟩
theorem turn_enum {P:Program} {w:World} {K:PySem.W.Frag} {elts:List Expr} {x1:Nat} {pos:Pos} {l:Addr} (e it:Addr) (hne:e ≠ it) :
  Turn P w K (.Tuple elts x1 pos) (Ite K l) [e,it] e (fun i h=>(∃ old,IsEnum h e it (i:Nat) old)∧h.IsListIter it l i) where
 mem:=by simp
 obj:=fun i h st b hb=>by
  obtain ⟨⟨old,he⟩,hi⟩:=st
  rcases List.mem_cons.mp hb with rfl | hb
  ·exact ⟨_,he,fun v z=>nomatch z⟩
  ·have q:b=it:=by simpa using hb
   subst q
   obtain ⟨o,e,c,d⟩:=hi
   exact ⟨o,e,fun v z=>by rw [d] at z; cases z⟩
 keep:=fun i h h' st k=>by
  obtain ⟨⟨old,he⟩,hi⟩:=st
  exact ⟨⟨old,k e (by simp) _ he⟩,hi.at fun o q=>k it (by simp) o q⟩
 item:=by
  intro X hP hw hK hc i pins s σ H E I hf st hg
  subst hP hw hK
  obtain ⟨⟨old,he⟩,hi⟩:=st
  obtain ⟨xs,x,hq,hx⟩:=hg
  obtain ⟨its,rv,p,hz⟩:=I.list hq
  obtain ⟨u,hu,ru⟩:=rv.get hx
  refine wpAny_pyNext_enum_item he hi p.isList (x:=u) (by simpa using hu) hne fun h' ho hi' ht hsz kk=>?_
  refine ⟨_,rfl,wpAny_letOwnedTupleGo_enum ho fun h2 he2 sb=>?_⟩
  have hel:e < s.heap.objs.size:=Heap.lt_size he
  have hil:it < s.heap.objs.size:=let ⟨o,q,_⟩:=hi; Heap.lt_size q
  have k2:∀ b v,b ∉ [e,it]→s.heap.get? b=some v→h2.get? b=some v:=fun b v hb q=>by
   have b1:b ≠ e:=fun z=>hb (by simp [z])
   have b2:b ≠ it:=fun z=>hb (by simp [z])
   exact (sb.2 b b1).trans (kk b v b1 b2 q)
  have htup:h2.get? s.heap.objs.size=some { cls:=.type "tuple",data:=.seq #[.int i s.toks,u] }:=(sb.2 _ (Nat.ne_of_gt hel)).trans ht
  have new:ObjOk X.prog X.w (upd H s.heap.objs.size (.tup [.int (i:Nat),x])) h2 s.heap.objs.size (.tup [.int (i:Nat),x]) :=
   ⟨sz (by simp),[.int i s.toks,u],.cons ⟨_,rfl⟩ (.cons ru .nil),⟨_,htup,rfl,_,rfl⟩⟩
  refine ⟨.ref s.heap.objs.size,_,I.turnedNew (t':=s.toks + 1) hf k2 new,rfl,⟨_,x,rfl,I.fresh,rfl,fun ys hy=>by rw [I.list_inj hy hq]; exact hx⟩,⟨⟨_,he2⟩,?_⟩,fun b hb=>?_⟩
  ·exact hi'.at fun o q=>(sb.2 it hne.symm).trans q
  ·rw [upd_ne ?_]
   ·exact (hf b hb).1
   ·rcases List.mem_cons.mp hb with rfl | hb
    ·exact Nat.ne_of_lt hel
    ·have q:b=it:=by simpa using hb
     subst q
     exact Nat.ne_of_lt hil
 done:=by
  intro X hP hw hK hc i pins s σ H E I hf st hg
  subst hP hw hK
  obtain ⟨⟨old,he⟩,hi⟩:=st
  obtain ⟨xs,hq,hx⟩:=hg
  obtain ⟨its,rv,p,hz⟩:=I.list hq
  obtain ⟨f0,f1,f2,f3,f4,f5⟩:=hf it (by simp)
  have hl:=rv.length
  exact wpAny_pyNext_enum_end (I.ok.hd hc) he hi p.isList (by simp; omega) fun h' eb=>⟨rfl,I.turned (t':=s.toks) (fun b o hb e=>eb b o hb e) f0 f1 f3 f4 f5⟩
 self:=fun _ _ _ _ _ st h=>by
  obtain ⟨⟨old,he⟩,_⟩:=st
  exact wpAny_pyIter_enum he h
def iEnum (K:PySem.W.Frag) (ta:TA):TI:=fun σ H R=>ta σ H fun vs H1=>∃ l,vs=[.ref l]∧(∃ xs,SqL K H1 l xs)∧R (Ite K l) H1
theorem pi_enum {X:Cx} {elts:List Expr} {x1:Nat} {tpos:Pos} {a:Expr} {ta:TA} {p pos:Pos} (hg:Gl X "enumerate") (hm:X.mg "enumerate" = none) (ha:PA X [a] ta) (hs:starEach [a] X.env=[(false,eval a X.env)]:=by rfl) :
  PI X (.Tuple elts x1 tpos) (.Call (.Name "enumerate" p) [a] [] pos) (iEnum X.K ta):=by
 intro pins s σ H R I h
 refine Call_ (ld_blt I hg hm boot_enumerate (PyProof.Rows.callWith_type1 (thn (ha pos pins s σ H _ I h) fun us s1 ⟨vs,H1,I1,r1,q1⟩=>?_) hs rfl))
 obtain ⟨l,e,⟨xs,hq⟩,q⟩:=q1
 subst e
 obtain ⟨u,rfl,ru⟩:=vals1 r1
 cases ru
 obtain ⟨its,rv,pl,hz⟩:=I1.list hq
 refine call_enumerate_list pl.isList fun h' he hi hsz kk=>wpAny_pyIter_enum he ?_
 have I2:Inv X pins σ H1 { s1 with heap:=h' }:=I1.kept (t':=s1.toks) kk
 refine ⟨s1.heap.objs.size + 1,[s1.heap.objs.size + 1,s1.heap.objs.size],_,_,H1,rfl,I2,turn_enum _ _ (Nat.succ_ne_self _),⟨⟨_,he⟩,hi⟩,fun b hb=>?_,q⟩
 rcases List.mem_cons.mp hb with rfl | hb
 ·exact I1.fpOk (Nat.le_succ _) (I1.hok.fresh (Nat.le_succ _))
 ·have e:b=s1.heap.objs.size:=by simpa using hb
  subst e
  exact I1.fpOk (Nat.le_refl _) (I1.hok.fresh (Nat.le_refl _))
theorem for_enum {K:PySem.W.Frag} {l:Addr} {xs:List V} {g:TG} {tb:TS} {D:Ends} {σ:St} {H:Hp} (Pv:Nat→St→Hp→Prop) (h0:Pv 0 σ H) (hl:∀ i σ H,i ≤ xs.length→Pv i σ H→SqL K H l xs)
  (hs:∀ i x σ H,xs[i]? = some x→Pv i σ H→∀ p H1,Same H H1→H p=none→H1 p=some (.tup [.int (i:Nat),x])→g (.ref p) σ H1 fun σ2 H2=>tb { D with nx:=Pv (i + 1),ct:=Pv (i + 1),bk:=D.nx } σ2 H2) (hd:∀ σ H,Pv xs.length σ H→D.nx σ H) :
  ∃ W:Nat→Nat→St→Hp→Prop,(∃ m,W 0 m σ H)∧∀ i m σ H,W i m σ H →
   ((Ite K l).stop i H∧D.nx σ H)∨((Ite K l).go i H∧∃ N:St→Hp→Prop,(∀ σ' H',N σ' H'→∃ m',m' < m∧W (i + 1) m' σ' H')∧∀ x H',(Ite K l).yld i H x H'→g x σ H' fun σ2 H2=>tb { D with nx:=N,ct:=N,bk:=D.nx } σ2 H2):=by
 refine ⟨fun i m σ H=>m=xs.length - i∧i ≤ xs.length∧Pv i σ H,⟨xs.length,by simp,Nat.zero_le _,h0⟩,?_⟩
 rintro i m σ H ⟨rfl,hi,p⟩
 have q:=hl i σ H hi p
 by_cases hlt:i < xs.length
 ·refine .inr ⟨⟨xs,xs[i],q,by simp [hlt]⟩,Pv (i + 1),fun σ' H' p'=>⟨xs.length - (i + 1),by omega,rfl,hlt,p'⟩,fun x H' y=>?_⟩
  obtain ⟨a,y,e,hn,e2,hy⟩:=y
  subst e e2
  exact hs i y σ H (hy xs q) p a _ (Same.new hn) hn upd_same
 ·have e:i=xs.length:=by omega
  subst e
  exact .inl ⟨⟨xs,q,Nat.le_refl _⟩,hd σ H p⟩
def Iti (d:Addr) (o:Obj) (kvs:List (Key×V)):It :=
 ⟨fun i H=>H d=some (.frz o (.dK kvs))∧i < kvs.length,fun i H x H'=>∃ p kv,x=.ref p∧H p=none∧kvs[i]? = some kv∧H'=upd H p (.tup [kV kv.1,kv.2]),fun i H=>H d=some (.frz o (.dK kvs))∧kvs.length ≤ i⟩
theorem turn_items {P:Program} {w:World} {K:PySem.W.Frag} {elts:List Expr} {x1:Nat} {pos:Pos} {d:Addr} {o:Obj} {kvs:List (Key×V)} {vs:List (Key×Value)} {ep:Nat} (it:Addr) (hk:KV kvs vs)
  (hD:∀ h:Heap,h.get? d=some o→h.DictAt (mixKind P w) d vs ep):Turn P w K (.Tuple elts x1 pos) (Iti d o kvs) [it] it (fun i h=>∃ ok ov,IsItemIter h it d i vs.length ep ok ov) where
 mem:=by simp
 obj:=fun i h st b hb=>by
  have e:b=it:=by simpa using hb
  subst e
  obtain ⟨ok,ov,e⟩:=st
  exact ⟨_,e,fun v z=>nomatch z⟩
 keep:=fun i h h' st k=>by
  obtain ⟨ok,ov,e⟩:=st
  exact ⟨ok,ov,k it (by simp) _ e⟩
 item:=by
  intro X hP hw hK hc i pins s σ H E I hf st hg
  subst hP hw hK
  obtain ⟨ok,ov,hi⟩:=st
  obtain ⟨hq,hlt⟩:=hg
  have hdo:s.heap.get? d=some o:=(I.hok d _ hq).1
  obtain ⟨u,hu,ru⟩:=hk.get (i:=i) (kv:=kvs[i]) (by simp [hlt])
  refine wpAny_pyNext_items_item (knd:=mixKind X.prog X.w) hi (hD _ hdo) hu fun key h' hkey ho ht hsz kk=>?_
  refine ⟨_,rfl,wpAny_letOwnedTupleGo_items ho fun h2 he2 sb=>?_⟩
  have hel:it < s.heap.objs.size:=Heap.lt_size hi
  have k2:∀ b v,b ∉ [it]→s.heap.get? b=some v→h2.get? b=some v:=fun b v hb q=>by
   have b1:b ≠ it:=fun z=>hb (by simp [z])
   exact (sb.2 b b1).trans (kk b v b1 q)
  have htup:h2.get? s.heap.objs.size=some { cls:=.type "tuple",data:=.seq #[key,u] }:=(sb.2 _ (Nat.ne_of_gt hel)).trans ht
  have new:ObjOk X.prog X.w (upd H s.heap.objs.size (.tup [kV kvs[i].1,kvs[i].2])) h2 s.heap.objs.size (.tup [kV kvs[i].1,kvs[i].2]) :=
   ⟨sz (by simp),[key,u],.cons (kV_of hkey) (.cons ru .nil),⟨_,htup,rfl,_,rfl⟩⟩
  refine ⟨.ref s.heap.objs.size,_,I.turnedNew (t':=s.toks) hf k2 new,rfl,⟨_,kvs[i],rfl,I.fresh,by simp [hlt],rfl⟩,⟨_,_,he2⟩,fun b hb=>?_⟩
  have e:b=it:=by simpa using hb
  subst e
  rw [upd_ne (Nat.ne_of_lt hel)]
  exact (hf _ hb).1
 done:=by
  intro X hP hw hK hc i pins s σ H E I hf st hg
  subst hP hw hK
  obtain ⟨ok,ov,hi⟩:=st
  obtain ⟨hq,hle⟩:=hg
  obtain ⟨f0,f1,f2,f3,f4,f5⟩:=hf it (by simp)
  have hdo:s.heap.get? d=some o:=(I.hok d _ hq).1
  have hl:=KV.length hk
  exact wpAny_pyNext_items_end (knd:=mixKind X.prog X.w) (I.ok.hd hc) hi (hD _ hdo) (List.getElem?_eq_none (by omega)) fun h' eb=>⟨rfl,I.turned (t':=s.toks) (fun b o hb e=>eb b o hb e) f0 f1 f3 f4 f5⟩
 self:=fun _ _ _ _ _ st h=>by
  obtain ⟨ok,ov,hi⟩:=st
  exact PySem.W.kcp_self hi h
def iItems (X:Cx) (tl:TE):TI:=fun σ H R=>tl σ H fun x H1=>∃ d kvs,x=.ref d∧H1 d=some (.dK kvs)∧∀ o,NF X d (.dK kvs)→R (Iti d o kvs) (upd H1 d (.frz o (.dK kvs)))
theorem pi_items {X:Cx} {elts:List Expr} {x1:Nat} {tpos apos cpos:Pos} {o:Expr} {to:TE} (ho:PE X o to) (hbase:attributeBase o "items" X.env (eval o X.env)=eval o X.env:=by rfl) (hline:(apos.endLine == cpos.line)=true:=by rfl) :
  PI X (.Tuple elts x1 tpos) (.Call (.Attribute o "items" apos) [] [] cpos) (iItems X to):=by
 intro pins s σ H R I h
 refine wpAny_Call_method0_late hbase hline (thn (ho pins s σ H _ I h) fun v s1 ⟨y,H1,I1,r1,q1⟩=>?_)
 obtain ⟨d,kvs,rfl,hd,q⟩:=q1
 cases r1
 obtain ⟨hz,hs,vs,kv,dd⟩:=dk_of I1.hok hd
 obtain ⟨ob,_,_,hob,hex,_⟩:=id dd
 obtain ⟨ep,hD⟩:=dictAt_of dd hob
 refine ⟨"dict", "dict.items",PySem.F.plainAttrs_dict,PySem.F.slot_dict_items,PySem.F.type_dict_items,dd.typeIs,fun a e=>?_,Calls.callWith_builtin rfl (PySem.evalArgs_none ?_)⟩
 ·cases e
  exact ⟨ob,hob,hex.2.1⟩
 refine call_meetsIn PySem.F.slot_dict_items dd.typeIs PySem.F.entry_dict_items (PySem.F.args_dict_items_1 _) (meets_dict_items (mixKind X.prog X.w) d hs) ⟨⟨vs,dd⟩,?_⟩
 have I2:=I1.freeze hd rfl hob
 have I3:Inv X pins σ (upd H1 d (.frz ob (.dK kvs))) { s1 with heap:=s1.heap.push { cls:=.type "dict_items",data:=.fields #[.ref d] } }:=I2.kept (t':=s1.toks) fun b o e=>Heap.get?_push_of_some _ e
 refine wpAny_pyIter_items (knd:=mixKind X.prog X.w) (d:=d) ⟨_,Heap.get?_push_size _ rfl,rfl,rfl⟩ (hD _ (Heap.get?_push_of_some _ hob)) ?_
 refine ⟨_,[_],_,_,_,rfl,I3.kept (t':=s1.toks) fun b o e=>Heap.get?_push_of_some _ e,turn_items _ kv hD,⟨_,_,Heap.get?_push_size _ rfl⟩,fun b hb=>?_,q ob ⟨I1.notFrz hd (fun _ _ z=>nomatch z),fun _ z=>nomatch z⟩⟩
 have e:=List.mem_singleton.mp hb
 subst e
 exact I3.fpOk (Nat.le_refl _) (I3.hok.fresh (Nat.le_refl _))
theorem for_items {d:Addr} {o:Obj} {kvs:List (Key×V)} {g:TG} {tb:TS} {D:Ends} {σ:St} {H:Hp} (Pv:Nat→St→Hp→Prop) (h0:Pv 0 σ H) (hl:∀ i σ H,i ≤ kvs.length→Pv i σ H→H d=some (.frz o (.dK kvs)))
  (hs:∀ i kv σ H,kvs[i]? = some kv→Pv i σ H→∀ p H1,Same H H1→H p=none→H1 p=some (.tup [kV kv.1,kv.2])→g (.ref p) σ H1 fun σ2 H2=>tb { D with nx:=Pv (i + 1),ct:=Pv (i + 1),bk:=D.nx } σ2 H2) (hd:∀ σ H,Pv kvs.length σ H→D.nx σ H) :
  ∃ W:Nat→Nat→St→Hp→Prop,(∃ m,W 0 m σ H)∧∀ i m σ H,W i m σ H →
   ((Iti d o kvs).stop i H∧D.nx σ H)∨((Iti d o kvs).go i H∧∃ N:St→Hp→Prop,(∀ σ' H',N σ' H'→∃ m',m' < m∧W (i + 1) m' σ' H')∧∀ x H',(Iti d o kvs).yld i H x H'→g x σ H' fun σ2 H2=>tb { D with nx:=N,ct:=N,bk:=D.nx } σ2 H2):=by
 refine ⟨fun i m σ H=>m=kvs.length - i∧i ≤ kvs.length∧Pv i σ H,⟨kvs.length,by simp,Nat.zero_le _,h0⟩,?_⟩
 rintro i m σ H ⟨rfl,hi,p⟩
 have q:=hl i σ H hi p
 by_cases hlt:i < kvs.length
 ·refine .inr ⟨⟨q,hlt⟩,Pv (i + 1),fun σ' H' p'=>⟨kvs.length - (i + 1),by omega,rfl,hlt,p'⟩,fun x H' y=>?_⟩
  obtain ⟨a,kv,e,hn,hkv,e2⟩:=y
  subst e e2
  exact hs i kv σ H hkv p a _ (Same.new hn) hn upd_same
 ·have e:i=kvs.length:=by omega
  subst e
  exact .inl ⟨⟨q,Nat.le_refl _⟩,hd σ H p⟩
def SameV (K:PySem.W.Frag) (H:Hp) (x y:V):Prop:=(flatV x=true∧flatV y=true∧eqV x y=true)∨∃ n t,n ≤ 60∧Im K H n t x∧Im K H n t y
theorem SameV.eqAt {X:Cx} {pins:List (Addr×Obj)} {σ:St} {H:Hp} {s:Shared} {A:Around} {x y:V} {u v:Value} (I:Inv X pins σ H s) (h:SameV X.K H x y) (rx:RelV x u) (ry:RelV y v) (hu:A.units + 60 < cLine):SeqAt.EqAt A s u v true:=by
 rcases h with ⟨f1,f2,e⟩ | ⟨n,t,hn,i1,i2⟩
 ·exact eqAt_cast (eqAt_V rx ry f1 f2) e
 ·exact eqAt_cast (Im.eqAt I n A i1 i2 rx ry (by omega)) (decide_eq_true rfl)
def rEqK (K:PySem.W.Frag):R2:=fun x y H Q=>∃ a b ka kb,x=.ref a∧y=.ref b∧Rd H a (.dK ka)∧Rd H b (.dK kb)∧ka.length=kb.length∧(∀ kv ∈ ka,∃ v,valV kb kv.1=some v∧SameV K H kv.2 v)∧Q (.bl true) H
theorem op_eqK {X:Cx} (hu:X.A.units + 64 < cLine):OpR X (compareOp .Eq) (rEqK X.K):=by
 intro pins s σ H x y v u Q I rx ry h
 obtain ⟨a,b,ka,kb,rfl,rfl,ha,hb,hl,hall,q⟩:=h
 cases rx
 cases ry
 obtain ⟨_,sa,va,ra,da⟩:=dk_rd I.hok ha
 obtain ⟨_,sb,vb,rb,db⟩:=dk_rd I.hok hb
 have la:=KV.length ra
 have lb:=KV.length rb
 have hits:∀ {ka':List (Key×V)} {va':List (Key×Value)},KV ka' va'→(∀ kv ∈ ka',∃ v,valV kb kv.1=some v∧SameV X.K H kv.2 v)→PySem.W.KeqHits X.A.in1 s vb va' true:=by
  intro ka' va' r
  induction r with
  | nil=>intro _; exact .nil
  | cons r t ih =>
   rename_i p q l m
   intro hv
   obtain ⟨e1,r2⟩:=r
   obtain ⟨v,hv1,hv2⟩:=hv p List.mem_cons_self
   have hval:=KV.val rb p.1
   rw [hv1] at hval
   obtain ⟨y,hy,ry⟩:=RelO.some_of hval
   rw [e1] at hy
   have:=PySem.W.KeqHits.hit (k:=q.1) (v:=q.2) hy (hv2.eqAt (A:=X.A.in1) I r2 ry (by rw [in1_units]; omega)) (ih fun kv hkv=>hv kv (List.mem_cons_of_mem _ hkv))
   simpa using this
 refine PySem.W.keq_eq (knd:=mixKind X.prog X.w) sa sb da db (by omega) (fun _=>hits ra hall) ⟨.bl true,H,I,?_,q⟩
 rw [show (va.length == vb.length)=true by rw [← la,← lb,hl]; simp]
 rfl
def rEqX (K:PySem.W.Frag):R2:=fun x y H Q=>rEq x y H Q∨rEqD K false x y H Q∨rEqK K x y H Q
def rNeX (K:PySem.W.Frag):R2:=fun x y H Q=>rNe x y H Q∨rEqD K true x y H Q
def rInX (K:PySem.W.Frag):R2:=fun x y H Q=>rIn K false x y H Q∨(∃ a o,y=.ref a∧DGet H a x o∧Q (.bl o.isSome) H)∨∃ i j,x=.str i∧y=.str j∧Q (.bl (!(Builtin.Str.occurrences j i 0 j.length 1).isEmpty)) H
def rNotInX (K:PySem.W.Frag):R2:=fun x y H Q=>rIn K true x y H Q∨∃ a o,y=.ref a∧DGet H a x o∧Q (.bl (!o.isSome)) H
def rLenX (K:PySem.W.Frag):List V→Hp→VK→Prop:=fun xs H Q=>(∃ p ys,xs=[.ref p]∧(SqL K H p ys∨SqT K H p ys)∧Q (.int ys.length) H)∨(∃ z,xs=[.str z]∧z.length ≤ sizeLine∧Q (.int z.length) H)∨∃ a kvs,xs=[V.ref a]∧H a=some (.dK kvs)∧Q (.int kvs.length) H
def rSlX (K:PySem.W.Frag):V→Option Int→Option Int→Hp→VK→Prop:=fun x lo hi H Q=>rSlTS K x lo hi H Q∨rSlLS K x lo hi H Q∨rSlS x lo hi H Q
section
variable {X:Cx} {k:Nat}
theorem oEqX (hr:Room k X.A):OpR X (compareOp .Eq) (rEqX X.K):=op_eq.or ((op_eqD hr.units).or (op_eqK hr.units))
theorem oLenX:CallR X (.builtin "len") (rLenX X.K):=call_len_seq.or (call_len_str.or call_lenD)
theorem oSlX:SlR X (rSlX X.K):=sl_tupS.or (sl_listS.or sl_str)
def rList (K:PySem.W.Frag):List V→Hp→VK→Prop:=fun xs H Q=>∃ p ys,xs=[.ref p]∧(SqL K H p ys∨SqT K H p ys)∧New H (.lst ys) Q
theorem call_listS:CallR X (.type "list") (rList X.K):=call_list_of.imp fun xs H Q ⟨p,ys,h1,h2,h3⟩=>⟨p,ys,h1,h2,fun l hl=>h3.at l hl⟩
def rDict:List V→Hp→VK→Prop:=fun xs H Q=>∃ p kvs,xs=[.ref p]∧Rd H p (.dK kvs)∧New H (.dK kvs) Q
def tDNewKS:TE:=fun _ H Q=>New H (.dK []) Q
theorem pe_dnewKS {pos:Pos}:PE X (.Dict [] [] pos) tDNewKS:=fun pins s σ H Q I h=>pe_dnewK pins s σ H Q I fun p hp=>h.at p hp
def tDNewTS:TE:=fun _ H Q=>New H (.dT []) Q
theorem pe_dnewTS {pos:Pos}:PE X (.Dict [] [] pos) tDNewTS:=fun pins s σ H Q I h=>pe_dnewT pins s σ H Q I fun p hp=>h.at p hp
def rAll (K:PySem.W.Frag):List V→Hp→VK→Prop:=fun xs H Q=>∃ (p:Addr) (bs:List Bool),xs=[.ref p]∧SqL K H p (bs.map V.bl)∧Q (.bl (bs.all id)) H
def rAny (K:PySem.W.Frag):List V→Hp→VK→Prop:=fun xs H Q=>∃ (p:Addr) (bs:List Bool),xs=[.ref p]∧SqL K H p (bs.map V.bl)∧Q (.bl (bs.any id)) H
theorem call_allX (hc:X.calm=true):CallR X (.builtin "all") (rAll X.K):=call_all_bools hc
def rIsi (K:PySem.W.Frag):List V→Hp→VK→Prop:=fun xs H Q=>∃ x c b t,xs=[x,c]∧TyOf K H x t∧((∃ n,c=.ty n∧PySem.W.kitOne K t (.type n)=some b)∨∃ a,c=.ref a∧PySem.W.kitOne K t (.ref a)=some b)∧Q (.bl b) H
theorem call_isiX:CallR X (.builtin "isinstance") (rIsi X.K):=call_isinst
end
theorem ps_setComp {X:Cx} {i:Nat} {y:Str} {py spos:Pos} {elt tg iter:Expr} {ifs:List Expr} {scope:Scope} {pos:Pos} {cl:List (Str×Addr)} {N':List Str} {fr:St→St} {wi:TI} {g:TG} {tf:TT} {te:TE}
  (hN:X.N.Nodup) (hi':X.N[i]? = some y) (hy:Loc X.env.scope y) (hc:X.calm=true) (S:CompScope X scope cl N' fr) (hi:PI X tg iter wi) (hg:∀ s H C ex,PG (cxComp X scope cl N' s H C ex) tg g) (hf:∀ s H C ex,PF (cxComp X scope cl N' s H C ex) ifs tf)
  (he:∀ s H C ex,PE (cxComp X scope cl N' s H C ex) elt te) (hs:∀ x,foldedSetIterable iter X.env x=pure x:=by intro _; rfl)
  (hsw:swapsWith (.ListComp elt [⟨tg,iter,ifs,0⟩] scope pos) (some (.Name y py)) spos.line X.env=pure true:=by rfl) (hfn:X.fn y=true∨X.env.scope.names.lookup y=some .local:=by first | exact .inl rfl | exact .inr rfl | assumption) :
  PS X (.Assign [.Name y py] (.ListComp elt [⟨tg,iter,ifs,0⟩] scope pos) spos) (tAsg (tComp wi fr g tf te) (gName i)):=by
 intro pins s σ H D I h
 rw [exec_Assign_Name_used _ _ _ _ hsw]
 refine wpAny_bind (wpAny_standAt (wpAny_bind ?_))
 show wpAny _ X.A (do let _ ← comprehension (.ListComp elt [⟨tg,iter,ifs,0⟩] scope pos) scope X.env _ (newList []) false (eval iter X.env) (some (assign (.Name y py) X.env))) _ _ s
 refine wpAny_bind (wpAny_mono (wpAny_comprehension_free (use:=some (assign (.Name y py) X.env)) (Q:=fun _ s'=>∃ σ' H',Inv X pins σ' H' s'∧D.nx σ' H') rfl hs S.clos S.kind S.names (thn (hi pins s σ H _ I h) fun v s1 h1=>thn h1 fun itv s2 h2=>?_)) (fun _ s' hq=>wpAny_pure (wpAny_pure hq)) fun _ _ e=>e)
 obtain ⟨it,fp,tn,J,H2,e,I2,T,st2,f2,q⟩:=h2
 subst e
 refine wpAny_newObj_type (wpAny_newFunctionEnv S.cell (by intro y hy; simp at hy) (fun h₁ hns₁ hsb₁=>?_) S.kind)
 dsimp only at hns₁ hsb₁ ⊢
 generalize hP:s2.heap.push { cls:=.type "list",dict:=none,data:=.seq ([]:List Value).toArray }=P at hns₁ hsb₁ ⊢
 have hPz:P.objs.size=s2.heap.objs.size + 1:=by rw [← hP,Heap.size_push]
 have hCD:s2.heap.objs.size < P.objs.size:=by rw [hPz]; exact Nat.lt_succ_self _
 have ho2:∀ b ∈ fp,∃ o,s2.heap.get? b=some o:=fun b hb=>let ⟨o,e,_⟩:=T.obj _ _ st2 b hb; ⟨o,e⟩
 have below:∀ b,b < s2.heap.objs.size→b ≠ P.objs.size:=fun b hb=>Nat.ne_of_lt (Nat.lt_trans hb hCD)
 have old:∀ b o,s2.heap.get? b=some o→h₁.get? b=some o:=fun b o e=>hsb₁.extBut b o (below b (Heap.lt_size e)) (Heap.get?_push_of_some _ (hP ▸ Heap.get?_push_of_some _ e))
 have hacc:h₁.get? s2.heap.objs.size=some { cls:=.type "list",data:=.seq ([]:List Value).toArray 0 }:=hsb₁.extBut _ _ (Nat.ne_of_lt hCD) (Heap.get?_push_of_some _ (hP ▸ Heap.get?_push_size _ rfl))
 have fD:H2 s2.heap.objs.size=none:=I2.hok.fresh (Nat.le_refl _)
 obtain ⟨W,⟨m0,w0⟩,turn⟩:=q s2.heap.objs.size fD
 have hz:h₁.objs.size ≤ P.objs.size + 1:=by
  have e:=hsb₁.1
  rw [Heap.size_push] at e
  exact Nat.le_of_eq e
 have st1:tn 0 h₁:=T.keep _ _ _ st2 fun b hb o e=>old b o e
 have stat:∀ {pins':List (Addr×Obj)} {H':Hp},(∀ p ∈ pins',p.1 ∉ fp)→(∀ b ∈ fp,H' b=none)→∀ b ∈ fp,FpOk (cxComp X scope cl N' s2 H2 P.objs.size fp) pins' H' b:=fun {pins' H'} hp hn b hb=>by
  obtain ⟨o,e⟩:=ho2 b hb
  obtain ⟨_,f1,f2',f3,f4,f5⟩:=f2 b hb
  refine ⟨hn b hb,below b (Heap.lt_size e),fun z=>?_,.inl hb,fun x c h=>f4 x c (S.sub x c h),fun p hp' z=>?_⟩
  ·rcases List.mem_cons.mp (I2.stkSub b z) with q | q
   ·exact f1 q
   ·exact f2' q
  ·have hp2:p ∈ pins':=by simpa [cxComp] using hp'
   exact hp p hp2 (by rw [z]; exact hb)
 have loop:∀ s3:Shared,s3={ s2 with heap:=h₁,toks:=s2.toks + ([]:List (Str×Value)).length } →
   codeAny (model X.prog X.w) X.A (.compLoop (.ListComp elt [⟨tg,iter,ifs,0⟩] scope pos) 0 (.ref it) (.ref s2.heap.objs.size) (compEnvC scope cl P.objs.size X.env)) (compPost (model X.prog X.w) X.A X.xe (some (assign (.Name y py) X.env)) (fun _ s'=>∃ σ' H',Inv X pins σ' H' s'∧D.nx σ' H') (.ref s2.heap.objs.size) P.objs.size) s3:=by
  rintro s3 rfl
  have I3:Inv (cxComp X scope cl N' s2 H2 P.objs.size fp) [] (fr σ) (upd H2 s2.heap.objs.size (.lst [])) { s2 with heap:=h₁,toks:=s2.toks + ([]:List (Str×Value)).length }:=comp_start I2 S hCD rfl f2 ho2 old hacc hns₁ hz
  refine codeAny_compLoop_gen (fun n s'=>∃ i ys H',Inv (cxComp X scope cl N' s2 H2 P.objs.size fp) [] (fr σ) H' s'∧tn i s'.heap∧(∀ b ∈ fp,H' b=none)∧W i n ys H') ?_ m0 ⟨0,[],_,I3,st1,fun b hb=>?_,w0⟩
  ·rintro n s3 ⟨i,ys,H3,I3,st3,fr3,w3⟩
   rcases turn i n ys H3 w3 with ⟨stop,qn⟩ | ⟨go,N,hN,step⟩
   ·refine thn (T.done (cxComp X scope cl N' s2 H2 P.objs.size fp) rfl rfl rfl hc i [] s3 (fr σ) H3 _ I3 (stat (by simp) fr3) st3 stop) fun r s4 ⟨hr,I4⟩=>?_
    subst hr
    obtain ⟨m4,hn4,_⟩:=I4.loc
    obtain ⟨oC,esC,epC,hoC,hrC⟩:=id hn4
    have J0:Inv X pins σ H3 s4:=comp_end I2 hCD f2 I4 (h':=s4.heap) ⟨rfl,fun _ _=>rfl⟩
    have big:s2.heap.objs.size ≤ P.objs.size:=Nat.le_of_lt hCD
    have fC:H3 P.objs.size=none:=I4.free
    have okC:=I2.fpOk big fC
    have J1:Inv X (pins ++ [(P.objs.size,oC)]) σ H3 s4:=J0.pins_of fun p hp=>by
     rcases List.mem_append.mp hp with hp | hp
     ·exact J0.pin p (List.mem_append_right _ hp)
     ·have e:p=(P.objs.size,oC):=by simpa using hp
      subst e
      exact ⟨hoC,fC,okC.2.1,okC.2.2.1,fun v z=>by rw [hrC.1] at z; cases z⟩
    refine thn (pg_name hN hi' hy hfn (X:=X) (pos:=py) _ s4 σ H3 (.ref s2.heap.objs.size) (.ref s2.heap.objs.size) _ J1 rfl qn) fun _ s5 ⟨σ5,H5,I5,q5⟩=>?_
    obtain ⟨p1,p2,p3,p4,p5⟩:=I5.pin (P.objs.size,oC) (List.mem_append_right _ (List.mem_append_right _ (by simp)))
    exact ⟨m4,⟨oC,esC,epC,p1,hrC⟩,fun h' hs'=>⟨σ5,H5,(I5.unpinned).turned (t':=s5.toks) (it:=P.objs.size) (fun b o hb e=>(hs'.2 b hb).trans e) p2 p3 okC.2.2.2.1 okC.2.2.2.2.1 okC.2.2.2.2.2,q5⟩⟩
   ·refine thn (T.item (cxComp X scope cl N' s2 H2 P.objs.size fp) rfl rfl rfl hc i [] s3 (fr σ) H3 _ I3 (stat (by simp) fr3) st3 go) fun r s4 ⟨u,hr,h4⟩=>?_
    subst hr
    refine thn h4 fun _ s5 ⟨x,H5,I5,r5,y5,st5,fr5⟩=>?_
    have I5':=I5.pinned (stat (by simp) fr5) (T.obj _ _ st5)
    refine thn (hg s2 H2 P.objs.size fp _ s5 (fr σ) H5 x u _ I5' r5 (step x H5 y5)) fun _ s6 ⟨σ6,H6,I6,kp,q6⟩=>?_
    refine thn (hf s2 H2 P.objs.size fp _ s6 σ6 H6 _ I6 q6) fun ok s7 ⟨H7,I7,q7⟩=>?_
    have again:∀ {σ8:St} {H8:Hp} {s8:Shared} {ys8:List V},Keep (fr σ) σ8→Inv (cxComp X scope cl N' s2 H2 P.objs.size fp) ([] ++ pinsAt fp s5.heap) σ8 H8 s8→N ys8 H8 →
      ∃ m,m < n∧∃ i ys H',Inv (cxComp X scope cl N' s2 H2 P.objs.size fp) [] (fr σ) H' s8∧tn i s8.heap∧(∀ b ∈ fp,H' b=none)∧W i m ys H':=fun {σ8 H8 s8 ys8} kp8 I8 n8=>by
     obtain ⟨m',hm,w8⟩:=hN ys8 H8 n8
     refine ⟨m',hm,i + 1,ys8,H8,(I8.unpinned).weak (by rw [I8.len]; exact S.len σ I2.len) kp8,T.keep _ _ _ st5 fun b hb o e=>(I8.pin (b,o) (List.mem_append_right _ (List.mem_append_right _ (mem_pinsAt hb e)))).1,fun b hb=>?_,w8⟩
     obtain ⟨o,e,d⟩:=T.obj _ _ st5 b hb
     exact (I8.pin (b,o) (List.mem_append_right _ (List.mem_append_right _ (mem_pinsAt hb e)))).2.1
    cases ok with
    | false=>exact again kp I7 q7
    | true =>
     refine thn (he s2 H2 P.objs.size fp _ s7 σ6 H7 _ I7 q7) fun uy s8 ⟨y,H8,I8,r8,hD8,hz8,q8⟩=>?_
     exact thn (mt_append _ s8 σ6 H8 (.ref s2.heap.objs.size) [y] (.ref s2.heap.objs.size) [uy] (fun _ H9=>N (ys ++ [y]) H9) I8 rfl (.cons r8 .nil) ⟨_,ys,y,rfl,rfl,hD8,hz8,q8⟩) fun _ s9 ⟨v9,H9,I9,_,q9⟩=>again kp I9 q9
  ·show upd H2 s2.heap.objs.size (.lst []) b=none
   obtain ⟨o,e⟩:=ho2 b hb
   rw [upd_ne (Nat.ne_of_lt (Heap.lt_size e))]
   exact (f2 b hb).1
 exact codeAny_compStart_list (loop _ rfl) (T.self X.A 0 _ _ _ st1 (loop _ rfl))
theorem pg_tupC {X:Cx} {K:PySem.W.Frag} {es:List Expr} {k:Nat} {pos:Pos} {t:TGs} {n:Nat} (hK:X.K=K) (hc:X.calm=true) (h:PGs X es t)
  (hn:(assignEach es X.env).length=n:=by rfl) (hst:(assignEach es X.env).findIdx? (·.1)=none:=by rfl):PG X (.Tuple es k pos) (gTup K n t):=hK ▸ pg_tup hc h hn hst
end L2
end
section
namespace L2
open PySem PySem.Spec PyProof.Rows
def rListK:List V→Hp→VK→Prop:=fun xs H Q=>∃ p kvs,xs=[.ref p]∧Rd H p (.dK kvs)∧New H (.lst (kvs.map fun kv=>kV kv.1)) Q
theorem vals_keys {P:Program} {w:World}:∀ {kvs:List (Key×V)} {va:List (Key×Value)} {vs:List Value},KV kvs va→vs.length=va.length→(∀ (j:Nat) (v:Value),vs[j]? = some v→∃ (k:Key) (x:Value),va[j]? = some (k,x)∧(mixKind P w).is k v=true)→Vals (kvs.map fun kv=>kV kv.1) vs
 | [],_,[],.nil,_,_=>.nil
 | [],_,_ :: _,.nil,h,_=>by simp at h
 | p :: kvs,q :: va,[],.cons r t,h,_=>by simp at h
 | p :: kvs,q :: va,v :: vs,.cons r t,h,hv=>by
  obtain ⟨k,x,e,hk⟩:=hv 0 v rfl
  simp only [List.getElem?_cons_zero,Option.some.injEq] at e
  subst e
  rw [List.map_cons]
  refine .cons ?_ (vals_keys (P:=P) (w:=w) t (by simpa using h) fun j u hu=>by simpa using hv (j + 1) u (by simpa using hu))
  rw [r.1]
  exact kV_of hk
def rNeK (K:PySem.W.Frag):R2:=fun x y H Q=>∃ a b ka kb,x=.ref a∧y=.ref b∧Rd H a (.dK ka)∧Rd H b (.dK kb)∧ka.length=kb.length∧(∀ kv ∈ ka,∃ v,valV kb kv.1=some v∧SameV K H kv.2 v)∧Q (.bl false) H
theorem op_neK {X:Cx} (hu:X.A.units + 64 < cLine):OpR X (compareOp .NotEq) (rNeK X.K):=by
 intro pins s σ H x y v u Q I rx ry h
 obtain ⟨a,b,ka,kb,rfl,rfl,ha,hb,hl,hall,q⟩:=h
 cases rx
 cases ry
 obtain ⟨_,sa,va,ra,da⟩:=dk_rd I.hok ha
 obtain ⟨_,sb,vb,rb,db⟩:=dk_rd I.hok hb
 have la:=KV.length ra
 have lb:=KV.length rb
 have hits:∀ {ka':List (Key×V)} {va':List (Key×Value)},KV ka' va'→(∀ kv ∈ ka',∃ v,valV kb kv.1=some v∧SameV X.K H kv.2 v)→PySem.W.KeqHits X.A.in1 s vb va' true:=by
  intro ka' va' r
  induction r with
  | nil=>intro _; exact .nil
  | cons r t ih =>
   rename_i p q l m
   intro hv
   obtain ⟨e1,r2⟩:=r
   obtain ⟨v,hv1,hv2⟩:=hv p List.mem_cons_self
   have hval:=KV.val rb p.1
   rw [hv1] at hval
   obtain ⟨y,hy,ry⟩:=RelO.some_of hval
   rw [e1] at hy
   have:=PySem.W.KeqHits.hit (k:=q.1) (v:=q.2) hy (hv2.eqAt (A:=X.A.in1) I r2 ry (by rw [in1_units]; omega)) (ih fun kv hkv=>hv kv (List.mem_cons_of_mem _ hkv))
   simpa using this
 refine PySem.W.keq_ne (knd:=mixKind X.prog X.w) sa sb da db (by omega) (fun _=>hits ra hall) ⟨.bl false,H,I,?_,q⟩
 rw [show (va.length == vb.length)=true by rw [← la,← lb,hl]; simp]
 rfl
def rInD (K:PySem.W.Frag) (neg:Bool):R2:=fun x y H Q=>∃ (p:Addr) (n:Nat) (t:Tr) (ts:List Tr) (as:List Addr),y=.ref p∧SqL K H p (as.map V.ref)∧n ≤ 60∧Im K H n t x∧Paired (Im K H n) ts (as.map V.ref)∧Q (.bl (if neg then !decide (t ∈ ts) else decide (t ∈ ts))) H
noncomputable def hitU (K:PySem.W.Frag) (H:Hp) (n:Nat) (t:Tr) (u:Value):Bool:=match u with
 | .ref a=>@decide (Im K H n t (.ref a)) (Classical.propDecidable _)
 | _=>false
theorem any_hitU {X:Cx} {pins:List (Addr×Obj)} {σ:St} {H:Hp} {s:Shared} (I:Inv X pins σ H s) {n:Nat} {t:Tr}:∀ {ts:List Tr} {as:List Addr} {us:List Value},Paired (Im X.K H n) ts (as.map V.ref)→Vals (as.map V.ref) us→us.any (hitU X.K H n t)=decide (t ∈ ts)
 | [],[],_,_,v=>by rw [List.map_nil] at v; cases v; simp
 | [],a :: as,_,p,_=>by rw [List.map_cons] at p; cases p
 | t' :: ts,[],_,p,_=>by rw [List.map_nil] at p; cases p
 | t' :: ts,a :: as,us,p,v=>by
  rw [List.map_cons] at p v
  cases p with
  | cons i p =>
   cases v with
   | cons r v =>
    cases r
    rw [List.any_cons,any_hitU I p v,Bool.eq_iff_iff,Bool.or_eq_true]
    simp only [hitU,decide_eq_true_eq,List.mem_cons]
    constructor
    ·rintro (z | z)
     ·exact .inl (Im.inj I z i)
     ·exact .inr z
    ·rintro (z | z)
     ·exact .inl (z ▸ i)
     ·exact .inr z
theorem mem_hitU {X:Cx} {pins:List (Addr×Obj)} {σ:St} {H:Hp} {s:Shared} (I:Inv X pins σ H s) {n:Nat} {A:Around} (hu:A.units + n < cLine) {t:Tr} {x:V} {vx:Value} (hx:Im X.K H n t x) (rx:RelV x vx) :
  ∀ {ts:List Tr} {as:List Addr} {us:List Value},Paired (Im X.K H n) ts (as.map V.ref)→Vals (as.map V.ref) us→∀ u ∈ us,SeqAt.EqAt A s u vx (hitU X.K H n t u)
 | [],[],_,_,v=>by rw [List.map_nil] at v; cases v; simp
 | [],a :: as,_,p,_=>by rw [List.map_cons] at p; cases p
 | t' :: ts,[],_,p,_=>by rw [List.map_nil] at p; cases p
 | t' :: ts,a :: as,us,p,v=>by
  rw [List.map_cons] at p v
  cases p with
  | cons i p =>
   cases v with
   | cons r v =>
    cases r
    intro u hm
    rcases List.mem_cons.mp hm with e | e
    ·subst e
     refine eqAt_cast (Im.eqAt I n A i hx rfl rx hu) ?_
     simp only [hitU,decide_eq_decide]
     exact ⟨fun z=>z ▸ i,fun z=>(Im.inj I z i).symm⟩
    ·exact mem_hitU I hu hx rx p v u e
theorem op_inD {X:Cx} (hu:X.A.units + 64 < cLine):OpR X (compareOp .In) (rInD X.K false):=by
 intro pins s σ H x y v u Q I rx ry h
 obtain ⟨p,n,t,ts,as,rfl,hq,hn,hx,hp,q⟩:=h
 cases ry
 obtain ⟨its,r,pl,hz⟩:=I.list hq
 refine SeqAt.in_listAt (hitU X.K H n t) pl.isList (fun w hw=>mem_hitU I (by rw [in1_units]; omega) hx rx hp r w (by simpa using hw)) ⟨.bl _,H,I,rfl,?_⟩
 rw [show its.toArray.any (hitU X.K H n t)=its.any (hitU X.K H n t) by simp,any_hitU I hp r]
 exact q
theorem op_notInD {X:Cx} (hu:X.A.units + 64 < cLine):OpR X (compareOp .NotIn) (rInD X.K true):=by
 intro pins s σ H x y v u Q I rx ry h
 obtain ⟨p,n,t,ts,as,rfl,hq,hn,hx,hp,q⟩:=h
 cases ry
 obtain ⟨its,r,pl,hz⟩:=I.list hq
 refine SeqAt.notIn_listAt (hitU X.K H n t) pl.isList (fun w hw=>mem_hitU I (by rw [in1_units]; omega) hx rx hp r w (by simpa using hw)) ⟨.bl _,H,I,rfl,?_⟩
 rw [show its.toArray.any (hitU X.K H n t)=its.any (hitU X.K H n t) by simp,any_hitU I hp r]
 exact q
def tListRng (ta:TA):TE:=fun σ H Q=>ta σ H fun vs H1=>∃ (i j:Int) (n:Nat),vs=[.int i,.int j]∧(-(2 ^ 62) ≤ i∧i < 2 ^ 62∧-(2 ^ 62) ≤ j∧j < 2 ^ 62)∧(j - i).toNat=n∧n ≤ 1000∧New H1 (.lst ((List.range n).map fun k:Nat=>V.int (i + (k:Int)))) Q
section
variable {X:Cx} {k:Nat}
def rNeY (K:PySem.W.Frag):R2:=fun x y H Q=>rNe x y H Q∨rEqD K true x y H Q∨rNeK K x y H Q
theorem oNeY (hr:Room k X.A):OpR X (compareOp .NotEq) (rNeY X.K):=op_ne.or ((op_neD hr.units).or (op_neK hr.units))
def rInY (K:PySem.W.Frag):R2:=fun x y H Q=>rIn K false x y H Q∨(∃ a o,y=.ref a∧DGet H a x o∧Q (.bl o.isSome) H)∨(∃ i j,x=.str i∧y=.str j∧Q (.bl (!(Builtin.Str.occurrences j i 0 j.length 1).isEmpty)) H)∨rInD K false x y H Q
theorem oInY (hr:Room k X.A):OpR X (compareOp .In) (rInY X.K):=op_in_seq.or ((op_din (hu_of hr)).or (op_in_str.or (op_inD hr.units)))
def rNotInY (K:PySem.W.Frag):R2:=fun x y H Q=>rIn K true x y H Q∨(∃ a o,y=.ref a∧DGet H a x o∧Q (.bl (!o.isSome)) H)∨rInD K true x y H Q
theorem oNotInY (hr:Room k X.A):OpR X (compareOp .NotIn) (rNotInY X.K):=op_notIn_seq.or ((op_dnotin (hu_of hr)).or (op_notInD hr.units))
end
end L2
end
section
namespace L2
open PySem
def TrX (h base:Heap) (e:Addr) (cls a0:Value) (dx:Option Addr) (fl:Value):Prop :=
 ∃ oe vs T oT ts,h.get? e=some oe∧oe.cls=cls∧oe.dict=dx∧oe.data=.fields vs∧vs[0]? = some a0∧vs[1]? = some (.ref T)∧base.get? T=none∧T ≠ e∧h.get? T=some oT∧oT.data=.fields ts∧ts[3]? = some fl
def FlyX (base:Heap) (l:List Env) (e:Addr) (cls a0:Value) (dx:Option Addr) (fl:Value) (h:Heap):Prop:=base.StaysIn h∧base.get? e=none∧h.FunFrames base l∧TrX h base e cls a0 dx fl
theorem mapF_dict (f:Array Value→Array Value) (o:Obj):(Obj.mapFields f o).dict=o.dict:=by
 obtain ⟨c,d,dt,sl⟩:=o
 cases dt <;> rfl
theorem FlyX.there {base h:Heap} {l:List Env} {e:Addr} {cls a0 fl:Value} {dx:Option Addr} (x:FlyX base l e cls a0 dx fl h):∃ ob,h.get? e=some ob∧ob.cls=cls∧ob.dict=dx∧∃ vs,ob.data=.fields vs:=by
 obtain ⟨_,_,_,oe,vs,_,_,_,he,hc,hx,hd,_⟩:=x
 exact ⟨oe,he,hc,hx,vs,hd⟩
section
variable {M:Model} {A:Around} {E:Value→Shared→Prop} {s:Shared} {base:Heap} {env:Env} {outer l:List Env} {L e:Addr} {oe:Obj} {vs:Array Value} {head a0 cls fl:Value} {dx:Option Addr} {Q:Unit→Shared→Prop}
theorem entX {hadNext:Bool} (hfr:A.frames=some (env :: outer)) (hl:s.heap.FunFrames base (env :: outer)) (hf:env.frame=some L) (he:s.heap.get? e=some oe) (hkb:base.StaysIn s.heap) (hen:base.get? e=none) (hd:oe.data=.fields vs) (hsz:1 < vs.size)
  (h0:vs[0]? = some a0) (h:∀ h',FlyX base (env :: outer) e oe.cls a0 oe.dict (rawInt L) h'→s.heap.UpToSlots h'→Q () { s with heap:=h' }) :
  wpAny M A (do let a ← frameOf env; let pl ← entryPlaceOf L hadNext; let b ← EntryCells.newEntry head a .none (rawInt L) .none pl; setField (.ref e) 1 b) Q E s:=by
 have off:e ∉ (env :: outer).filterMap (·.frame):=fun z=>by
  obtain ⟨_,o,q,nf⟩:=hl.mem z
  rw [he] at q
  cases q
  exact nf vs hd
 refine wpAny_bind (wpAny_frameOf_fun hfr hl hf fun g so=>wpAny_bind (wpAny_entryPlaceOf fun pl hpl=>?_))
 unfold EntryCells.newEntry newFields
 refine wpAny_bind (wpAny_newObj_type ?_ (hpl.sizeOk5 _ _ _ _ _))
 have e1:g.get? e=some oe:=by rw [so.2.1 e off]; exact he
 have k1:base.StaysIn g:=fun b o q=>by
  rw [so.2.1 b fun z=>by rw [(hl.mem z).1] at q; cases q]
  exact hkb b o q
 generalize hT:({ cls:=.type "traceback",dict:=none,data:=.fields ([head,.ref L,.none,rawInt L,.none] ++ (if pl.isEmpty then List.replicate 6 Value.none else pl)).toArray }:Obj)=oT
 have e2:(g.push oT).get? e=some oe:=Heap.get?_push_of_some _ e1
 have nT:g.objs.size ≠ e:=Nat.ne_of_gt (Heap.lt_size e1)
 have t2:(g.push oT).get? g.objs.size=some oT:=Heap.get?_push_size g (by rw [← hT]; rfl)
 refine wpAny_setField e2 hd hsz (h _ ?_ ?_)
 ·have d3:=Obj.data_mapFields hd (·.setIfInBounds 1 (Value.ref g.objs.size))
  have e3:=Heap.get?_update_self (Obj.mapFields (·.setIfInBounds 1 (Value.ref g.objs.size))) e2 (Obj.isFreed_of_fields d3)
  have t3:((g.push oT).update e (Obj.mapFields (·.setIfInBounds 1 (Value.ref g.objs.size)))).get? g.objs.size=some oT:=by rw [Heap.get?_update_other _ _ nT.symm]; exact t2
  have old:∀ b o,b ≠ e→g.get? b=some o→((g.push oT).update e (Obj.mapFields (·.setIfInBounds 1 (Value.ref g.objs.size)))).get? b=some o:=fun b o nb q=>by
   rw [Heap.get?_update_other _ _ nb.symm]
   exact Heap.get?_push_of_some _ q
  refine ⟨fun b o q=>old b o (fun z=>by rw [z,hen] at q; cases q) (k1 b o q),hen,hl.of_keeps fun b o q nf=>?_,?_⟩
  ·obtain ⟨sl,z⟩:=so.2.2 b o q
   refine ⟨_,old b _ (fun y=>?_) z,rfl⟩
   rw [y,he] at q
   cases q
   exact nf vs hd
  ·refine ⟨_,_,g.objs.size,oT,_,e3,Obj.cls_mapFields _ _,mapF_dict _ _,d3,?_,by simp [hsz],k1.fresh,nT,t3,by rw [← hT],?_⟩
   ·rw [Array.getElem?_setIfInBounds_ne (by decide)]; exact h0
   ·rcases hpl with rfl | ⟨_,_,_,_,_,_,_,rfl⟩ <;> simp
 ·intro b o q nf
  obtain ⟨sl,z⟩:=so.2.2 b o q
  refine ⟨sl,?_⟩
  show ((g.push oT).update e (Obj.mapFields (·.setIfInBounds 1 (Value.ref g.objs.size)))).get? b=_
  rw [Heap.get?_update_other _ _ fun y=>by rw [← y,he] at q; cases q; exact nf vs hd]
  exact Heap.get?_push_of_some _ z
theorem noteX_first (hfr:A.frames=some (env :: outer)) (hl:s.heap.FunFrames base (env :: outer)) (hf:env.frame=some L) (he:s.heap.get? e=some oe) (hkb:base.StaysIn s.heap) (hen:base.get? e=none) (hd:oe.data=.fields vs)
  (h1:vs[1]? = some .none) (h0:vs[0]? = some a0) (h:∀ h',FlyX base (env :: outer) e oe.cls a0 oe.dict (rawInt L) h'→s.heap.UpToSlots h'→Q () { s with heap:=h' }):wpAny M A (noteFrame (.ref e) env) Q E s:=by
 unfold noteFrame
 simp only [hf]
 refine wpAny_bind (wpAny_field he hd h1 ?_)
 rw [if_neg (by decide)]
 exact entX hfr hl hf he hkb hen hd (Array.getElem?_eq_some_iff.mp h1).1 h0 h
theorem noteX_next (hfr:A.frames=some (env :: outer)) (hf:env.frame=some L) (x:FlyX base (env :: outer) e cls a0 dx .none s.heap)
  (h:∀ h',FlyX base (env :: outer) e cls a0 dx (rawInt L) h'→s.heap.UpToSlots h'→Q () { s with heap:=h' }):wpAny M A (noteFrame (.ref e) env) Q E s:=by
 obtain ⟨hkb,hen,hl,oe,vs,T,oT,ts,he,hc,hx,hd,h0,h1,nT,Te,hT,dT,h3⟩:=x
 subst hc hx
 unfold noteFrame
 simp only [hf]
 refine wpAny_bind (wpAny_field he hd h1 ?_)
 rw [if_pos (by simp)]
 refine wpAny_bind (wpAny_field hT dT h3 ?_)
 rw [if_neg (by simp [rawInt])]
 refine wpAny_bind (wpAny_setField hT dT (Array.getElem?_eq_some_iff.mp h3).1 ?_)
 have oth:∀ b,b ≠ T→(s.heap.update T (Obj.mapFields (·.setIfInBounds 3 Value.none))).get? b=s.heap.get? b:=fun b nb=>Heap.get?_update_other _ _ nb.symm
 have nr:∀ b o,s.heap.get? b=some o→(∀ vs,o.data ≠ .fields vs)→b ≠ T:=fun b o q nf z=>by
  rw [z,hT] at q
  cases q
  exact nf ts dT
 refine entX hfr (hl.of_keeps fun b o q nf=>⟨o,by rw [oth b (nr b o q nf)]; exact q,rfl⟩) hf (by rw [oth e Te.symm]; exact he) (fun b o q=>?_) hen hd (Array.getElem?_eq_some_iff.mp h1).1 h0 fun h' f' u'=>h h' f' fun b o q nf=>u' b o (by
  show (s.heap.update T _).get? b=_
  rw [oth b (nr b o q nf)]; exact q) nf
 show (s.heap.update T _).get? b=_
 rw [oth b fun z=>by rw [z,nT] at q; cases q]
 exact hkb b o q
theorem landX (x:FlyX base l e cls a0 dx fl s.heap) (h:∀ h',FlyX base l e cls a0 dx .none h'→s.heap.UpToSlots h'→Q () { s with heap:=h' }):wpAny M A (setFlight (.ref e) none) Q E s:=by
 obtain ⟨hkb,hen,hl,oe,vs,T,oT,ts,he,hc,hx,hd,h0,h1,nT,Te,hT,dT,h3⟩:=x
 have h3':3 < ts.size:=(Array.getElem?_eq_some_iff.mp h3).1
 have oth:∀ b,b ≠ T→(s.heap.update T (Obj.mapFields (·.setIfInBounds 3 ((none:Option Addr).elim Value.none fun f=>rawInt f)))).get? b=s.heap.get? b:=fun b nb=>Heap.get?_update_other _ _ nb.symm
 have nr:∀ b o,s.heap.get? b=some o→(∀ vs,o.data ≠ .fields vs)→b ≠ T:=fun b o q nf z=>by
  rw [z,hT] at q
  cases q
  exact nf ts dT
 unfold setFlight
 refine wpAny_bind (wpAny_field he hd h1 ?_)
 rw [if_pos (by simp)]
 refine wpAny_setField hT dT h3' (h _ ⟨fun b o q=>?_,hen,hl.of_keeps fun b o q nf=>⟨o,?_,rfl⟩,oe,vs,T,_,_,?_,hc,hx,hd,h0,h1,nT,Te,Heap.get?_update_self _ hT (Obj.isFreed_of_fields (Obj.data_mapFields dT _)),Obj.data_mapFields dT _,by simp [h3']⟩ fun b o q nf=>⟨o.slots,?_⟩)
 ·rw [oth b fun z=>by rw [z,nT] at q; cases q]; exact hkb b o q
 ·rw [oth b (nr b o q nf)]; exact q
 ·rw [oth e Te.symm]; exact he
 ·show (s.heap.update T _).get? b=_
  rw [oth b (nr b o q nf)]; exact q
theorem FlyX.out (x:FlyX base (env :: outer) e cls a0 dx fl s.heap):FlyX base outer e cls a0 dx fl s.heap:=by
 obtain ⟨a,b,⟨_,_,c⟩,d⟩:=x
 exact ⟨a,b,c,d⟩
theorem leaveX_first (hfr:A.frames=some (env :: outer)) (hl:s.heap.FunFrames base (env :: outer)) (hf:env.frame=some L) (he:s.heap.get? e=some oe) (hkb:base.StaysIn s.heap) (hen:base.get? e=none) (hd:oe.data=.fields vs)
  (h1:vs[1]? = some .none) (h0:vs[0]? = some a0) (h:∀ h',FlyX base outer e oe.cls a0 oe.dict .none h'→s.heap.UpToSlots h'→Q () { s with heap:=h' }):wpAny M A (leaving env (.ref e)) Q E s:=by
 unfold leaving
 refine wpAny_bind (noteX_first hfr hl hf he hkb hen hd h1 h0 fun h1 x1 u1=>landX (s:={ s with heap:=h1 }) x1 fun h2 x2 u2=>h h2 ?_ (u1.trans u2))
 exact FlyX.out (s:={ s with heap:=h2 }) x2
end
end L2
end
section
namespace L2
open PySem PySem.Spec PyProof.Rows
def OwnIn (K:PySem.W.Frag) (mg:Str→Option Value) (x:Str) (C:Addr) (bm:List Value) (newId:String):Prop:=∀ h:Heap,K.In h→OwnCls x C bm newId mg h
theorem ownIn_of {K:PySem.W.Frag} {mg:Str→Option Value} {x:Str} {C:Addr} {bmB:List Value} {newId:String} (m:mg x=some (.ref C)) (q:PySem.W.excIn K C bmB newId=true):OwnIn K mg x C bmB newId:=by
 intro h X
 refine ⟨m,?_⟩
 unfold PySem.W.excIn at q
 split at q
 case h_2=>cases q
 case h_1 dd cd sl ho =>
  split at q
  case h_2=>cases q
  case h_1 C' tl k0 k1 k2 k3 n k5 hm hs =>
   rw [Bool.and_eq_true,Bool.and_eq_true,Bool.and_eq_true,Bool.and_eq_true,Bool.and_eq_true] at q
   obtain ⟨⟨⟨⟨⟨q1,q2⟩,q3⟩,q4⟩,q5⟩,q6⟩:=q
   have e1:C'=C:=beq_iff_eq.mp q1
   have e2:n=newId:=beq_iff_eq.mp q2
   have e6:PySem.W.nsIn K cd.ns "__init__" = some none:=beq_iff_eq.mp q6
   have e3:cd.hasDel=false:=by simpa using q3
   subst e1 e2
   have hsl:sl=#[k0,k1,k2,k3,some (.builtin n),k5]:=Array.toList_inj.mp hs
   obtain ⟨nm,bs,mro,ns,qn,hdct,sn,sub,ab,col,del⟩:=cd
   dsimp only at hm e3 q5 e6
   subst hm e3 hsl
   exact ⟨tl,ns,nm,qn,bs,hdct,sn,sub,ab,col,dd,k0,k1,k2,k3,k5,_,X _ _ ho,.of_isNs (PySem.W.isNs_of_in X q5),PySem.W.nsMap_none_of_in X q5 e6,PySem.W.tail_of_in X q4⟩
def Fly (outer:List Env) (cls:Value) (dx:Option Addr) (H':Hp) (g:Heap) (ea:Addr) (h:Heap):Prop :=
 ∃ a0 B,FlyX B outer ea cls a0 dx .none h∧∀ b o,h.get? b=some o→((∃ o',g.get? b=some o')∨H' b ≠ none)→b ∉ frs outer→B.get? b=some o
def CXF (P:Program) (w:World):CXT:=fun outer H s E e s'=>∃ ea cls dx H',e=.ref ea∧s'.os=s.os∧AllBare s'.gens∧Un (frs outer) [] H H' s.heap s'.heap∧HOk P w H' s'.heap∧Fly outer cls dx H' s.heap ea s'.heap∧E cls dx H'
theorem ObjOk.there {P:Program} {w:World} {H:Hp} {h:Heap} {a:Addr} {o:HO} (x:ObjOk P w H h a o):∃ ob,h.get? a=some ob:=by
 cases o with
 | lst xs=>obtain ⟨_,_,_,_,e⟩:=x; exact ⟨_,e⟩
 | tup xs=>obtain ⟨_,_,_,_,e,_⟩:=x; exact ⟨_,e⟩
 | dK kvs=>obtain ⟨_,_,_,_,o,_,_,e,_⟩:=x; exact ⟨_,e⟩
 | dT kvs=>obtain ⟨_,_,_,_,o,_,_,e,_⟩:=x; exact ⟨_,e⟩
 | set S n=>obtain ⟨o,_,_,_,e,_⟩:=x; exact ⟨_,e⟩
 | ins C dx fs=>obtain ⟨_,_,_,e,_⟩:=x; exact ⟨_,e⟩
 | own y=>obtain ⟨_,e⟩:=x; exact ⟨_,e⟩
 | xd fs=>obtain ⟨_,⟨_,_,_,e,_⟩,_⟩:=x; exact ⟨_,e⟩
 | rng lo hi=>obtain ⟨_,_,_,e⟩:=x; exact ⟨_,e⟩
 | frz ob u=>obtain ⟨e,_⟩:=x; exact ⟨_,e⟩
 | tbl ps =>
  obtain ⟨_,_,_,_,_,_,_,e | ⟨_,_,_,_,_,_,_,e⟩⟩:=x
  ·exact ⟨_,e⟩
  ·exact ⟨_,e⟩
 | met f y=>exact ⟨_,show h.get? a=some _ from x⟩
 | ext φ=>obtain ⟨_,⟨_,e⟩,_⟩:=x; exact ⟨_,e⟩
section
variable {P:Program} {w:World} {K:PySem.W.Frag} {mg:Str→Option Value} {base:Heap} {N:List Str} {qual:Str} {scope:Scope} {f:Addr} {cd:Value} {A:Around} {outer:List Env} {s₀:Shared} {H₀:Hp} {E:XK}
theorem fly_end {CX:CXT} {pins:List (Addr×Obj)} {σ:St} {H':Hp} {s1:Shared} {h' B:Heap} {ea:Addr} {cls a0:Value} {dx:Option Addr} (I:Inv (cxOf CX P w K mg base N qual scope f cd A outer s₀ H₀ E) pins σ H' s1)
  (fl:FlyX B outer ea cls a0 dx .none h') (up:s1.heap.UpToSlots h') (pB:∀ b o,s1.heap.get? b=some o→((∃ o',s₀.heap.get? b=some o')∨H' b ≠ none)→b ∉ frs (envOfC qual scope s₀.heap.objs.size f cd :: outer)→B.get? b=some o)
  (hE:E cls dx H'):CXF P w outer H₀ s₀ E (.ref ea) { s1 with heap:=h' }:=by
 have stay:∀ b o,s1.heap.get? b=some o→((∃ o',s₀.heap.get? b=some o')∨H' b ≠ none)→b ∉ frs (envOfC qual scope s₀.heap.objs.size f cd :: outer)→h'.get? b=some o:=fun b o h1 h2 h3=>fl.1 b o (pB b o h1 h2 h3)
 have frL:frs (envOfC qual scope s₀.heap.objs.size f cd :: outer)=s₀.heap.objs.size :: frs outer:=rfl
 have notL:∀ b,((∃ o',s₀.heap.get? b=some o')∨H' b ≠ none)→b ∉ frs outer→b ∉ frs (envOfC qual scope s₀.heap.objs.size f cd :: outer):=fun b h1 h2 h3=>by
  rw [frL] at h3
  rcases List.mem_cons.mp h3 with e | e
  ·rcases h1 with h1 | h1
   ·obtain ⟨o',h1⟩:=h1
    rw [e] at h1; exact absurd (Heap.lt_size h1) (Nat.lt_irrefl _)
   ·have:H' s₀.heap.objs.size=none:=I.free
    rw [e] at h1; exact h1 this
  ·exact h2 e
 have trk:∀ b,H' b ≠ none→b ∉ frs outer:=fun b h1 h2=>h1 (I.stkFree b (by show b ∈ frs (envOfC qual scope s₀.heap.objs.size f cd :: outer); rw [frL]; exact List.mem_cons_of_mem _ h2))
 have fr1:∀ b,b ∈ frs outer→∃ o,s1.heap.get? b=some o∧∀ vs,o.data ≠ .fields vs:=fun b hb=>by
  have h1:s1.heap.FunFrames base (envOfC qual scope s₀.heap.objs.size f cd :: outer):=I.stack
  exact (h1.mem (List.mem_filterMap.mpr (by
   obtain ⟨env,he,hf⟩:=List.mem_filterMap.mp hb
   exact ⟨env,List.mem_cons_of_mem _ he,hf⟩))).2
 have hb0:Un (frs outer) [] H₀ H' s₀.heap s1.heap:=I.base
 refine ⟨ea,cls,dx,H',rfl,I.os,I.bare,⟨fun b o h1 h2 h3 h4=>?_,fun b o h1 h2 h3 h4=>?_,hb0.free,fun b o h1 h4=>?_,hb0.tups,hb0.frzs,hb0.tbls⟩,fun a o ha=>?_,⟨a0,B,fl,fun b o h1 h2 h3=>?_⟩,hE⟩
 ·exact stay b o (hb0.keep b o h1 h2 h3 h4) (.inl ⟨_,h1⟩) (notL b (.inl ⟨_,h1⟩) h3)
 ·obtain ⟨sl,h5⟩:=hb0.slot b o h1 h2 h3 h4
  obtain ⟨o1,h6,h7⟩:=fr1 b h3
  rw [h5] at h6
  cases h6
  obtain ⟨sl',h8⟩:=up b _ h5 h7
  exact ⟨sl',h8⟩
 ·obtain ⟨o1,h5⟩:=hb0.there b o h1 h4
  by_cases hb:b ∈ frs outer
  ·obtain ⟨o2,h6,h7⟩:=fr1 b hb
   obtain ⟨sl',h8⟩:=up b _ h6 h7
   exact ⟨_,h8⟩
  ·exact ⟨o1,stay b o1 h5 (.inl ⟨_,h1⟩) (notL b (.inl ⟨_,h1⟩) hb)⟩
 ·refine (I.hok a o ha).stay (fun b u hb h1=>?_) (fun _ z=>z) (fun _ _ z=>z)
  have ht:H' b ≠ none:=by
   rcases hb with e | e
   ·rw [e,ha]; exact Option.some_ne_none _
   ·rw [e]; exact Option.some_ne_none _
  exact stay b u h1 (.inr ht) (notL b (.inr ht) (trk b ht))
 ·have hs:∃ o1,s1.heap.get? b=some o1:=by
   rcases h2 with ⟨o',h2⟩ | h2
   ·exact hb0.there b o' h2 (by simp)
   ·cases hq:H' b with
    | none=>exact absurd hq h2
    | some u=>exact (I.hok b u hq).there
  obtain ⟨o1,h4⟩:=hs
  have h5:=pB b o1 h4 h2 (notL b h2 h3)
  have h6:=fl.1 b o1 h5
  have h7:h'.get? b=some o:=h1
  rw [h6] at h7
  cases h7
  exact h5
def sRaise (C:Addr) (E:XK) (t:TA):TS:=fun _ σ H=>t σ H fun vs H1=>vs.length ≤ sizeLine∧E (.ref C) none H1
theorem ps_raise {x:Str} {C:Addr} {bm:List Value} {Bn newId initId:String} {np cpos pos:Pos} {e₀:Expr} {rest:List Expr} {t:TA} (OI:OwnIn K mg x C bm newId) (FB:ExcBaseFacts Bn newId initId bm)
  (hg:Gl (cxOf (CXF P w) P w K mg base N qual scope f cd A outer s₀ H₀ E) x) (ha:PA (cxOf (CXF P w) P w K mg base N qual scope f cd A outer s₀ H₀ E) (e₀ :: rest) t)
  (he:starEach (e₀ :: rest) (envOfC qual scope s₀.heap.objs.size f cd)=(false,eval e₀ (envOfC qual scope s₀.heap.objs.size f cd)) :: starEach rest (envOfC qual scope s₀.heap.objs.size f cd):=by rfl)
  (hpl:(backTo cpos (starEach rest (envOfC qual scope s₀.heap.objs.size f cd))).any (·.1)=false:=by rfl) (hd:(x == ("__debug__" : Str))=false:=by decide) :
  PS (cxOf (CXF P w) P w K mg base N qual scope f cd A outer s₀ H₀ E) (.Raise (some (.Call (.Name x np) (e₀ :: rest) [] cpos)) none pos) (sRaise C E t):=by
 intro pins s σ H D I h
 have O:OwnCls x C bm newId mg base:=OI base I.ok.mod.kin
 obtain ⟨tl,N',nm,q,bs,hdct,sn,sub,ab,col,dd,k0,k1,k2,k3,k5,mN,hC,hN,hni,T⟩:=O.obj
 refine wpAny_Raise_call_subT (C:=C) (nm:=nm) (q:=q) (N:=N') (bs:=bs) (bm:=tl) (hdct:=hdct) (sn:=sn) (sub:=sub) (ab:=ab) (col:=col) (dd:=dd) (k0:=k0) (k1:=k1) (k2:=k2) (k3:=k3) (k5:=k5)
  FB (mN:=mN) (T.hasType FB.hasBase) (I.ok.hd rfl) (by show (backTo cpos (starEach (e₀ :: rest) (envOfC qual scope s₀.heap.objs.size f cd))).any (·.1)=false; rw [he]; show (false || (backTo cpos (starEach rest (envOfC qual scope s₀.heap.objs.size f cd))).any (·.1))=false; rw [hpl]; rfl) hni (ld_glob I hg O.bound ⟨rfl,?_⟩ hd)
 have hA:=ha cpos pins s σ H _ I h
 have he':starEach (e₀ :: rest) (cxOf (CXF P w) P w K mg base N qual scope f cd A outer s₀ H₀ E).env=(false,eval e₀ (envOfC qual scope s₀.heap.objs.size f cd)) :: starEach rest (envOfC qual scope s₀.heap.objs.size f cd):=he
 rw [he'] at hA ⊢
 refine Calls.evalArgs_plain (thn hA fun us s2 ⟨vs,H2,I2,r2,hl,hE⟩=>?_)
 have keep:∀ b o,base.get? b=some o→s2.heap.get? b=some o:=fun b o e=>(I2.bs b o e).1
 refine ⟨rfl,by rw [← r2.length]; exact hl,keep _ _ hC,hN.keeps keep,T.keeps keep,fun h' e hm=>?_⟩
 show wpAny _ _ (leaving _ (.ref e)) _ _ _
 obtain ⟨t,he3,_,_⟩:=hm.there
 have hin:∀ env ∈ (envOfC qual scope s₀.heap.objs.size f cd :: outer),∀ b,env.frame=some b→b ∈ frs (envOfC qual scope s₀.heap.objs.size f cd :: outer):=fun env he b hb=>List.mem_filterMap.mpr ⟨env,he,hb⟩
 refine leaveX_first (base:=PySem.W.hideAll s2.heap (frs (envOfC qual scope s₀.heap.objs.size f cd :: outer))) I2.ok.frames ((PySem.W.funFrames_hide I2.stack hin).of_keeps fun b o q _=>⟨o,hm.keeps b o q,rfl⟩) rfl he3 (fun b o q=>hm.keeps b o (PySem.W.of_hideAll _ q)) ?_ rfl rfl rfl fun h'' fl up=>?_
 ·cases q:(PySem.W.hideAll s2.heap (frs (envOfC qual scope s₀.heap.objs.size f cd :: outer))).get? e with
  | none=>rfl
  | some o=>exact absurd (PySem.W.of_hideAll _ q) (by rw [hm.new]; exact fun z=>nomatch z)
 ·have R:=fly_end I2 fl ((Heap.UpToSlots.of_keeps hm.keeps).trans up) (fun b o h1 _ h3=>PySem.W.hideAll_get _ h1 h3) hE
  exact R
end
theorem fly_un {P:Program} {w:World} {fs:List Addr} {H H':Hp} {g h h' B:Heap} (un:Un fs [] H H' g h) (hok:HOk P w H' h) (fr:∀ b ∈ fs,H' b=none∧∃ o,h.get? b=some o∧∀ vs,o.data ≠ .fields vs) (st:B.StaysIn h') (up:h.UpToSlots h')
  (pB:∀ b o,h.get? b=some o→((∃ o',g.get? b=some o')∨H' b ≠ none)→b ∉ fs→B.get? b=some o):Un fs [] H H' g h'∧HOk P w H' h':=by
 have stay:∀ b o,h.get? b=some o→((∃ o',g.get? b=some o')∨H' b ≠ none)→b ∉ fs→h'.get? b=some o:=fun b o h1 h2 h3=>st b o (pB b o h1 h2 h3)
 refine ⟨⟨fun b o h1 h2 h3 h4=>stay b o (un.keep b o h1 h2 h3 h4) (.inl ⟨_,h1⟩) h3,fun b o h1 h2 h3 h4=>?_,un.free,fun b o h1 h4=>?_,un.tups,un.frzs,un.tbls⟩,fun a o ha=>?_⟩
 ·obtain ⟨sl,h5⟩:=un.slot b o h1 h2 h3 h4
  obtain ⟨_,o1,h6,h7⟩:=fr b h3
  rw [h5] at h6
  cases h6
  obtain ⟨sl',h8⟩:=up b _ h5 h7
  exact ⟨sl',h8⟩
 ·obtain ⟨o1,h5⟩:=un.there b o h1 h4
  by_cases hb:b ∈ fs
  ·obtain ⟨_,o2,h6,h7⟩:=fr b hb
   obtain ⟨sl',h8⟩:=up b _ h6 h7
   exact ⟨_,h8⟩
  ·exact ⟨o1,stay b o1 h5 (.inl ⟨_,h1⟩) hb⟩
 ·refine (hok a o ha).stay (fun b u hb h1=>?_) (fun _ z=>z) (fun _ _ z=>z)
  have ht:H' b ≠ none:=by
   rcases hb with e | e
   ·rw [e,ha]; exact Option.some_ne_none _
   ·rw [e]; exact Option.some_ne_none _
  exact stay b u h1 (.inr ht) fun z=>ht (fr b z).1
abbrev Cx.tried (X:Cx) (pn:List (Addr×Obj)) (E:Value→Shared→Prop):Cx:={ X with pn:=pn,xe:=E }
abbrev Cx.caught (X:Cx) (ea:Addr):Cx:={ X with A:=X.A.mark (some (.ref ea)),calm:=false,xe:=fun _ _=>False }
section
variable {X:Cx} {pins pins':List (Addr×Obj)} {σ:St} {H:Hp} {s:Shared} {E:Value→Shared→Prop}
theorem Inv.tryIn (I:Inv X pins σ H s) (E:Value→Shared→Prop):Inv (X.tried (X.pn ++ pins) E) [] σ H s :=
 ⟨⟨I.ok.mod,I.ok.kind,I.ok.glob,I.ok.blt,I.ok.above,I.ok.inj,I.ok.has,I.ok.cab,I.ok.hd,I.ok.frames,I.ok.stk,I.ok.exf,I.ok.bs,I.ok.bsz,I.ok.noex,I.ok.exfs,I.ok.funs,I.ok.frf⟩,I.os,I.bare,I.base,I.loc,I.cell,I.free,I.freeC,fun p hp=>I.pin p (by simpa using hp),I.hok,I.len⟩
theorem Inv.tryOut (I:Inv (X.tried (X.pn ++ pins) E) pins' σ H s):Inv X pins σ H s :=
 ⟨⟨I.ok.mod,I.ok.kind,I.ok.glob,I.ok.blt,I.ok.above,I.ok.inj,I.ok.has,I.ok.cab,I.ok.hd,I.ok.frames,I.ok.stk,I.ok.exf,I.ok.bs,I.ok.bsz,I.ok.noex,I.ok.exfs,I.ok.funs,I.ok.frf⟩,I.os,I.bare,I.base,I.loc,I.cell,I.free,I.freeC,fun p hp=>I.pin p (List.mem_append_left _ hp),I.hok,I.len⟩
theorem Inv.catch (I:Inv X pins σ H s) (ea:Addr):Inv (X.caught ea) pins σ H s :=
 ⟨⟨I.ok.mod,I.ok.kind,I.ok.glob,I.ok.blt,I.ok.above,I.ok.inj,I.ok.has,I.ok.cab,fun z=>absurd z Bool.false_ne_true,I.ok.frames,I.ok.stk,I.ok.exf,I.ok.bs,I.ok.bsz,I.ok.noex,I.ok.exfs,I.ok.funs,I.ok.frf⟩,I.os,I.bare,I.base,I.loc,I.cell,I.free,I.freeC,I.pin,I.hok,I.len⟩
theorem Inv.uncatch {ea:Addr} (hX:X.A.handled=none) (I:Inv (X.caught ea) pins σ H s):Inv X pins σ H s :=
 ⟨⟨I.ok.mod,I.ok.kind,I.ok.glob,I.ok.blt,I.ok.above,I.ok.inj,I.ok.has,I.ok.cab,fun _=>hX,I.ok.frames,I.ok.stk,I.ok.exf,I.ok.bs,I.ok.bsz,I.ok.noex,I.ok.exfs,I.ok.funs,I.ok.frf⟩,I.os,I.bare,I.base,I.loc,I.cell,I.free,I.freeC,I.pin,I.hok,I.len⟩
theorem WS.try {x:Str} {C:Addr} {bm:List Value} {newId:String} {np hpos pos:Pos} {body suite:List Stmt} {b₀:Stmt} {D:Ends} {Ex:XK} {R:Hp→Prop} (OI:OwnIn X.K X.mg x C bm newId) (hbm:bm.contains (.type "BaseException")=true) (hg:Gl X x)
  (hst:X.stack=X.env :: X.outer) (hfm:X.env.frame=some X.env.locals) (hcm:X.calm=true) (hE:∀ cls dx H',Ex cls dx H'→cls=.ref C∧R H')
  (hb:∀ pn xe,Passes (CXF X.prog X.w) (X.tried pn xe) Ex→WSs (X.tried pn xe) body D σ H) (hh:∀ ea σ' H',R H'→WSs (X.caught ea) (b₀ :: suite) D σ' H') (hd:(x == ("__debug__" : Str))=false:=by decide) :
  WS X (.Try body [.ExceptHandler (some (.Name x np)) none (b₀ :: suite) hpos] [] [] pos) D σ H:=by
 refine ⟨fun pins s I=>?_⟩
 have O:OwnCls x C bm newId X.mg X.base:=OI X.base I.ok.mod.kin
 refine wpAny_Try_except ?_
 have pass:Passes (CXF X.prog X.w) (X.tried (X.pn ++ pins) fun e s₁=>wpAny (model X.prog X.w) X.A (noteFrame e X.env) (fun _ s₂=>wpAny (model X.prog X.w) X.A (setFlight e none) (fun _ s₃=>wpAny (model X.prog X.w) X.A (handleBy e X.env [.ExceptHandler (some (.Name x np)) none (b₀ :: suite) hpos]) (SP X pins D) X.xe s₃) X.xe s₂) X.xe s₁) Ex:=by
  intro pins' σ' H1 s1 e s2 I1 hc
  obtain ⟨ea,cls,dx,H2,rfl,os,bare,un,hok,⟨a0,B,fl,pB⟩,hEx⟩:=hc
  obtain ⟨rfl,hR⟩:=hE _ _ _ hEx
  have IX:Inv X pins σ' H1 s1:=I1.tryOut
  have I2:Inv X pins σ' H2 s2:=IX.call' os un hok bare (fun b z=>absurd z (by simp))
  have fr:∀ b ∈ frs X.stack,H2 b=none∧∃ o,s2.heap.get? b=some o∧∀ vs,o.data ≠ .fields vs:=fun b hb=>⟨I2.stkFree b hb,(I2.stack.mem hb).2⟩
  have step:∀ h',B.StaysIn h'→s2.heap.UpToSlots h'→Inv X pins σ' H2 { s2 with heap:=h' }:=fun h' st up =>
   let ⟨u,k⟩:=fly_un un hok fr st up pB
   IX.call' (s':={ s2 with heap:=h' }) os u k bare (fun b z=>absurd z (by simp))
  have fl:FlyX B (X.env :: X.outer) ea (.ref C) a0 dx .none s2.heap:=by rw [← hst]; exact fl
  have hfr:X.A.frames=some (X.env :: X.outer):=by rw [← hst]; exact I2.ok.frames
  show wpAny (model X.prog X.w) X.A (noteFrame (.ref ea) X.env) _ _ s2
  refine noteX_next hfr hfm fl fun h₄ held₄ sm₄=>landX (s:={ s2 with heap:=h₄ }) held₄ fun h₅ fl₅ sm₅=>?_
  have sm25:s2.heap.UpToSlots h₅:=sm₄.trans sm₅
  have I5:=(step h₅ fl₅.1 sm25).catch ea
  refine wpAny_handleBy_cons (codeAny_handlers_test (ld_glob I5 hg O.bound ?_ hd)) (by intro q; cases q)
  obtain ⟨tl,N',nm,q,bs,hdct,sn,sub,ab,col,dd,k0,k1,k2,k3,k5,mN,hC,hN,hni,T⟩:=(O.keeps fun b o e=>(I5.bs b o e).1).obj
  obtain ⟨ob,hob,hobc,_⟩:=fl₅.there
  refine wpAny_excMatches_sub_self hC hob hobc (T.hasType hbm) (codeAny_handlers_suite ?_)
  refine landX (s:={ s2 with heap:=h₅ }) fl₅ fun h₆ fl₆ sm₆=>?_
  have I6:=(step h₆ fl₆.1 (sm25.trans sm₆)).catch ea
  refine wpAny_mono ((hh ea σ' H2 hR).run pins _ I6) (fun f s₃ q=>?_) fun _ _ z=>False.elim z
  have hX:=I.ok.hd hcm
  cases f with
  | next=>obtain ⟨σ'',H'',J,q⟩:=q; exact ⟨σ'',H'',J.uncatch hX,q⟩
  | brk=>obtain ⟨σ'',H'',J,q⟩:=q; exact ⟨σ'',H'',J.uncatch hX,q⟩
  | cont=>obtain ⟨σ'',H'',J,q⟩:=q; exact ⟨σ'',H'',J.uncatch hX,q⟩
  | ret u=>obtain ⟨v,σ'',H'',J,r,q⟩:=q; exact ⟨v,σ'',H'',J.uncatch hX,r,q⟩
 refine wpAny_mono ((hb _ _ pass).run [] s (I.tryIn _)) (fun f s₁ q=>?_) fun e s₁ z=>z
 cases f with
 | next =>
  obtain ⟨σ',H',J,q⟩:=q
  exact wpAny_execs_nil ⟨σ',H',J.tryOut,q⟩
 | brk=>obtain ⟨σ',H',J,q⟩:=q; exact ⟨σ',H',J.tryOut,q⟩
 | cont=>obtain ⟨σ',H',J,q⟩:=q; exact ⟨σ',H',J.tryOut,q⟩
 | ret u=>obtain ⟨v,σ',H',J,r,q⟩:=q; exact ⟨v,σ',H',J.tryOut,r,q⟩
end
section
variable {P:Program} {w:World} {K:PySem.W.Frag} {mg:Str→Option Value} {base:Heap}
theorem Fun.okX {x qual:Str} {st:Stmt} {f:Addr} {fd:FuncData} {N ps:List Str} {k:Nat} {sp:Sp} (F:Fun K x qual st f fd) (S:FnScope N ps (defScope st)) (len:∀ vs H Q E,sp vs H Q E→vs.length=ps.length)
  (hbody:∀ (cdv:Value) (A:Around) (outer:List Env) (s:Shared) (H:Hp) (vs:List V) (Q:VK) (E:XK),Room k (A.deeper (envOfC qual (defScope st) s.heap.objs.size f cdv))→sp vs H Q E →
   WSs (cxOf (CXF P w) P w K mg base N qual (defScope st) f cdv A outer s H E) (defBody st) { nx:=fun _ H'=>Q .non H',rt:=Q } (start N vs) H):FnOk P w K mg base (CXF P w) (k + 1) f fd ps sp:=by
 obtain ⟨oc,od,kV,doc,pm,an,cdv,ct,osl,rfl,lk,hcd⟩:=F.ex
 exact fn_of lk hcd S len fun A outer s H vs Q E hr hsp=>⟨_,pss_w,hbody cdv A outer s H vs Q E hr hsp⟩
end
end L2
end
section
namespace L2
open PySem PySem.Spec PyProof.Rows
theorem strs_of:∀ {ss:List Str} {us:List Value},Vals (ss.map V.str) us→StrsAre us ss
 | [],_,r=>by rw [List.map_nil] at r; cases r; exact .nil
 | x :: ss,_,r=>by
  rw [List.map_cons] at r
  cases r with
  | cons r t =>
   obtain ⟨tk,rfl⟩:=r
   exact .cons _ _ (strs_of t)
theorem of_strs:∀ {ss:List Str} {us:List Value},StrsAre us ss→Vals (ss.map V.str) us
 | [],_,r=>by cases r; exact .nil
 | x :: ss,_,r=>by
  cases r with
  | cons _ _ t=>exact .cons ⟨_,rfl⟩ (of_strs t)
def rSortS (K:PySem.W.Frag):List V→Hp→VK→Prop:=fun xs H Q=>∃ (p:Addr) (ss:List Str),xs=[.ref p]∧SqL K H p (ss.map V.str)∧ss.length < 64∧∀ ss':List Str,ss'.Perm ss→sortedS ss'=true→New H (.lst (ss'.map V.str)) Q
theorem call_sortS {X:Cx}:CallR X (.builtin "sorted") (rSortS X.K):=by
 intro pins s σ H xs us Q I r h
 obtain ⟨p,ss,rfl,hq,hl,q⟩:=h
 obtain ⟨u,rfl,rx⟩:=vals1 r
 cases rx
 obtain ⟨its,rv,pl,hz⟩:=I.list hq
 have hlen:its.length=ss.length:=by have:=rv.length; rw [List.length_map] at this; exact this.symm
 refine sorted_strs pl.isList (strs_of rv) (by omega) fun out ss' a1 a2 a3=>?_
 obtain ⟨e,he⟩:=sortedAll_at s.heap its out
 have hp:=a2.length_eq
 have hn:H (s.heap.objs.size + 1)=none:=I.hok.fresh (Nat.le_succ _)
 exact ⟨.ref (s.heap.objs.size + 1),_,I.laid (a:=s.heap.objs.size + 1) (o:=.lst (ss'.map V.str)) (t':=s.toks) (fun b o h=>sortedAll_old h) (Nat.le_succ _) (show ObjOk X.prog X.w _ _ _ (.lst _) from ⟨by rw [List.length_map]; exact sz (by omega),out.toList,e,of_strs a1,by rw [he]⟩),rfl,(q ss' a2 a3).at _ hn⟩
theorem Inv.laidAt {X:Cx} {pins:List (Addr×Obj)} {σ:St} {H:Hp} {s:Shared} {h':Heap} {t':Nat} {a:Addr} {o:HO} (I:Inv X pins σ H s) (k:∀ b u,s.heap.get? b=some u→h'.get? b=some u) (hn:s.heap.get? a=none) (new:ObjOk X.prog X.w (upd H a o) h' a o) :
  H a=none∧Inv X pins σ (upd H a o) { s with heap:=h',toks:=t' }:=by
 have hH:H a=none:=by
  cases e:H a with
  | none=>rfl
  | some u =>
   obtain ⟨ob,z⟩:=(I.hok a u e).there
   rw [hn] at z
   cases z
 have ne:∀ b u,s.heap.get? b=some u→b ≠ a:=fun b u e z=>by rw [z,hn] at e; cases e
 refine ⟨hH,I.call' (s':={ s with heap:=h',toks:=t' }) rfl ⟨fun b u e _ _ _=>k b u e,fun b u e _ _ _=>⟨u.slots,k b u e⟩,fun b u e n _=>by rw [upd_ne (ne b u e)]; exact n,fun b u e _=>⟨u,k b u e⟩,fun b xs e=>?_,fun b q u e=>?_,fun b ps e=>⟨#[],?_⟩⟩ (fun b u e=>?_) I.bare (fun b z=>absurd z List.not_mem_nil)⟩
 ·rw [upd_ne (ne_of_none e hH)]; exact e
 ·rw [upd_ne (ne_of_none e hH)]; exact e
 ·rw [upd_ne (ne_of_none e hH)]; simpa using e
 ·by_cases z:b=a
  ·rw [z,upd_same] at e
   cases e
   rw [z]
   exact new
  ·rw [upd_ne z] at e
   exact (I.hok b u e).stay (fun c v _ h=>k c v h) (fun c h=>by rw [upd_ne (ne_of_none h hH)]; exact h) (fun c ys h=>by rw [upd_ne (ne_of_none h hH)]; exact h)
def rSortD:List V→Hp→VK→Prop:=fun xs H Q=>∃ (p:Addr) (kvs:List (Key×V)) (ss:List Str),xs=[.ref p]∧Rd H p (.dK kvs)∧kvs.map (fun kv=>kV kv.1)=ss.map V.str∧ss.length < 64∧∀ ss':List Str,ss'.Perm ss→sortedS ss'=true→New H (.lst (ss'.map V.str)) Q
theorem call_sortD {X:Cx} (hc:X.calm=true):CallR X (.builtin "sorted") rSortD:=by
 intro pins s σ H xs us Q I r h
 obtain ⟨p,kvs,ss,rfl,hd,hk,hl,q⟩:=h
 obtain ⟨u,rfl,rx⟩:=vals1 r
 cases rx
 obtain ⟨hz,lo,va,kv,da⟩:=dk_rd I.hok hd
 obtain ⟨ep,hat⟩:=da.dictAt
 have hlv:=KV.length kv
 refine Calls.call_function_entry kind_sorted plain_sorted entry_sorted (args_sorted1 _) ?_
 unfold Builtin.«sorted»
 refine wpAny_bind (m:=checkCount "sorted" 1 1 _) (wpAny_pure ?_)
 refine wpAny_bind (PySem.W.kdu_collect (A:=X.A.in1) (PySem.W.kdl_dict (knd:=mixKind X.prog X.w) (kvs:=va) (ep:=ep) lo) (I.ok.hd hc) hat (by omega) fun h' tk acc hkp hacc=>?_)
 have hv:Vals (kvs.map fun kv=>kV kv.1) acc.toList:=vals_keys (P:=X.prog) (w:=X.w) kv (by rw [Array.length_toList]; exact hacc.1) fun j v e=>hacc.2 j v (by rw [← Array.getElem?_toList]; exact e)
 rw [hk] at hv
 have hS:=strs_of hv
 have hlen:acc.toList.length=ss.length:=by have:=hv.length; rw [List.length_map] at this; exact this.symm
 refine wpAny_bind (wpAny_newList ?_ (by rw [hlen]; exact sz (by omega)))
 have hoL:(h'.push (seqObj "list" acc.toList.toArray 0)).get? h'.objs.size=some (seqObj "list" acc.toList.toArray 0):=Heap.get?_push_size _ rfl
 refine wpAny_bind (wpAny_holding (wpAny_call_entry slot_list_sort ⟨_,hoL,rfl⟩ entry_list_sort (list_sort_treeK strKind_oneLt hoL hS.keysOf (fun v₁ v₂ rest e=>keyKind_strs (by rw [← e]; exact hS)) (by omega) fun st' a1 a2=>⟨_,rfl,?_⟩) (args_list_sort _)))
 obtain ⟨ss',b1,b2,b3⟩:=sorted_out_str hS a1 a2
 obtain ⟨e,he⟩:=sortedHeap_at (out:=(arrOf st').map (·.2)) hoL
 have hp:=b2.length_eq
 have hnone:s.heap.get? h'.objs.size=none:=by
  cases z:s.heap.get? h'.objs.size with
  | none=>rfl
  | some o=>exact absurd (Heap.lt_size (hkp _ _ z)) (Nat.lt_irrefl _)
 obtain ⟨hn,J⟩:=I.laidAt (h':=sortedHeap (h'.push (seqObj "list" acc.toList.toArray 0)) h'.objs.size acc.toList ((arrOf st').map (·.2))) (t':=tk) (a:=h'.objs.size) (o:=.lst (ss'.map V.str)) (fun b o hb=>by
  have hb':=hkp b o hb
  rw [sortedHeap_old (Nat.ne_of_lt (Heap.lt_size hb')) (Nat.lt_of_lt_of_le (Heap.lt_size hb') (by rw [Heap.size_push]; exact Nat.le_succ _))]
  exact Heap.get?_push_of_some _ hb') hnone (show ObjOk X.prog X.w _ _ _ (.lst _) from ⟨by rw [List.length_map]; exact sz (by omega),((arrOf st').map (·.2)).toList,e,of_strs b1,by rw [he]⟩)
 exact wpAny_pure ⟨_,rfl,.ref h'.objs.size,_,J,rfl,(q ss' b2 b3).at _ hn⟩
def tListVals (tl:TE):TE:=fun σ H Q=>tl σ H fun x H1=>∃ d kvs,x=.ref d∧Rd H1 d (.dK kvs)∧New H1 (.lst (kvs.map fun kv=>kv.2)) Q
theorem vals_vals:∀ {kvs:List (Key×V)} {va:List (Key×Value)},KV kvs va→Vals (kvs.map fun kv=>kv.2) (va.map fun kv=>kv.2)
 | [],_,.nil=>.nil
 | _ :: _,_ :: _,.cons r t=>.cons r.2 (vals_vals t)
theorem pe_listVals {X:Cx} {apos cpos p' pos':Pos} {o:Expr} {to:TE} (hc:X.calm=true) (hgl:Gl X "list") (hml:X.mg "list" = none) (ho:PE X o to) (hbase:attributeBase o "values" X.env (eval o X.env)=eval o X.env:=by rfl) (hline:(apos.endLine == cpos.line)=true:=by rfl) :
  PE X (.Call (.Name "list" p') [.Call (.Attribute o "values" apos) [] [] cpos] [] pos') (tListVals to):=by
 intro pins s σ H Q I h
 refine wpAny_Call_Name_kw (ld_blt I hgl hml PyProof.Rows.boot_list ?_)
 refine PyProof.Rows.callWith_type1 ?_ rfl rfl
 refine Calls.spliced_cons ?_
 refine wpAny_Call_method0_late hbase hline (thn (ho pins s σ H _ I h) fun v s1 ⟨y,H1,I1,r1,q1⟩=>?_)
 obtain ⟨d,kvs,rfl,hd,q⟩:=q1
 cases r1
 obtain ⟨hz,hs,vs,kv,dd⟩:=dk_rd I1.hok hd
 obtain ⟨ob,_,_,hob,hex,_⟩:=id dd
 obtain ⟨ep,hD⟩:=dictAt_of dd hob
 refine ⟨"dict", "dict.values",PySem.F.plainAttrs_dict,PySem.F.slot_dict_values,PySem.F.type_dict_values,dd.typeIs,fun a e=>?_,Calls.callWith_builtin rfl (PySem.evalArgs_none ?_)⟩
 ·cases e
  exact ⟨ob,hob,hex.2.1⟩
 refine call_meetsIn PySem.F.slot_dict_values dd.typeIs PySem.F.entry_dict_values (PySem.F.args_dict_values_1 _) (meets_dict_values (mixKind X.prog X.w) d hs) ⟨⟨vs,dd⟩,?_⟩
 refine Calls.spliced_nil ?_
 have I2:Inv X pins σ H1 { s1 with heap:=s1.heap.push { cls:=.type "dict_values",data:=.fields #[.ref d] } }:=I1.kept (t':=s1.toks) fun b o e=>Heap.get?_push_of_some _ e
 have hl:=KV.length kv
 refine PySem.W.kdl_call (PySem.W.kdl_values (knd:=mixKind X.prog X.w) (r:=s1.heap.objs.size) (d:=d) (kvs:=vs) (ep:=ep)) (I2.ok.hd hc) ⟨⟨_,Heap.get?_push_size _ rfl,rfl,rfl⟩,hD _ (Heap.get?_push_of_some _ hob)⟩ (by omega) fun h' tk acc' c' hk hD' hacc=>?_
 have e1:acc'.toList=vs.map (·.2):=PySem.W.kdl_vals_eq acc'.toList (by rw [Array.length_toList]; exact hacc.1) fun j v e=>hacc.2 j v (by rw [← Array.getElem?_toList]; exact e)
 have hv:Vals (kvs.map fun kv=>kv.2) acc'.toList:=by rw [e1]; exact vals_vals kv
 exact ⟨.ref _,_,I2.laid (o:=.lst _) (t':=tk) hk (Nat.le_refl _) (show ObjOk X.prog X.w _ h' _ (.lst _) from ⟨by rw [List.length_map]; exact hz,acc'.toList,c',hv,by rw [hD']⟩),rfl,q.at _ (I2.hok.fresh (Nat.le_refl _))⟩
end L2
end
section
namespace L2
open PySem PySem.Spec PyProof.Rows Builtin Builtin.ObjectAttr
abbrev VEs:List Value:=[.type "ValueError",.type "Exception",.type "BaseException",.type "object"]
def excO (C t:Addr) (dx:Option Addr):Obj:={ cls:=.ref C,dict:=dx,data:=.fields #[.ref t,.none,.none,.none,.bool false,.none] }
def ExcN (e C t:Addr) (dx:Option Addr):HO:=.ext fun h=>h.get? e=some (excO C t dx)
def ExcC (e C:Addr) (dx:Option Addr):HO:=.ext fun h=>∃ o vs,h.get? e=some o∧o.cls=.ref C∧o.dict=dx∧o.data=.fields vs
section
variable {P:Program} {w:World} {H:Hp} {h:Heap} {e C t:Addr} {dx:Option Addr}
end
section
variable {X:Cx} {pins:List (Addr×Obj)} {σ:St} {H:Hp} {s:Shared}
def offH (H:Hp) (a:Addr):Hp:=fun b=>if b=a then none else H b
end
def ClsX (K:PySem.W.Frag) (C Y:Addr):Prop:=∃ nm q N bs sn sub ab col dd k0 k1 k2 k3 k5,K.lookup C=some (excClassObj nm q C N bs (.ref Y :: VEs) true sn sub ab col dd k0 k1 k2 k3 k5 "ValueError.__new__")
section
variable {X:Cx} {pins:List (Addr×Obj)} {σ:St} {H:Hp} {s:Shared} {e C Y t:Addr} {f:Str} {A:Around} {E:Value→Shared→Prop}
def sXset (K:PySem.W.Frag) (ta tv:TE) (f:Str):TS:=fun D σ H=>tv σ H fun y H1=>ta σ H1 fun x H2=>∃ e C Y t,x=.ref e∧H2 e=some (ExcN e C t none)∧ClsX K C Y∧PySem.W.findIn K (.ref C) "__setattr__" = some (some (.builtin "object.__setattr__"))∧PySem.W.findIn K (.ref C) f=some none ∧
 ∀ dx,H2 dx=none→dx ≠ e→D.nx σ (upd (upd H2 e (ExcN e C t (some dx))) dx (.xd [(f,y)]))
structure XA (K:PySem.W.Frag) (C:Addr):Prop where
 ga:PySem.W.findIn K (.ref C) "__getattribute__" = some (some (.builtin "BaseException.__getattribute__"))
 gt:PySem.W.findIn K (.ref C) "__getattr__" = some none
 be:PySem.W.mroIn K C (.type "BaseException")=some true
end
section
variable {prog:Program} {w:World} {A:Around} {E:Value→Shared→Prop} {s:Shared} {K:PySem.W.Frag} {x C:Addr} {ox:Obj} {od:Option Obj} {name:Str} {tk:Tok}
end
section
variable {X:Cx} {f:Str}
def tXfld (K:PySem.W.Frag) (ta:TE) (f:Str):TE:=fun σ H Q=>ta σ H fun x H1=>∃ e C Y dx fs v,x=.ref e∧H1 e=some (ExcC e C (some dx))∧H1 dx=some (.xd fs)∧ClsX K C Y∧XA K C∧PySem.W.findIn K (.ref C) f=some none∧fs.lookup f=some v∧Q v H1
end
end L2
end
section
namespace L2
open PySem PySem.Spec PyProof.Rows
section
variable {prog:Program} {w:World} {A:Around} {E:Value→Shared→Prop} {h:Heap} {g:Array GenState} {d:Drawn} {tk:Nat} {os:OsState} {nm qn:Str} {C N:Addr} {bs bm bmB:List Value} {hdct:Bool} {sn:List Str} {sub:List Value} {ab:Bool} {col:Option Bool} {dd:Option Addr} {k0 k1 k2 k3 k5:Option Value} {B newId initId:String}
 {rest:List Value} {fI:Addr} {oI:Obj}
end
section
variable {M:Model} {A:Around} {E:Value→Shared→Prop} {s:Shared} {env:Env} {nm qn:Str} {C N:Addr} {bs bm:List Value} {hdct:Bool} {sn:List Str} {sub:List Value} {ab:Bool} {col:Option Bool} {dd:Option Addr} {k0 k1 k2 k3 k5:Option Value} {newId:String}
end
def spXI (C:Addr) (f:Str):Sp:=fun vs H Q _=>∃ e t v,vs=[.ref e,v]∧H e=some (ExcN e C t none)∧∀ dx,H dx=none→dx ≠ e→Q .non (upd (upd H e (ExcN e C t (some dx))) dx (.xd [(f,v)]))
structure XI (K:PySem.W.Frag) (C Y fI:Addr) (f:Str):Prop where
 cls:ClsX K C Y
 kp:PySem.W.keepIn K (.ref C)=true
 init:PySem.W.findIn K (.ref C) "__init__" = some (some (.ref fI))
 fn:PySem.W.typeIn K (.ref fI)=some (.type "function")
 sa:PySem.W.findIn K (.ref C) "__setattr__" = some (some (.builtin "object.__setattr__"))
 xa:XA K C
 na:PySem.W.findIn K (.ref C) f=some none
def sRaiseI (C:Addr) (f:Str) (E:XK) (t:TA):TS:=fun _ σ H=>t σ H fun vs H1=>∃ v,vs=[v]∧∀ dx,H1 dx=none→E (.ref C) (some dx) (upd H1 dx (.xd [(f,v)]))
section
variable {P:Program} {w:World} {K:PySem.W.Frag} {mg:Str→Option Value} {base:Heap} {N:List Str} {qual:Str} {scope:Scope} {f:Addr} {cd:Value} {A:Around} {outer:List Env} {s₀:Shared} {H₀:Hp} {E:XK}
end
section
variable {K:PySem.W.Frag} {M:Model} {A:Around} {E:Value→Shared→Prop} {s:Shared} {e C B:Addr} {o:Obj} {r:Bool}
end
def Ends.blur (D:Ends) (n:Nat):Ends:={ nx:=fun _ H=>D.nx (List.replicate n none) H,rt:=D.rt,bk:=fun _ H=>D.bk (List.replicate n none) H,ct:=fun _ H=>D.ct (List.replicate n none) H }
section
variable {X:Cx} {σ:St} {H:Hp}
end
structure XG (K:PySem.W.Frag) (C:Addr):Prop where
 xa:XA K C
 hc:(PySem.W.clsIn K C).isSome=true
 cl:PySem.W.findIn K (.ref C) "__class__" = some (some (.builtin "object.__class__"))
 cg:PySem.W.specialIn K (.builtin "object.__class__") "__get__" = some (some (.builtin "getset_descriptor.__get__"))
 ct:PySem.W.takesIn K (.builtin "object.__class__")=some true
 ob:PySem.W.mroIn K C (.type "object")=some true
def rIsiE (K:PySem.W.Frag):List V→Hp→VK→Prop:=fun xs H Q=>∃ e C dx fs c b,xs=[.ref e,c]∧H e=some (ExcC e C (some dx))∧H dx=some (.xd fs)∧XG K C∧((∃ n,c=.ty n∧PySem.W.kitOne K (.ref C) (.type n)=some b)∨(∃ a,c=.ref a∧PySem.W.kitOne K (.ref C) (.ref a)=some b) ∨
 ∃ (a:Addr) (cs:List Addr),c=.ref a∧H a=some (.tup (cs.map V.ref))∧PySem.W.kitAny K (.ref C) (cs.map Value.ref)=some b)∧Q (.bl b) H
theorem refs_of:∀ {cs:List Addr} {its:List Value},Vals (cs.map V.ref) its→its=cs.map Value.ref
 | [],_,.nil=>rfl
 | c :: cs,_,.cons r t=>by
  rw [refs_of t]
  cases r
  rfl
end L2
end
section
namespace L2
open PySem PySem.Spec PyProof.Rows
theorem lk_list_keys:typeLookup (.type "list") "keys" = pure none:=by rw [typeLookup_type,builtinLookup_eq_fast]; kernel_rfl
theorem lk_list_getattr:typeLookup (.type "list") "__getattr__" = pure none:=by rw [typeLookup_type,builtinLookup_eq_fast]; kernel_rfl
theorem ae_sub:isSubtype (.type "AttributeError") (.type "AttributeError")=pure true:=by rw [isSubtype_type]; kernel_rfl
section
variable {prog:Program} {w:World} {A:Around} {E:Value→Shared→Prop} {h:Heap} {g:Array GenState} {d:Drawn} {t:Nat} {os:OsState} {a:Addr} {vs:Array Value} {n:Nat}
theorem attrErr {β:Type} {msg:Str} {Q:β→Shared→Prop} (hh:A.handled=none) (hm:msg.length ≤ sizeLine)
  (hq:∀ h' e tk',(∀ b u,h.get? b=some u→h'.get? b=some u)→(∃ oe,h'.get? e=some oe∧oe.cls=.type "AttributeError")→E (.ref e) ⟨h',g,d,tk',os⟩) :
  wpAny (model prog w) A (raiseAttrError (.ref a) "keys" msg:Sem β) Q E ⟨h,g,d,t,os⟩:=by
 have f5:=ae_sub
 have hm':¬ msg.length > sizeLine:=by omega
 unfold raiseAttrError newExc
 repeat (any_goals (first | assumption | rw [if_neg hm'] | wp_step))
 generalize hoX:({ cls:=Value.type "AttributeError",data:=Data.fields (#[Value.ref h.objs.size,Value.none,Value.none,Value.none,Value.bool false,if ((Manifest.find? "AttributeError").elim false fun t=>t.mro.contains "StopIteration" || t.mro.contains "SystemExit")=true then [Value.str msg t].headD Value.none else Value.none] ++ ownMembersOf (Value.type "AttributeError") [Value.str msg t]) }:Obj)=oX
 have hcX:oX.cls=.type "AttributeError" := by rw [← hoX]
 have hdX:∃ ws,oX.data=.fields ws:=⟨_,by rw [← hoX]⟩
 obtain ⟨ws,hdX⟩:=hdX
 have hX:((h.push { cls:=Value.type "tuple",data:=Data.seq #[Value.str msg t] }).push oX).get? (h.push { cls:=Value.type "tuple",data:=Data.seq #[Value.str msg t] }).objs.size=some oX:=Heap.get?_push_size _ (Obj.isFreed_of_fields hdX)
 refine wpAny_raiseNew_none hh (hq _ _ _ (fun b u hb=>?_) ⟨_,Heap.get?_update_self _ hX (Obj.isFreed_of_fields (Obj.data_mapFields hdX _)),by rw [Obj.cls_mapFields]; exact hcX⟩)
 rw [Heap.get?_update_other _ _ (by rw [Heap.size_push]; exact Nat.ne_of_gt (Nat.lt_succ_of_lt (Heap.lt_size hb)))]
 exact Heap.get?_push_of_some _ (Heap.get?_push_of_some _ hb)
theorem keys_entry {tk:Tok} {Q:Fin→Shared→Prop} (hh:A.handled=none) (hx:h.get? a=some { cls:=.type "list",data:=.seq vs n })
  (hq:∀ h' e tk',(∀ b u,h.get? b=some u→h'.get? b=some u)→(∃ oe,h'.get? e=some oe∧oe.cls=.type "AttributeError")→E (.ref e) ⟨h',g,d,tk',os⟩) :
  wpAny (model prog w) A (Builtin.«object.__getattribute__» ⟨[.ref a,.str "keys" tk],[]⟩) Q E ⟨h,g,d,t,os⟩:=by
 have hT:(⟨h,g,d,t,os⟩:Shared).TypeIs (.ref a) "list" := ⟨_,hx,rfl⟩
 have f4:=lk_list_keys
 have f5:=ae_sub
 repeat (any_goals (first | assumption | wp_step))
 exact attrErr hh (by decide +kernel) hq
theorem keys_none {Q:Option Value→Shared→Prop} (hh:A.handled=none) (hx:h.get? a=some { cls:=.type "list",data:=.seq vs n })
  (hq:∀ h' tk',(∀ b u,h.get? b=some u→h'.get? b=some u)→Q none ⟨h',g,d,tk',os⟩):wpAny (model prog w) A (getAttr? (.ref a) "keys") Q E ⟨h,g,d,t,os⟩:=by
 have hT:(⟨h,g,d,t,os⟩:Shared).TypeIs (.ref a) "list" := ⟨_,hx,rfl⟩
 have f2:=F.slot_list_getattribute.lookup
 have f3:=F.slot_list_getattribute.bind (.ref a)
 have f5:=ae_sub
 have f6:=lk_list_getattr
 unfold getAttr? getAttrBy?
 repeat (any_goals (first | assumption | wp_step))
 refine codeAny_call_builtin F.slot_list_getattribute.plain F.entry_list_ga (F.slot_list_getattribute.check _ _ _ _ _ _ _ _ (show (⟨h,g,d,t + 1,os⟩:Shared).TypeIs (.ref a) "list" from ⟨_,hx,rfl⟩) (F.args_list_getattribute_2 _ _) (keys_entry hh hx fun h' e tk' kp ⟨oe,he,hc⟩=>?_))
 have hTe:(⟨h',g,d,tk',os⟩:Shared).TypeIs (.ref e) "AttributeError" := ⟨_,he,hc⟩
 have hq':=hq h' tk' kp
 unfold getattributeRaised
 repeat (any_goals (first | assumption | wp_step))
 all_goals trace_state
end
theorem entry_dul:entryFor table "dict.update.loop" = some Builtin.«dict.update.loop» := entryFor_of_tree (by kernel_rfl)
section
variable {prog:Program} {w:World} {KT:Type} [DecidableEq KT] {knd:KeyKind prog w KT} {A:Around} {R:Result→Shared→Prop} {l d it:Addr} {tps:List Addr} {prs D0:List (KT×Value)} {h₀:Heap}
def PairsIn (knd:KeyKind prog w KT) (h:Heap) (tps:List Addr) (prs:List (KT×Value)):Prop:=Paired (fun p (q:KT×Value)=>∃ key o n,knd.is q.1 key=true∧h.get? p=some o∧o.cls=.type "tuple" ∧ o.data=.seq #[key,q.2] n) tps prs
end
def rDictP:List V→Hp→VK→Prop:=fun xs H Q=>∃ (l:Addr) (tps:List Addr) (kvs:List (Key×V)),xs=[.ref l]∧H l=some (.lst (tps.map V.ref))∧Paired (fun t (q:Key×V)=>H t=some (.tup [kV q.1,q.2])) tps kvs∧(kvs.map Prod.fst).Nodup∧New H (.dK kvs) Q
end L2
namespace L2
open PySem PySem.Spec PyProof.Rows
theorem comp_items {d:Addr} {o:Obj} {kvs:List (Key×V)} {fr:St→St} {g:TG} {tf:TT} {te:TE} {Q:VK} {σ:St} {H1:Hp} {D:Addr} (Pv:Nat→List V→Hp→Prop) (h0:Pv 0 [] (upd H1 D (.lst []))) (hl:∀ i ys H,i ≤ kvs.length→Pv i ys H→H d=some (.frz o (.dK kvs)))
  (hs:∀ i kv ys H,kvs[i]? = some kv→Pv i ys H→∀ p H2,Same H H2→H p=none→H2 p=some (.tup [kV kv.1,kv.2])→CompT fr g tf te σ D (.ref p) ys H2 (Pv (i + 1))) (hd:∀ ys H,Pv kvs.length ys H→Q (.ref D) H):CompW (Iti d o kvs) fr g tf te Q σ H1 D:=by
 refine ⟨fun i m ys H=>m=kvs.length - i∧i ≤ kvs.length∧Pv i ys H,⟨kvs.length,by simp,Nat.zero_le _,h0⟩,?_⟩
 rintro i m ys H ⟨rfl,hi,p⟩
 have q:=hl i ys H hi p
 by_cases hlt:i < kvs.length
 ·refine .inr ⟨⟨q,hlt⟩,Pv (i + 1),fun ys' H' p'=>⟨kvs.length - (i + 1),by omega,rfl,hlt,p'⟩,fun x H' y=>?_⟩
  obtain ⟨a,kv,e,hn,hkv,e2⟩:=y
  subst e e2
  exact hs i kv ys H hkv p a _ (Same.new hn) hn upd_same
 ·have e:i=kvs.length:=by omega
  subst e
  exact .inl ⟨⟨q,Nat.le_refl _⟩,hd ys H p⟩
end L2
end
section
namespace L2
open PySem
def SameD (K:PySem.W.Frag) (H:Hp) (x y:V):Prop:=SameV K H x y∨∃ a b ka kb,x=.ref a∧y=.ref b∧Rd H a (.dK ka)∧Rd H b (.dK kb)∧ka.length=kb.length∧∀ kv ∈ ka,∃ v,valV kb kv.1=some v∧SameV K H kv.2 v
def EqIn (P:Program) (w:World) (A:Around) (s:Shared) (u v:Value):Prop:=∀ (E:Value→Shared→Prop) (Q:Bool→Shared→Prop),Q true s→wpAny (model P w) A (eqBool u v) Q E s
def rEqLD (K:PySem.W.Frag) (neg:Bool):R2:=fun x y H Q=>∃ a b xs ys,x=.ref a∧y=.ref b∧SqL K H a xs∧SqL K H b ys∧Paired (SameD K H) xs ys∧Q (.bl (!neg)) H
end L2
end
section
namespace L2
open PySem PyProof.Rows
theorem draw_list {P:Program} {w:World} {A:Around} {E:Value→Shared→Prop} {it l:Addr} {its:Array Value} (hh:A.handled=none) (hne:l ≠ it):∀ (n i:Nat) (s:Shared) (Q:List Value→Shared→Prop),(s.heap.IsListIter it l i∧s.heap.IsList l its)→i + n ≤ its.size →
  (∀ h' tk,(h'.IsListIter it l (i + n)∧h'.IsList l its)→(∀ b o,b ∉ [it]→s.heap.get? b=some o→h'.get? b=some o)→Q ((its.toList.drop i).take n) { s with heap:=h',toks:=tk })→wpAny (model P w) A (draw (.ref it) n) Q E s
 | 0,i,s,Q,hst,_,hQ=>by
  show wpAny _ _ (pure []) Q E s
  exact wpAny_pure (by simpa using hQ s.heap s.toks hst fun _ _ _ e=>e)
 | n + 1,i,s,Q,hst,hle,hQ=>by
  have hlt:i < its.size:=by omega
  show wpAny _ _ (pyNext (.ref it) >>= _) Q E s
  refine wpAny_bind ((Walks.list (prog:=P) (w:=w) hh it l hne its).item i s _ _ hlt hst fun v h1 tk1 hv hst1 hk1=>?_)
  refine wpAny_bind (wpAny_holding (draw_list hh hne n (i + 1) _ _ hst1 (by omega) fun h2 tk2 hst2 hk2=>wpAny_pure ?_))
  have hd:its.toList.drop i=its[i] :: its.toList.drop (i + 1):=by simp [List.drop_eq_getElem_cons,hlt]
  have ev:v=its[i]:=by rw [Array.getElem?_eq_getElem hlt] at hv; exact (Option.some.inj hv).symm
  have:=hQ h2 tk2 (by rw [show i + (n + 1)=i + 1 + n by omega]; exact hst2) fun b o hb e=>hk2 b o hb (hk1 b o hb e)
  rw [hd,List.take_succ_cons,← ev] at this
  exact this
theorem unpack_list {P:Program} {w:World} {A:Around} {E:Value→Shared→Prop} {s:Shared} {l:Addr} {its:Array Value} {targets:List (Bool×(Value→Sem Unit))} {Q:Unit→Shared→Prop} (hh:A.handled=none) (hl:s.heap.IsList l its)
  (hn:targets.length=its.size) (hstar:targets.findIdx? (·.1)=none)
  (h:∀ h' tk,(∀ b o,s.heap.get? b=some o→h'.get? b=some o)→wpAny (model P w) A (assignInOrder (targets.map (·.2)) its.toList) Q E { s with heap:=h',toks:=tk }) :
  wpAny (model P w) A (unpack (.ref l) targets) Q E s:=by
 have hlt:l < s.heap.objs.size:=by obtain ⟨o,ho,_⟩:=hl; exact Heap.lt_size ho
 have ty:s.TypeIs (.ref l) "list" := by obtain ⟨o,ho,hc,_⟩:=hl; exact ⟨o,ho,hc⟩
 unfold unpack
 rw [hn,hstar]
 refine wpAny_bind (wpAny_holding ?_)
 unfold unpackItems
 refine wpAny_bind ?_
 unfold notIterableAtAll
 refine wpAny_bind (wpAny_specialOf ty F.slot_list_iter.lookup ?_)
 refine wpAny_pure ?_
 simp only [Bool.false_eq_true,if_false]
 refine wpAny_bind (wpAny_holding (wpAny_pyIter_list hl ?_))
 have hne:l ≠ s.heap.objs.size:=Nat.ne_of_lt hlt
 refine wpAny_bind (wpAny_holding (draw_list hh hne its.size 0 _ _ ⟨⟨_,Heap.get?_push_size _ rfl,rfl,rfl⟩,hl.push _⟩ (by omega) fun h1 tk1 hst1 hk1=>?_))
 have hall:List.take its.size (List.drop 0 its.toList)=its.toList:=by
  rw [List.drop_zero]; exact List.take_of_length_le (by simp)
 rw [hall]
 rw [if_neg (by simp)]
 rw [Nat.zero_add] at hst1
 refine wpAny_bind (wpAny_holding ((Walks.list (prog:=P) (w:=w) hh s.heap.objs.size l hne its).done _ _ _ hst1 fun h2 tk2 hk2=>?_))
 simp only [Option.isSome_none,Bool.false_eq_true,if_false]
 refine wpAny_pure (h h2 tk2 fun b o e=>?_)
 have hb:b ∉ [s.heap.objs.size]:=fun z=>by
  have z':b=s.heap.objs.size:=by simpa using z
  rw [z'] at e
  exact Nat.lt_irrefl _ (Heap.lt_size e)
 exact hk2 b o hb (hk1 b o hb (Heap.get?_push_of_some _ e))
def gLst (K:PySem.W.Frag) (n:Nat) (t:TGs):TG:=fun v σ H Q=>∃ a xs,v=.ref a∧SqL K H a xs∧xs.length=n∧t xs σ H Q
theorem pg_lst {X:Cx} {pos:Pos} {es:List Expr} {k:Nat} {t:TGs} {n:Nat} (hc:X.calm=true) (h:PGs X es t)
  (hn:(assignEach es X.env).length=n:=by rfl) (hst:(assignEach es X.env).findIdx? (·.1)=none:=by rfl):PG X (.Tuple es k pos) (gLst X.K n t):=by
 intro pins s σ H v u Q I r hw
 obtain ⟨a,xs,e1,hq,hl,hw⟩:=hw
 subst e1
 cases r
 obtain ⟨its,rv,ht,hz⟩:=I.list hq
 rw [assign_Tuple]
 refine wpAny_bind (wpAny_standAt (unpack_list (I.ok.hd hc) ht.isList (by simp [hn,← hl,rv.length]) hst fun h' tk hx=>?_))
 have I1:Inv X pins σ H { s with heap:=h',toks:=tk }:=I.kept (t':=tk) fun b o e=>hx b o e
 exact h pins _ σ H xs _ Q I1 (by simpa using rv) hw
def sumL (ns:List Int):Int:=ns.foldl (· + ·) 0
theorem preSum_take (ns:List Int):∀ j,preSum (fun i=>ns.getD i 0) j=sumL (ns.take j)∨ns.length < j
 | 0=>.inl rfl
 | j + 1=>by
  by_cases h:ns.length < j + 1
  ·exact .inr h
  ·refine .inl ?_
   rcases preSum_take ns j with e | e
   ·have hj:j < ns.length:=by omega
    rw [preSum,e,List.take_add_one,List.getElem?_eq_getElem hj]
    unfold sumL
    rw [List.foldl_append,List.getD_eq_getElem?_getD,List.getElem?_eq_getElem hj]
    rfl
   ·omega
theorem call_sum {X:Cx} (hc:X.calm=true):CallR X (.builtin "sum") (fun xs H Q=>∃ (p:Addr) (ns:List Int),xs=[.ref p]∧SqL X.K H p (ns.map V.int)∧Q (.int (sumL ns)) H):=by
 intro pins s σ H xs us Q I r h
 obtain ⟨p,ns,rfl,hq,q⟩:=h
 obtain ⟨u,rfl,ru⟩:=vals1 r
 cases ru
 obtain ⟨its,rv,pl,hz⟩:=I.list hq
 have hlt:p < s.heap.objs.size:=by obtain ⟨_,_,e,_⟩:=pl; exact Heap.lt_size e
 refine call_sum_walkG (wpAny_pyIter_list pl.isList ?_)
 refine ⟨s.heap.objs.size,_,_,its.toArray.size,_,_,fun i=>ns.getD i 0,rfl,Walks.list (A:=X.A.in1) (show X.A.in1.handled=none from I.ok.hd hc) s.heap.objs.size p (Nat.ne_of_lt hlt) its.toArray,⟨⟨_,Heap.get?_push_size _ rfl,rfl,rfl⟩,pl.isList.push _⟩,?_,?_,fun h' tk t' k=>?_⟩
 ·intro b hb
  have:=Heap.size_push s.heap { cls:=.type "list_iterator",data:=.fields #[.ref p,.int 0 0] }
  have hb':b=s.heap.objs.size∨b=p:=by simpa using hb
  show b < (s.heap.push _).objs.size
  rw [this]
  rcases hb' with rfl | rfl
  ·exact Nat.lt_succ_self _
  ·exact Nat.lt_succ_of_lt hlt
 ·intro i v hv
  obtain ⟨x,hx,rx⟩:=Paired.get' rv (i:=i) (b:=v) (by simpa using hv)
  rw [List.getElem?_map] at hx
  obtain ⟨n,hn,rfl⟩:=Option.map_eq_some_iff.mp hx
  obtain ⟨t,rfl⟩:=rx
  exact ⟨t,by show Value.int n t=Value.int (ns.getD i 0) t; rw [List.getD_eq_getElem?_getD,hn]; rfl⟩
 ·have hl:=rv.length
  rw [List.length_map] at hl
  refine ⟨.int (sumL ns),H,?_,?_,q⟩
  ·refine I.kept (t':=tk) fun b o e=>k b o ?_ (Heap.get?_push_of_some _ e)
   have:=Heap.lt_size e
   intro z
   have z':b=s.heap.objs.size:=by simpa using z
   rw [z'] at this
   exact Nat.lt_irrefl _ this
  ·refine ⟨t',?_⟩
   rw [List.size_toArray,← hl]
   rcases preSum_take ns ns.length with e | e
   ·rw [e,List.take_length]
   ·omega
def repS (x:Str) (n:Nat):Str:=⟨(List.replicate n x.cps).foldl (· ++ ·) #[]⟩
def rMulS:R2:=fun x y H Q=>∃ (z:Str) (n:Nat),x=.str z∧y=.int n∧z.length * n ≤ 1000∧n ≤ 1000∧Q (.str (repS z n)) H
theorem op_mulS {X:Cx}:OpR X (binaryOp .Mult) rMulS:=by
 intro pins s σ H x y v u Q I rx ry h
 obtain ⟨z,n,rfl,rfl,hz,hn,q⟩:=h
 obtain ⟨t,rfl⟩:=rx
 obtain ⟨t',rfl⟩:=ry
 refine PySem.P.mul_str ?_ ?_ ?_ ?_
 ·rw [decide_eq_false (by omega),decide_eq_false (by omega)]; rfl
 ·intro h1 h2 h3
  have:((2:Int) ^ 63 - 1) / (n:Int) ≥ 1000:=by
   rw [ge_iff_le,Int.le_ediv_iff_mul_le (by omega)]
   omega
  have hz1:z.length ≤ z.length * n:=Nat.le_mul_of_pos_right _ (by omega)
  omega
 ·intro h1 h2
  show decide (z.length * (n:Int).toNat > sizeLine)=false
  rw [decide_eq_false]
  have:=sz (n:=z.length * n) hz
  rw [Int.toNat_natCast]
  omega
 ·by_cases h0:n=0
  ·subst h0
   rw [if_pos (by decide)]
   exact ⟨by decide,.str (repS z 0),H,I.kept fun b o e=>e,⟨_,rfl⟩,q⟩
  ·rw [if_neg (by omega)]
   by_cases h1:((n:Int) == 1 || z.length == 0)=true
   ·rw [if_pos h1]
    refine ⟨.str (repS z n),H,I,⟨t,?_⟩,q⟩
    have:repS z n=z:=by
     rw [Bool.or_eq_true,beq_iff_eq,beq_iff_eq] at h1
     rcases h1 with e | e
     ·have e:n=1:=by omega
      subst e
      unfold repS
      simp
     ·have e:z.cps=#[]:=Array.eq_empty_of_size_eq_zero e
      have:∀ m,(List.replicate m (#[]:Array Nat)).foldl (· ++ ·) #[]=#[]:=fun m=>by
       induction m with
       | zero=>rfl
       | succ m ih=>rw [List.replicate_succ,List.foldl_cons]; simpa using ih
      unfold repS
      rw [e,this n]
      cases z
      simp at e
      rw [e]
    rw [this]
   ·rw [if_neg h1,Int.toNat_natCast]
    refine ⟨?_,.str (repS z n),H,I.kept fun b o e=>e,⟨_,rfl⟩,q⟩
    exact fits_reps (by show decide (_ > sizeLine)=false; rw [decide_eq_false]; have:=sz (n:=z.length * n) hz; omega)
def tRev (K:PySem.W.Frag) (te:TE) (ts:TO):TE:=fun σ H Q=>te σ H fun x H1=>ts σ H1 fun k H2=>∃ a xs,k=some (-1)∧x=.ref a∧SqL K H2 a xs∧New H2 (.lst xs.reverse) Q
theorem Vals.rev {xs:List V} {us:List Value} (h:Vals xs us):Vals xs.reverse us.reverse:=by
 induction h with
 | nil=>exact .nil
 | cons r _ ih=>rw [List.reverse_cons,List.reverse_cons]; exact Paired.append ih (.cons r .nil)
theorem pe_rev {X:Cx} {e st:Expr} {te:TE} {ts:TO} {p2 pos:Pos} {ops:Value→Value→List Value} (he:PE X e te) (hst:PO X (some st) ts) (hs:∀ l r,subscripted (.Slice none none (some st) p2) false l r=operate (ops l r) (getItem l r)):PE X (.Subscript e (.Slice none none (some st) p2) pos) (tRev X.K te ts):=by
 intro pins s σ H Q I h
 refine Subscript_ (thn (he pins s σ H _ I h) fun v s1 ⟨x,H1,I1,r1,q1⟩=>?_)
 refine wpAny_Slice ?_
 rw [evalPart_none]
 refine wpAny_pure ?_
 refine wpAny_pure ?_
 refine thn (hst pins s1 σ H1 _ I1 q1) fun vk s3 ⟨k,H3,I3,pk,a,xs,hk,hx,hq,q⟩=>?_
 subst hk hx
 cases r1
 have I4:Inv X pins σ H3 { s3 with heap:=s3.heap.push { cls:=.type "slice",data:=.fields #[.none,.none,vk] } }:=I3.kept (t':=s3.toks) fun b ob q=>Heap.get?_push_of_some _ q
 obtain ⟨its,r,ht,hz⟩:=I4.list hq
 show wpAny (model X.prog X.w) X.A (subscriptTail e (.Slice none none (some st) p2) (.ref a) (.ref s3.heap.objs.size)) (EP X pins σ Q) X.xe { s3 with heap:=s3.heap.push { cls:=.type "slice",data:=.fields #[.none,.none,vk] } }
 refine tail_any (ops:=ops (.ref a) (.ref s3.heap.objs.size)) ht.isList.typeIs slot_list_getitem.lookup ?_ (hs _ _)
 refine wpAny_getItem_list_slice ht.isList (Heap.IsSliceOf.new ..) .none .none pk (by simp) ?_ (by rw [List.size_toArray,← r.length]; exact hz)
 rw [PySem.W.krv_pick]
 refine ⟨.ref _,_,I4.laid (t':=s3.toks) (o:=.lst xs.reverse) (fun b ob q=>Heap.get?_push_of_some _ q) (Nat.le_refl _) ?_,rfl,q.at _ (I4.hok.fresh (Nat.le_refl _))⟩
 exact ⟨by rw [List.length_reverse]; exact hz,_,0,Vals.rev r,Heap.get?_push_size _ rfl⟩
end L2
end
section
namespace L2
open PySem PySem.Spec PyProof.Rows
section
variable {prog:Program} {w:World} {KT:Type} [DecidableEq KT] {knd:KeyKind prog w KT} {A:Around} {l d:Addr} {tps:List Addr} {prs D0:List (KT×Value)} {s:Shared} {Q:Value→Shared→Prop} {E:Value→Shared→Prop} {n:Nat}
end
def tDUpd (td ty:TE):TE:=fun σ H Q=>td σ H fun x H1=>∃ a,x=.ref a∧IsD H1 a∧ty σ H1 fun y H2=>∃ (l:Addr) (tps:List Addr) (kvs more:List (Key×V)),y=.ref l∧H2 a=some (.dK kvs)∧H2 l=some (.lst (tps.map V.ref))∧Paired (fun t (q:Key×V)=>H2 t=some (.tup [kV q.1,q.2])) tps more∧kvs.length + more.length ≤ sizeLine∧Q .non (upd H2 a (.dK (mergeK kvs more)))
section
variable {X:Cx} {o e:Expr} {apos cpos:Pos} {td ty:TE}
end
end L2
namespace L2
open PySem PySem.Spec PyProof.Rows
def tabOf (pos:Pos) (q:Str):Array Value:=#[rawInt pos.line,rawInt pos.col,.str q 0]
abbrev Fz (o:Obj):HO:=.frz o (.frz o (.own 0))
def Clo (H:Hp) (Pt fl:Addr) (q:Str) (la:Arguments) (lb:Expr) (ls:Scope) (clos:List (Str×Addr)):Prop :=
 ∃ (pm ctv:Value) (c:Addr) (oc:Obj) (vs:Array Value) (tt:Nat),H fl=some (Fz (PySem.W.kla_obj "<lambda>" q la lb ls clos pm c ctv))∧H c=some (.frz oc (.own Pt))∧oc.data=.fields vs∧vs[1]? = some (.str q tt)
def CellAt (H:Hp) (c:Addr) (v:V):Prop:=∃ o u,H c=some (Fz o)∧o.data=.cell (some u)∧RelV v u
section
variable {X:Cx} {pins:List (Addr×Obj)} {σ:St} {H:Hp} {s:Shared} {Q:Value→Shared→Prop} {la:Arguments} {lb:Expr} {ls:Scope} {lp:Pos} {c Pt:Addr} {clos:List (Str×Addr)}
end
open Classical in
noncomputable def addC (cells:List (Str×Addr)) (H:Hp) (h:Heap):Hp:=fun b=>if ∃ x,cells.lookup x=some b then (h.get? b).map Fz else H b
section
variable {X:Cx} {pins:List (Addr×Obj)} {σ:St} {H:Hp} {s:Shared} {Q:VK}
end
def LamW (X:Cx) (Pt:Addr) (Q:VK) (la:Arguments) (lb:Expr) (ls:Scope) (lp:Pos) (σ:St) (H:Hp):Prop :=
 defaultsOf la X.env=([],[])∧H Pt=some (.tbl (tabOf lp (X.env.qual ++ "<lambda>")))∧∃ clos,closureFor ls X.env=pure clos ∧
 ∀ fl H',Same H H'→H fl=none→Clo H' Pt fl (X.env.qual ++ "<lambda>") la lb ls clos→(∀ (i:Nat) (x:Str) (v:V) (c:Addr),X.N[i]? = some x→σ[i]? = some (some v)→X.env.scope.names.lookup x=some .cell→X.env.cells.lookup x=some c→H c=none∧CellAt H' c v)→Q (.ref fl) H'
inductive MkW (X:Cx) (Pt:Addr) (Q:VK):List Stmt→St→Hp→Prop
 | last {la lb ls lp rp σ H rest}:LamW X Pt Q la lb ls lp σ H→MkW X Pt Q (.Return (some (.Lambda la lb ls lp)) rp :: rest) σ H
 | step {st rest σ H} (M:St→Hp→Prop):WS X st { nx:=M,rt:=fun _ _=>False } σ H→(∀ σ' H',M σ' H'→MkW X Pt Q rest σ' H')→MkW X Pt Q (st :: rest) σ H
def LmIn (K:PySem.W.Frag) (fd:FuncData) (Pt:Addr):Prop:=∃ c,fd.code=.ref c∧PySem.W.codeHdIn K c Pt=true
section
variable {P:Program} {w:World} {K:PySem.W.Frag} {mg:Str→Option Value} {base:Heap}
end
def Callee (P:Program) (w:World) (K:PySem.W.Frag) (mg:Str→Option Value) (base:Heap) (k:Nat) (f:Addr) (H:Hp) (vs:List V) (Q:VK):Prop :=
 ∀ (A:Around) (outer:List Env) (s:Shared) (us:List Value),Room k A→Env0 P w K mg base A outer s H→Vals vs us→codeAny (model P w) A (.call (.ref f) ⟨us,[]⟩) (CR CX0 outer P w H s Q E0) s
def FnO (H:Hp) (f:Addr):Prop:=∃ oc od fd sl u,H f=some (.frz ⟨oc,od,.func fd,sl⟩ u)
def tCallV (P:Program) (w:World) (K:PySem.W.Frag) (mg:Str→Option Value) (base:Heap) (k:Nat) (te:TE) (t:TA):TE:=fun σ H Q=>te σ H fun x H1=>∃ f,x=.ref f∧FnO H1 f∧t σ H1 fun vs H2=>FnO H2 f∧Callee P w K mg base k f H2 vs Q
def cxLam (P:Program) (w:World) (K:PySem.W.Frag) (mg:Str→Option Value) (base:Heap) (N:List Str) (q:Str) (scope:Scope) (f:Addr) (cd:Value) (cells:List (Str×Addr)) (A:Around) (outer:List Env) (s:Shared) (H:Hp):Cx where
 prog:=P
 w:=w
 K:=K
 mg:=mg
 base:=base
 A:=A.deeper (PySem.W.envX q scope s.heap.objs.size f cd cells)
 N:=N
 s₀:=s
 H₀:=H
 env:=PySem.W.envX q scope s.heap.objs.size f cd cells
 outer:=outer
 stack:=PySem.W.envX q scope s.heap.objs.size f cd cells :: outer
 ex:=[]
 calm:=true
 fn:=fun _=>false
 pn:=[]
 xe:=fun _ _=>False
def offL (H:Hp) (cells:List (Str×Addr)):Hp:=fun b=>if b ∈ cells.map Prod.snd then none else H b
def Soft:HO→Prop
 | .frz _ _=>False
 | _=>True
structure Lit (H:Hp) (ls:Scope) (clos:List (Str×Addr)) (fs:List Str) (fvs:List V):Prop where
 cells:Paired (fun x v=>ls.names.lookup x=some .free∧∃ c,clos.lookup x=some c∧CellAt H c v) fs fvs
 all:∀ p ∈ clos,p.1 ∈ fs
 one:(clos.map Prod.fst).Nodup
 apart:(clos.map Prod.snd).Nodup
open Classical in
noncomputable def backL (H H':Hp) (cells:List (Str×Addr)):Hp:=fun b=>if b ∈ cells.map Prod.snd then H b else H' b
section
variable {P:Program} {w:World} {K:PySem.W.Frag} {mg:Str→Option Value} {base:Heap}
end
def lamE (s:Stmt):Expr:=match (defBody s).getLast? with
 | some (.Return (some e) _)=>e
 | _=>.Constant .none 0 ⟨0,0,0,0⟩
def lamArgs:Expr→Arguments
 | .Lambda a _ _ _=>a
 | _=>{ posonlyargs:=[],args:=[],vararg:=none,kwonlyargs:=[],kw_defaults:=[],kwarg:=none,defaults:=[] }
def lamBody:Expr→Expr
 | .Lambda _ b _ _=>b
 | e=>e
def lamScope:Expr→Scope
 | .Lambda _ _ s _=>s
 | _=>{ kind:=.function,names:=[],isGenerator:=false,isCoroutine:=false }
def lamPos:Expr→Pos
 | .Lambda _ _ _ p=>p
 | _=>⟨0,0,0,0⟩
end L2
namespace L2
open PySem PySem.Spec PyProof.Rows
structure TabOkS (K:PySem.W.Frag) (h:Heap) (tabs:List (Addr×Array Value)):Prop where
 cod:∀ p ∈ tabs,∃ c,PySem.W.codeHdIn K c p.1=true
 emp:∀ p ∈ tabs,h.get? p.1=some (PySem.W.tabObj #[])
 shape:∀ p ∈ tabs,∃ pos q,p.2=tabOf pos q
 nd:(tabs.map Prod.fst).Nodup
 nt:PySem.W.noTabs K=true
def spLawT (K:PySem.W.Frag) (tabs:List (Addr×Array Value)):Sp:=fun vs H Q _=>∃ (a:Addr) (ns:List Int),vs=[.ref a]∧SqL K H a (ns.map V.int)∧ns.length ≤ 63∧(∀ p ∈ tabs,H p.1=some (.tbl p.2))∧∀ H',Q (.bl true) H'
end L2
end
section
namespace L2
open PySem PySem.Spec PyProof.Rows
def tSwap (K:PySem.W.Frag) (te:TE) (i j:Nat):TS:=fun D σ H=>te σ H fun v H1=>∃ p u1 u2,v=.ref p∧SqT K H1 p [u1,u2]∧D.nx ((σ.set j (some u2)).set i (some u1)) H1
end L2
end
section
namespace L2
open PySem PySem.Spec PyProof.Rows
section
variable {X:Cx} {σ:St} {H:Hp}
end
def rIsiN (K:PySem.W.Frag):List V→Hp→VK→Prop:=fun xs H Q=>∃ e C c b,xs=[.ref e,c]∧H e=some (ExcC e C none)∧XG K C∧((∃ n,c=.ty n∧PySem.W.kitOne K (.ref C) (.type n)=some b)∨(∃ a,c=.ref a∧PySem.W.kitOne K (.ref C) (.ref a)=some b))∧Q (.bl b) H
def rCountB:V→List V→Hp→VK→Prop:=fun x vs H Q=>∃ (l:Addr) (bs:List Bool) (b:Bool),x=.ref l∧vs=[.bl b]∧H l=some (.lst (bs.map V.bl))∧Q (.int (bs.countP (fun c=>c == b):Nat)) H
def isB (b:Bool):Value→Bool
 | .bool c=>c == b
 | _=>false
theorem pe_const {X:Cx} {x v:Str} {pos:Pos} (hg:Gl X x) (h:∃ tk,X.mg x=some (.str v tk)) (hd:(x == ("__debug__" : Str))=false:=by decide):PE X (.Name x pos) (tC (.str v)):=by
 obtain ⟨tk,h⟩:=h
 exact pe_glob hg h ⟨tk,rfl⟩ hd
def rNotInO (K:PySem.W.Frag):R2:=fun x y H Q=>∃ (p l:Addr) (xs:List V) (ss:List Str),x=.ref l∧y=.ref p∧SqL K H p (ss.map V.str)∧SqL K H l xs∧Q (.bl true) H
def rNotInZ (K:PySem.W.Frag):R2:=fun x y H Q=>rNotInY K x y H Q∨rNotInO K x y H Q
theorem pw_of_rising:∀ {p:Str} {l:List Str},risingS p l=true→(p :: l).Pairwise (fun a b=>ltCps b.cps.toList a.cps.toList=false)
 | p,[],_=>by simp
 | p,x :: r,h=>by
  rw [show risingS p (x :: r)=(!ltCps x.cps.toList p.cps.toList && risingS x r) from rfl,Bool.and_eq_true,Bool.not_eq_true'] at h
  have ih:=pw_of_rising h.2
  refine List.pairwise_cons.mpr ⟨fun b hb=>?_,ih⟩
  rcases List.mem_cons.mp hb with z | z
  ·rw [z]; exact h.1
  ·have h2:=List.rel_of_pairwise_cons ih z
   have h1:=h.1
   rw [ltCps_eq,decide_eq_false_iff_not] at h1 h2 ⊢
   exact List.not_lt.mpr (List.le_trans (List.not_lt.mp h1) (List.not_lt.mp h2))
theorem sorted_one {l l':List Str} (h:sortedS l=true) (h':sortedS l'=true) (p:l.Perm l'):l=l':=by
 have pw:∀ {l:List Str},sortedS l=true→l.Pairwise (fun a b=>ltCps b.cps.toList a.cps.toList=false):=fun {l} h=>by
  cases l with
  | nil=>exact .nil
  | cons x r=>exact pw_of_rising h
 refine p.eq_of_pairwise (fun a b _ _ h1 h2=>?_) (pw h) (pw h')
 rw [ltCps_eq,decide_eq_false_iff_not] at h1 h2
 have e:=List.le_antisymm (List.not_lt.mp h1) (List.not_lt.mp h2)
 cases a; cases b
 simpa using Array.toList_inj.mp e
end L2
end
section
namespace L2
open PySem PySem.Spec PyProof.Rows
structure DnD (K:PySem.W.Frag) (x qual:Str) (st:Stmt) (ps:List Str) (v:V) where
 f:Addr
 fd:FuncData
 dV:Value
 F:FunD K x qual st dV f fd
 b:Binds K fd ps []
 u:Value
 r:RelV v u
 b1:Binds K fd ps [u]
theorem FunD.okW {P:Program} {w:World} {K:PySem.W.Frag} {mg:Str→Option Value} {base:Heap} {x qual:Str} {st:Stmt} {dV:Value} {f:Addr} {fd:FuncData} {N ps:List Str} {k:Nat} {sp:Sp} (F:FunD K x qual st dV f fd) (S:FnScope N ps (defScope st)) (len:∀ vs H Q E,sp vs H Q E→vs.length=ps.length)
  (hbody:∀ (cdv:Value) (A:Around) (outer:List Env) (s:Shared) (H:Hp) (vs:List V) (Q:VK) (E:XK),Room k (A.deeper (envOfC qual (defScope st) s.heap.objs.size f cdv))→sp vs H Q E →
   WSs (cxOf CX0 P w K mg base N qual (defScope st) f cdv A outer s H E).nox (defBody st) { nx:=fun _ H'=>Q .non H',rt:=Q } (start N vs) H):FnOk P w K mg base CX0 (k + 1) f fd ps sp:=FunD.ok F S len hbody
theorem pe_constI {X:Cx} {x:Str} {v:Int} {pos:Pos} (hg:Gl X x) (h:∃ tk,X.mg x=some (.int v tk)) (hd:(x == ("__debug__" : Str))=false:=by decide):PE X (.Name x pos) (tC (.int v)):=by
 obtain ⟨tk,h⟩:=h
 exact pe_glob hg h ⟨tk,rfl⟩ hd
theorem nd_take {α:Type} {l:List α} {i:Nat} {a:α} (nd:l.Nodup) (h:l[i]? = some a):a ∉ l.take i:=fun m=>by
 have e:l=l.take i ++ (a :: l.drop (i + 1)):=by rw [← drop_get h,List.take_append_drop]
 rw [e,List.nodup_append] at nd
 exact nd.2.2 a m a List.mem_cons_self rfl
section
variable {prog:Program} {w:World} {KT:Type} [DecidableEq KT] {knd:HeapKind prog w KT} {A:Around} {E:Value→Shared→Prop} {s:Shared}
theorem lenH_meets (c:Addr) (hc:(c == sysModules)=false):MeetsIn prog w (Builtin.«dict.__len__» ⟨[.ref c],[]⟩) (fun _ R s=>∃ ys,s.heap.DictOfH knd c ys∧R (.ok (.ret (.int ys.length s.toks))) { s with toks:=s.toks + 1 }) :=
 .of_wp fun A R s ⟨ys,hm,h⟩=>by
  obtain ⟨ob,es,ep,hob,_,hda,hen,_,_⟩:=hm
  show wpAny _ _ (dictSize c >>= _) _ _ s
  unfold dictSize
  refine wpAny_bind (wpAny_bind (wpAny_dictEntries hob hda (wpAny_pure ?_)))
  show wpAny _ _ (Builtin.Dict.pendingCount c >>= _) _ _ s
  refine wpAny_bind (wpAny_pendingCount_other hc (wpAny_ret_mkInt ?_))
  rw [Nat.add_zero,size_of_entries hen]; exact h
theorem call_lenH {c:Addr} {ys:List (KT×Addr×Value)} {Q:Value→Shared→Prop} (hc:(c == sysModules)=false) (hm:s.heap.DictOfH knd c ys) (hf:(ys.length:Int) < 2 ^ 63)
  (h:Q (.int ys.length (s.toks + 1)) { s with toks:=s.toks + 1 + 1 }):wpAny (model prog w) A (call (.builtin "len") [.ref c]) Q E s:=by
 refine Calls.call_function_entry kind_len plain_len entry_len (args_len1 _) ?_
 unfold Builtin.«len»
 refine wpAny_bind (m:=oneArg "len" _) (wpAny_pure (wpAny_bind (m:=callSpecial? (.ref c) (Str.ofString "__len__")) ?_))
 refine wpAny_callSpecial?_slot (name:=Str.ofString "__len__") hm.typeIs F.slot_dict_len (call_meetsIn F.slot_dict_len hm.typeIs F.entry_dict_len (F.args_dict_len_1 _) (lenH_meets (knd:=knd) c hc) ⟨ys,hm,?_⟩)
 show wpAny _ _ _ _ _ { s with toks:=s.toks + 1 }
 refine wpAny_bind (wpAny_holding (wpAny_pure (wpAny_bind (wpAny_letGo ?_))))
 show wpAny _ _ (if ((ys.length:Nat):Int) < 0 then _ else _) _ _ _
 rw [if_neg (by omega)]
 show wpAny _ _ (if ((ys.length:Nat):Int) ≥ 2 ^ 63 then _ else _) _ _ _
 rw [if_neg (by omega)]
 exact wpAny_bind (wpAny_mkInt (wpAny_pure ⟨_,rfl,h⟩))
end
def rLenT:List V→Hp→VK→Prop:=fun xs H Q=>∃ a kvs,xs=[V.ref a]∧H a=some (.dT kvs)∧Q (.int kvs.length) H
theorem call_lenT {X:Cx}:CallR X (.builtin "len") rLenT:=by
 intro pins s σ H xs us Q I r h
 obtain ⟨a,kvs,rfl,ha,q⟩:=h
 obtain ⟨u,rfl,ru⟩:=vals1 r
 cases ru
 obtain ⟨z,hd,ys,rel,dd⟩:=dt_of I.hok ha
 have hl:kvs.length=ys.length:=Paired.length rel
 refine call_lenH hd dd (by rw [← hl]; rw [sizeLine_eq] at z; omega) ?_
 rw [← hl]
 exact ⟨.int _,H,I.tok _,⟨_,rfl⟩,q⟩
section
variable {prog:Program} {w:World} {KT:Type} [DecidableEq KT] {knd:HeapKind prog w KT} {A:Around} {R:Result→Shared→Prop} {l d it:Addr} {tps:List Addr} {qs:List (KT×Addr×Value)} {h₀:Heap}
def PairsInH (knd:HeapKind prog w KT) (h:Heap) (tps:List Addr) (qs:List (KT×Addr×Value)):Prop :=
 Paired (fun p (q:KT×Addr×Value)=>(∃ o n,h.get? p=some o∧o.cls=.type "tuple" ∧ o.data=.seq #[.ref q.2.1,q.2.2] n)∧∃ ok,h.get? q.2.1=some ok∧∀ h':Heap,h'.get? q.2.1=some ok→knd.is h' q.1 q.2.1) tps qs
theorem PairsInH.key {h:Heap} (hp:PairsInH knd h tps qs):∀ q ∈ qs,∃ ok,h.get? q.2.1=some ok∧∀ h':Heap,h'.get? q.2.1=some ok→knd.is h' q.1 q.2.1:=by
 unfold PairsInH at hp
 induction hp with
 | nil=>intro q z; cases z
 | cons r _ ih =>
  intro q z
  rcases List.mem_cons.mp z with rfl | z
  ·exact r.2
  ·exact ih q z
theorem dictH_at {h h':Heap} {ys:List (KT×Addr×Value)} (hD:h.DictOfH knd d ys) (hd:∀ o,h.get? d=some o→h'.get? d=some o) (hk:∀ y ∈ ys,knd.is h' y.1 y.2.1):h'.DictOfH knd d ys:=by
 obtain ⟨o,es,ep,ho,r1,r2,r3,_,r5⟩:=hD
 exact ⟨o,es,ep,hd o ho,r1,r2,r3,hk,r5⟩
theorem pairsH_loop (hh:A.handled=none) (hu:knd.room A.in1) (hdi:d ≠ it) (hl:h₀.IsList l (tps.map Value.ref).toArray) (hld:l ≠ d) (hli:l ≠ it) (hp:PairsInH knd h₀ tps qs) (hnd:(qs.map (·.1)).Nodup) (hsz:qs.length ≤ sizeLine)
  (hpd:∀ p ∈ tps,p ≠ d∧p ≠ it) (hqd:∀ q ∈ qs,q.2.1 ≠ d∧q.2.1 ≠ it) :
  ∀ (n i:Nat) (s:Shared) (j:Int) (tk:Tok),i + n=qs.length→s.heap.IsListIter it l i→s.heap.DictOfH knd d (qs.take i)→(∀ b o,b ≠ d→b ≠ it→h₀.get? b=some o→s.heap.get? b=some o) →
   (∀ h' tk',h'.DictOfH knd d qs→(∀ b o,b ≠ d→b ≠ it→h₀.get? b=some o→h'.get? b=some o)→R (.ok (.ret .none)) { s with heap:=h',toks:=tk' }) →
   codeAny (model prog w) A (.builtin "dict.update.loop" ⟨[.ref d,.ref it,.int j tk,.none],[]⟩) R s:=by
 have hlen:tps.length=qs.length:=Paired.length hp
 have hkey:=hp.key
 have hu':∀ args:Args,knd.room (A.under (.builtin "dict.update.loop" args)):=fun args=>by rw [Around.under_plainId (by decide +kernel)]; exact hu
 have is_:∀ h':Heap,(∀ b o,b ≠ d→b ≠ it→h₀.get? b=some o→h'.get? b=some o)→∀ q ∈ qs,knd.is h' q.1 q.2.1:=fun h' kp q hq=>by
  obtain ⟨ok,h1,h2⟩:=hkey q hq
  exact h2 h' (kp _ _ (hqd q hq).1 (hqd q hq).2 h1)
 intro n
 induction n with
 | zero =>
  intro i s j tk hi hit hD keep hq
  have hl':s.heap.IsList l (tps.map Value.ref).toArray:=by
   obtain ⟨o,ho,r⟩:=hl
   exact ⟨o,keep _ _ hld hli ho,r⟩
  refine codeAny_builtin entry_dul ?_
  unfold Builtin.«dict.update.loop»
  dsimp only
  refine wpAny_bind (wpAny_pyNext_list_end hh hit hl' (by rw [List.getElem?_toArray,List.getElem?_map,List.getElem?_eq_none (by omega)]; rfl) fun h' eb=>?_)
  dsimp only
  refine wpAny_bind (wpAny_pure (wpAny_pure ?_))
  have kp:∀ b o,b ≠ d→b ≠ it→h₀.get? b=some o→h'.get? b=some o:=fun b o h1 h2 h3=>eb b o h2 (keep b o h1 h2 h3)
  refine hq h' s.toks ?_ kp
  rw [show qs.take i=qs from List.take_of_length_le (by omega)] at hD
  exact dictH_at hD (fun o ho=>eb d o hdi ho) (is_ h' kp)
 | succ n ih =>
  intro i s j tk hi hit hD keep hq
  have hl':s.heap.IsList l (tps.map Value.ref).toArray:=by
   obtain ⟨o,ho,r⟩:=hl
   exact ⟨o,keep _ _ hld hli ho,r⟩
  have hit':i < tps.length:=by omega
  obtain ⟨q,hqi,⟨ot,nt,hpt,hct,hdt⟩,_⟩:=Paired.get hp (i:=i) (a:=tps[i]) (List.getElem?_eq_getElem hit')
  obtain ⟨nd,ni⟩:=hpd tps[i] (List.getElem_mem hit')
  have hqm:q ∈ qs:=List.mem_of_getElem? hqi
  refine codeAny_builtin entry_dul ?_
  unfold Builtin.«dict.update.loop»
  dsimp only
  refine wpAny_bind (wpAny_pyNext_list_item hit hl' (x:=.ref tps[i]) (by rw [List.getElem?_toArray,List.getElem?_map,List.getElem?_eq_getElem hit']; rfl) fun h1 it1 sb1=>?_)
  have hpt1:h1.get? tps[i]=some ot:=by rw [sb1.2 _ ni]; exact keep _ _ nd ni hpt
  have hT:({ s with heap:=h1 }:Shared).TypeIs (.ref tps[i]) "tuple" := ⟨_,hpt1,hct⟩
  have kp1:∀ b o,b ≠ d→b ≠ it→h₀.get? b=some o→h1.get? b=some o:=fun b o z1 z2 z3=>by rw [sb1.2 _ z2]; exact keep b o z1 z2 z3
  have hD1:h1.DictOfH knd d (qs.take i):=dictH_at hD (fun o ho=>by rw [sb1.2 _ hdi]; exact ho) fun y hy=>is_ h1 kp1 y (List.mem_of_mem_take hy)
  refine wpAny_bind (wpAny_holding (wpAny_bind (wpAny_tryCatch ?_)))
  unfold Builtin.Dict.pairItems
  refine wpAny_bind (wpAny_typeOf hT ?_)
  rw [if_pos (by decide)]
  refine wpAny_bind (wpAny_seqItems (s:={ s with heap:=h1 }) hpt1 hdt (wpAny_pure ?_))
  refine wpAny_holding (wpAny_dictSet_heap (s:={ s with heap:=h1 }) (hu' _) (is_ h1 kp1 q hqm) hD1 (fun h2 hD2 sb2=>?_) ?_)
  ·refine wpAny_pure ⟨Code.quiet_builtin _ (by decide +kernel),?_⟩
   have hno:atKey (qs.take i) q.1=none:=by
    cases e:atKey (qs.take i) q.1 with
    | none=>rfl
    | some z =>
     unfold atKey at e
     obtain ⟨y,hy,_⟩:=Option.map_eq_some_iff.mp e
     have y0:=List.find?_some hy
     have y1:y.1=q.1:=of_decide_eq_true y0
     have m1:y.1 ∈ (qs.map (·.1)).take i:=by rw [← List.map_take]; exact List.mem_map.mpr ⟨y,List.mem_of_find?_eq_some hy,rfl⟩
     rw [y1] at m1
     exact absurd m1 (nd_take hnd (by rw [List.getElem?_map,hqi]; rfl))
   have hst:storedH (qs.take i) q.1 q.2.1 q.2.2=qs.take (i + 1):=by rw [storedH_new hno,List.take_add_one,hqi]; rfl
   rw [hst] at hD2
   refine ih (i + 1) { s with heap:=h2,toks:=_ } (j + 1) _ (by omega) ?_ hD2 (fun b o n1 n2 z=>?_) fun h' tk'=>hq h' tk'
   ·exact it1.at fun o z=>by rw [sb2.2 _ hdi.symm]; exact z
   ·rw [sb2.2 _ n1]; exact kp1 b o n1 n2 z
  ·rw [List.length_take]; omega
theorem call_dict_pairsH {n:Nat} {s:Shared} {Q:Value→Shared→Prop} {E:Value→Shared→Prop} (hh:A.handled=none) (hu:knd.room A.in1.in1) (hx:s.heap.get? l=some { cls:=.type "list",data:=.seq (tps.map Value.ref).toArray n }) (hp:PairsInH knd s.heap tps qs) (hnd:(qs.map (·.1)).Nodup) (hsz:qs.length ≤ sizeLine)
  (h:∀ h' tk' dd,h'.DictOfH knd dd qs→dd=s.heap.objs.size→s.heap.get? dd=none→(∀ b o,s.heap.get? b=some o→h'.get? b=some o)→Q (.ref dd) { s with heap:=h',toks:=tk' }) :
  wpAny (model prog w) A (call (.type "dict") [.ref l]) Q E s:=by
 refine callType_codes (Q₁:=fun obj s₁=>obj=.ref s.heap.objs.size∧s₁={ s with heap:=s.heap.push { cls:=.type "dict",data:=.dict #[] } }) F.kt_called_dict (F.kt_typeCall_dict_1 _) F.entry_dict_init (kt_code_dict_new _ ⟨rfl,rfl⟩) ?_
 rintro obj s₁ ⟨rfl,rfl⟩
 have hnew:(s.heap.push { cls:=.type "dict",data:=.dict #[] }).DictOfH knd s.heap.objs.size []:=Heap.DictOfH.new s.heap
 have hx1:(s.heap.push { cls:=.type "dict",data:=.dict #[] }).get? l=some { cls:=.type "list",data:=.seq (tps.map Value.ref).toArray n }:=Heap.get?_push_of_some _ hx
 refine ⟨hnew.typeIs,F.args_dict_init_2 _ _,?_⟩
 unfold Builtin.«dict.__init__»
 refine wpAny_bind ?_
 unfold Builtin.Dict.selfAndRest
 refine wpAny_bind (wpAny_notOrdered_dict hnew.typeIs ?_)
 show wpAny _ _ (pure (s.heap.objs.size,[Value.ref l])) _ _ _
 refine wpAny_pure ?_
 show wpAny _ _ (Builtin.Dict.updateFrom "dict.__init__" s.heap.objs.size (.ref l) [] .none) _ _ _
 unfold Builtin.Dict.updateFrom
 refine wpAny_bind (wpAny_typeOf (T := "list") ⟨_,hx1,rfl⟩ ?_)
 rw [if_pos (by decide)]
 obtain ⟨h0,g0,d0,t0,os0⟩:=s
 dsimp only at *
 refine wpAny_bind (keys_none hh hx1 fun h1 tk1 k1=>?_)
 simp only [Option.isNone_none,if_true]
 have hx2:=k1 _ _ hx1
 have hl2:h1.IsList l (tps.map Value.ref).toArray:=⟨_,hx2,rfl,n,rfl⟩
 refine wpAny_bind (wpAny_rule (wpAny_bind (wpAny_pyIter_list (s:=⟨h1,g0,d0,tk1,os0⟩) hl2 (wpAny_pure ⟨Code.quiet_builtin _ (by decide +kernel),?_⟩))))
 have k2:∀ b o,h0.get? b=some o→(h1.push { cls:=.type "list_iterator",data:=.fields #[.ref l,.int 0 0] }).get? b=some o:=fun b o z=>Heap.get?_push_of_some _ (k1 _ _ (Heap.get?_push_of_some _ z))
 have hd1:h1.get? h0.objs.size=some { cls:=.type "dict",data:=.dict #[] }:=k1 _ _ (Heap.get?_push_size h0 rfl)
 have lt1:h0.objs.size < h1.objs.size:=Heap.lt_size hd1
 have hll:l < h0.objs.size:=Heap.lt_size hx
 have hfar:∀ c o,h0.get? c=some o→c ≠ h0.objs.size∧c ≠ h1.objs.size:=fun c o z=>by
  have:=Heap.lt_size z
  exact ⟨Nat.ne_of_lt this,Nat.ne_of_lt (Nat.lt_trans this lt1)⟩
 refine pairsH_loop (A:=A.in1) (knd:=knd) (h₀:=h1.push { cls:=.type "list_iterator",data:=.fields #[.ref l,.int 0 0] }) (l:=l) (tps:=tps) (qs:=qs) hh hu (Nat.ne_of_lt lt1) ?_ (Nat.ne_of_lt hll) (Nat.ne_of_lt (Nat.lt_trans hll lt1)) ?_ hnd hsz (fun p z=>?_) (fun q z=>?_) qs.length 0 ⟨h1.push { cls:=.type "list_iterator",data:=.fields #[.ref l,.int 0 0] },g0,d0,tk1,os0⟩ 0 0 (by omega) ?_ ?_ (fun _ _ _ _ z=>z) fun h' tk' hD kp=>?_
 ·exact ⟨_,k2 _ _ hx,rfl,n,rfl⟩
 ·exact Paired.mapP hp fun p q ⟨⟨o,m,z2,z3⟩,ok,z4,z5⟩=>⟨⟨o,m,k2 _ _ z2,z3⟩,ok,k2 _ _ z4,z5⟩
 ·obtain ⟨i,hi,rfl⟩:=List.getElem_of_mem z
  obtain ⟨q,_,⟨o,m,z2,_⟩,_⟩:=Paired.get hp (i:=i) (a:=tps[i]) (List.getElem?_eq_getElem hi)
  exact hfar _ _ z2
 ·obtain ⟨ok,z4,_⟩:=hp.key q z
  exact hfar _ _ z4
 ·exact ⟨_,Heap.get?_push_size h1 rfl,rfl,rfl⟩
 ·exact dictH_at hnew (fun o ho=>Heap.get?_push_of_some _ (k1 _ _ ho)) fun y hy=>by cases hy
 ·refine ⟨rfl,h h' tk' h0.objs.size hD rfl (Heap.get?_none_of_le (Nat.le_refl _)) fun b o z=>kp b o ?_ ?_ (k2 b o z)⟩
  ·exact (hfar _ _ z).1
  ·exact (hfar _ _ z).2
end
def rDictT:List V→Hp→VK→Prop:=fun xs H Q=>∃ (l:Addr) (tps:List Addr) (kvs:List (List Key×V)),xs=[.ref l]∧H l=some (.lst (tps.map V.ref)) ∧
 Paired (fun t (q:List Key×V)=>∃ a,H t=some (.tup [.ref a,q.2])∧H a=some (.tup (q.1.map kV))) tps kvs∧(kvs.map Prod.fst).Nodup∧New H (.dT kvs) Q
theorem call_dictT {X:Cx} (hc:X.calm=true) (hu:X.A.units + 64 < cLine):CallR X (.type "dict") rDictT:=by
 intro pins s σ H xs us Q I r h
 obtain ⟨l,tps,kvs,rfl,hl,hp,hn,q⟩:=h
 obtain ⟨u,rfl,ru⟩:=vals1 r
 cases ru
 obtain ⟨hz,its,n,rv,hg⟩:=(show ObjOk X.prog X.w H s.heap l (.lst (tps.map V.ref)) from I.hok l _ hl)
 rw [refs_of rv] at hg
 have key:∀ {tps:List Addr} {kvs:List (List Key×V)},Paired (fun t (q:List Key×V)=>∃ a,H t=some (.tup [.ref a,q.2])∧H a=some (.tup (q.1.map kV))) tps kvs→∃ qs,KT H kvs qs∧PairsInH (tupleKind (mixKind X.prog X.w)) s.heap tps qs:=by
  intro tps kvs hp
  induction hp with
  | nil=>exact ⟨[],.nil,.nil⟩
  | cons r t ih =>
   rename_i p q _ _
   obtain ⟨qs,h1,h2⟩:=ih
   obtain ⟨a,ra,rk⟩:=r
   obtain ⟨_,its,rv,o,ho,hcl,m,hd⟩:=(show ObjOk X.prog X.w H s.heap p (.tup [.ref a,q.2]) from I.hok p _ ra)
   obtain ⟨k,v,rfl,rk1,rv2⟩:=vals2 rv
   cases (show k=Value.ref a from rk1)
   obtain ⟨_,its2,r2,o2,ho2,hcl2,m2,hd2⟩:=(show ObjOk X.prog X.w H s.heap a (.tup (q.1.map kV)) from I.hok a _ rk)
   exact ⟨(q.1,a,v) :: qs,.cons ⟨rfl,rk,rv2⟩ h1,.cons ⟨⟨o,m,ho,hcl,hd⟩,o2,ho2,fun h' e=>⟨o2,_,m2,e,hcl2,hd2,by simpa using items_are r2⟩⟩ h2⟩
 obtain ⟨qs,hkv,hpi⟩:=key hp
 have hql:kvs.length=qs.length:=Paired.length hkv
 have hle:kvs.length ≤ sizeLine:=by
  have:=Paired.length hp
  rw [List.length_map] at hz
  omega
 have hnd:(qs.map (·.1)).Nodup:=by
  have:∀ {kvs:List (List Key×V)} {qs:List (List Key×Addr×Value)},KT H kvs qs→qs.map (·.1)=kvs.map Prod.fst:=by
   intro kvs qs z
   induction z with
   | nil=>rfl
   | cons r t ih=>rw [List.map_cons,List.map_cons,ih,r.1]
  rw [this hkv]
  exact hn
 refine call_dict_pairsH (knd:=tupleKind (mixKind X.prog X.w)) (I.ok.hd hc) (tupleKind_room_in1 (A:=X.A.in1) (by show X.A.units + 1 + 1 < cLine; omega)) hg hpi hnd (by rw [← hql]; exact hle) fun h' tk' dd hD hdd hn' k=>?_
 have hsm:dd ≠ sysModules:=fun z=>by
  have hb:=I.big
  rw [← hdd,z] at hb
  exact Nat.lt_irrefl _ hb
 have hH0:H dd=none:=by
  cases e:H dd with
  | none=>rfl
  | some u =>
   obtain ⟨ob,z⟩:=(I.hok dd u e).there
   rw [hn'] at z
   cases z
 obtain ⟨o,es,ep,e1,e2,e3,e4,_,e5⟩:=hD
 obtain ⟨hH,J⟩:=I.laidAt (t':=tk') (o:=.dT kvs) k hn' (show ObjOk X.prog X.w (upd H dd (.dT kvs)) h' dd (.dT kvs) from ⟨hle,beq_eq_false_iff_ne.mpr hsm,qs,hkv.keeps fun b ys e=>by rw [upd_ne (ne_of_none e hH0)]; exact e,o,es,ep,e1,e2,e3,e4,e5⟩)
 exact ⟨.ref dd,_,J,rfl,q.at dd hH⟩
end L2
end
section
namespace L2
open PySem PySem.Spec PyProof.Rows
section
variable {prog:Program} {w:World} {A:Around} {E:Value→Shared→Prop} {s:Shared}
theorem first_tup {x:Addr} {ox:Obj} {v:Value} {xs:List Value} {m:Nat} {Q:Option Value→Shared→Prop} (hx:s.heap.get? x=some ox) (cx:ox.cls=.type "tuple") (dx:ox.data=.seq (v :: xs).toArray m) (h:Q (some v) s):wpAny (model prog w) A (firstOfTuple' (.ref x)) Q E s:=by
 show wpAny _ _ (typeOf (.ref x) >>= fun ty=>_) Q E s
 refine wpAny_bind (wpAny_typeOf (T := "tuple") ⟨_,hx,cx⟩ ?_)
 simp only [bne_self_eq_false,Bool.false_eq_true,if_false]
 exact wpAny_bind (listItems_at hx dx (wpAny_pure h))
def Calm (prog:Program) (w:World) (A:Around) (s:Shared) (a:Addr) (vs:List Value):Prop:=vs.length < 2∨∃ x y kd,vs=[x,y]∧∀ s':Shared,(∀ b o,b ≠ a→s.heap.get? b=some o→s'.heap.get? b=some o) →
 (∀ (E':Value→Shared→Prop) (Q':SortKind→Shared→Prop),Q' kd s'→wpAny (model prog w) A (keyKind' #[x,y]) Q' E' s')∧∀ (E':Value→Shared→Prop) (Q':Bool→Shared→Prop),Q' false s'→wpAny (model prog w) A (keyLt' kd y x) Q' E' s'
end
def rSortUp (K:PySem.W.Frag):List V→Hp→VK→Prop:=fun xs H Q=>∃ (p:Addr) (as:List Addr),xs=[.ref p]∧H p=some (.lst (as.map V.ref)) ∧
 (as.length < 2∨∃ (a b:Addr) (n e x1 x2 y1 y2:Str),as=[a,b]∧H a=some (.tup [.str n,.str e,.str x1,.str x2])∧H b=some (.tup [.str n,.str e,.str y1,.str y2])∧y1 ≠ x1∧¬ y1.cps.toList < x1.cps.toList)∧New H (.lst (as.map V.ref)) Q
end L2
end
section
namespace L2
open PySem PySem.Spec PyProof.Rows
section
variable {prog:Program} {w:World} {A:Around} {E:Value→Shared→Prop} {s:Shared} {o:Array Keyed} {κ:KeyKind} {kd:SortKind}
structure Sg (kd:SortKind) (o:Array Keyed) (st:SortSt):Prop where
 perm:(arrOf st).Perm o
 kind:kindOf st=kd
 good:failedOf st=none
 idle:pendingOf st=#[]
theorem Sg.many {st:SortSt} (h:Sg kd o st):(arrOf st).size=o.size:=h.perm.size_eq
theorem Sg.to {st:SortSt} (h:Sg kd o st) {xs:Array Keyed} (p:xs.Perm (arrOf st)):Sg kd o (setArr st xs):=⟨p.trans h.perm,h.kind,h.good,h.idle⟩
def Lts (prog:Program) (w:World) (A:Around) (s:Shared) (κ:KeyKind) (kd:SortKind):Prop :=
 ∀ (x y:Value) (a b:κ.α) (E':Value→Shared→Prop) (Q':Bool→Shared→Prop),κ.keyOf x=some a→κ.keyOf y=some b→a ≠ b→Q' (κ.blt a b) s→wpAny (model prog w) A (keyLt' kd x y) Q' E' s
theorem Sg.item {st:SortSt} (h:Sg kd o st) (k:KeysOf κ o) {i:Nat} (hi:i < o.size):∃ x p a,(arrOf st)[i]? = some (x,p)∧κ.keyOf x=some a∧KK κ (arrOf st) i=a:=by
 have hi2:i < (arrOf st).size:=by rw [h.many]; exact hi
 have e:(arrOf st)[i]? = some (arrOf st)[i]:=getElem?_pos _ i hi2
 obtain ⟨a,ha⟩:=k _ ((Array.perm_iff_toList_perm.mp h.perm).mem_iff.mp (show (arrOf st)[i] ∈ (arrOf st).toList by simp))
 exact ⟨_,_,a,e,ha,by unfold KK; rw [e]; show (κ.keyOf _).getD _=a; rw [ha]; rfl⟩
def Apart (κ:KeyKind) (o:Array Keyed):Prop:=(o.toList.map fun p=>κ.keyOf p.1).Nodup
theorem Sg.apart {st:SortSt} (h:Sg kd o st) (k:KeysOf κ o) (d:Apart κ o) {i j:Nat} (hij:i < j) (hj:j < o.size):KK κ (arrOf st) i ≠ KK κ (arrOf st) j:=fun z=>by
 obtain ⟨x,p,a,e1,ka,r1⟩:=h.item k (show i < o.size by omega)
 obtain ⟨y,q,b,e2,kb,r2⟩:=h.item k hj
 rw [r1,r2] at z
 have nd:((arrOf st).toList.map fun p=>κ.keyOf p.1).Nodup:=((Array.perm_iff_toList_perm.mp h.perm).map _).nodup_iff.mpr d
 have m2:((arrOf st).toList.map fun p=>κ.keyOf p.1)[j]? = some (some b):=by rw [List.getElem?_map,Array.getElem?_toList,e2]; exact congrArg some kb
 have m1:((arrOf st).toList.map fun p=>κ.keyOf p.1)[i]? = some (some b):=by rw [List.getElem?_map,Array.getElem?_toList,e1,← z]; exact congrArg some ka
 exact nd_take nd m2 (List.mem_of_getElem? (i:=i) (by rw [List.getElem?_take,if_pos hij]; exact m1))
theorem cmp_at {st:SortSt} {i j:Nat} {Q:Option Bool→SortSt→Prop} (hL:Lts prog w A s κ kd) (h:Sg kd o st) (k:KeysOf κ o) (hi:i < o.size) (hj:j < o.size) (hne:KK κ (arrOf st) i ≠ KK κ (arrOf st) j)
  (q:Q (some (κ.blt (KK κ (arrOf st) i) (KK κ (arrOf st) j))) st):wpS (model prog w) A E s (ltAt' i j) Q st:=by
 obtain ⟨x,p,a,e1,ka,r1⟩:=h.item k hi
 obtain ⟨y,p2,b,e2,kb,r2⟩:=h.item k hj
 rw [r1,r2] at q hne
 rw [ltAt'_eq]
 refine wpS_bind (wpS_get ?_)
 show wpS _ _ _ _ (do let p ← elem' (arrOf st) i; let q ← elem' (arrOf st) j; lt' p q) _ st
 rw [elem'_eq,elem'_eq,e1,e2]
 refine wpS_bind (wpS_pure (wpS_bind (wpS_pure ?_)))
 rw [lt'_eq]
 refine wpS_bind (wpS_get ?_)
 rw [h.kind]
 exact wpS_bind (wpS_lift (wpAny_attempt (hL _ _ _ _ _ _ ka kb hne ⟨rfl,wpS_pure q⟩)))
variable (hL:Lts prog w A s κ kd) (k:KeysOf κ o) (d:Apart κ o)
include hL k d
theorem rise {st:SortSt} {a m:Nat} {Q:AscSt→SortSt→Prop} (h:Sg kd o st) (ha:1 ≤ a) (ham:a ≤ m) (hm:m ≤ o.size) (hs:SortedToK κ (arrOf st) a)
  (q:∀ n,a ≤ n→n ≤ m→SortedToK κ (arrOf st) n→(n=m∨(n < m∧κ.klt (KK κ (arrOf st) n) (KK κ (arrOf st) (n - 1))))→Q (none,n) st):wpS (model prog w) A E s (ascLoop a m) Q st:=by
 unfold ascLoop
 refine wpS_forRange (I:=fun n c st2=>st2=st∧c=(none,n)∧SortedToK κ (arrOf st) n) ?_ ?_ ⟨rfl,rfl,hs⟩
 ·rintro n c st2 h1 h2 ⟨rfl,rfl,hs2⟩
  have ne:=(h.apart k d (show n - 1 < n by omega) (show n < o.size by omega)).symm
  refine wpS_bind (cmp_at hL h k (by omega) (by omega) ne ?_)
  cases e:κ.blt (KK κ (arrOf st2) n) (KK κ (arrOf st2) (n - 1)) with
  | true=>exact wpS_pure (q n h1 (by omega) hs2 (.inr ⟨h2,e⟩))
  | false =>
   refine wpS_pure ⟨rfl,rfl,fun i j hij hj=>?_⟩
   rcases Nat.lt_or_ge j n with z | z
   ·exact hs2 i j hij z
   ·have:j=n:=by omega
    subst this
    rcases Nat.lt_or_ge i j with y | y
    ·exact KeyOrd.kle_trans (hs2 i (j - 1) (by omega) (by omega)) e
    ·have:i=j:=by omega
     subst this
     exact KeyOrd.kle_refl _
 ·rintro c st2 ⟨rfl,rfl,hs2⟩
  rw [show max a m=m by omega] at hs2 ⊢
  exact q m ham (Nat.le_refl _) hs2 (.inl rfl)
def Falls (κ:KeyKind) (xs:Array Keyed) (n:Nat):Prop:=∀ i j,i < j→j < n→κ.klt (KK κ xs j) (KK κ xs i)
theorem fall {st:SortSt} {m:Nat} {Q:DescSt→SortSt→Prop} (h:Sg kd o st) (hm:m ≤ o.size) (h2:2 ≤ m) (hf:Falls κ (arrOf st) 2) (q:∀ n,2 ≤ n→n ≤ m→Falls κ (arrOf st) n→Q (none,n,0) st):wpS (model prog w) A E s (descLoop 2 m) Q st:=by
 unfold descLoop
 refine wpS_forRange (I:=fun n c st2=>st2=st∧c=(none,n,0)∧Falls κ (arrOf st) n) ?_ ?_ ⟨rfl,rfl,hf⟩
 ·rintro n c st2 h1 hn ⟨rfl,rfl,hf2⟩
  have ne:=h.apart k d (show n - 1 < n by omega) (show n < o.size by omega)
  dsimp only
  refine wpS_bind (cmp_at hL h k (by omega) (by omega) ne.symm ?_)
  cases e:κ.blt (KK κ (arrOf st2) n) (KK κ (arrOf st2) (n - 1)) with
  | true =>
   refine wpS_pure ⟨rfl,rfl,fun i j hij hj=>?_⟩
   rcases Nat.lt_or_ge j n with z | z
   ·exact hf2 i j hij z
   ·have:j=n:=by omega
    subst this
    rcases Nat.lt_or_ge i (j - 1) with y | y
    ·exact κ.trans _ _ _ e (hf2 i (j - 1) y (by omega))
    ·have:i=j - 1:=by omega
     subst this
     exact e
  | false =>
   refine wpS_bind (cmp_at hL h k (by omega) (by omega) ne ?_)
   cases e2:κ.blt (KK κ (arrOf st2) (n - 1)) (KK κ (arrOf st2) n) with
   | true=>exact wpS_pure (q n h1 (by omega) hf2)
   | false=>exact absurd (κ.total _ _ e2 e) ne
 ·rintro c st2 ⟨rfl,rfl,hf2⟩
  rw [show max 2 m=m by omega] at hf2 ⊢
  exact q m h2 (Nat.le_refl _) hf2
theorem run_found {st:SortSt} {m:Nat} {Q:Option Nat→SortSt→Prop} (h:Sg kd o st) (h1:1 ≤ m) (hm:m ≤ o.size) (q:∀ n st2,Sg kd o st2→1 ≤ n→n ≤ m→SortedToK κ (arrOf st2) n→Q (some n) st2):wpS (model prog w) A E s (countRun' 0 m) Q st:=by
 rw [countRun0_eq]
 refine wpS_bind (rise hL k d h (Nat.le_refl 1) h1 hm (fun i j hij hj=>by
  have:i=j:=by omega
  subst this
  exact KeyOrd.kle_refl _) fun n hn1 hn2 hs hlast=>?_)
 dsimp only
 by_cases hnm:n=m
 ·rw [if_pos (by simpa using hnm)]
  exact wpS_pure (q n st h hn1 hn2 hs)
 ·rw [if_neg (by simpa using hnm)]
  obtain ⟨hlt,hlast⟩:n < m∧κ.klt (KK κ (arrOf st) n) (KK κ (arrOf st) (n - 1)):=hlast.resolve_left hnm
  by_cases hbig:n > 1
  ·rw [if_pos hbig]
   have ne:=h.apart k d (show 0 < n - 1 by omega) (show n - 1 < o.size by omega)
   refine wpS_bind (cmp_at hL h k (by omega) (by omega) ne ?_)
   cases e:κ.blt (KK κ (arrOf st) 0) (KK κ (arrOf st) (n - 1)) with
   | true=>exact wpS_pure (q n st h hn1 hn2 hs)
   | false=>exact absurd (κ.total _ _ e (hs 0 (n - 1) (by omega) (by omega))) ne
  ·rw [if_neg hbig]
   have:n=1:=by omega
   subst this
   unfold descPart
   refine wpS_bind (wpS_lift (wpAny_rule ⟨rfl,?_⟩))
   refine wpS_bind (fall hL k d h hm (by omega) (fun i j hij hj=>by
    have:i=0:=by omega
    have:j=1:=by omega
    subst i j
    exact hlast) fun n2 a1 a2 hf=>?_)
   dsimp only
   rw [if_neg (by decide)]
   unfold tail3
   refine wpS_bind (wpS_reverse ?_)
   have hsz:n2 ≤ (arrOf st).size:=by rw [h.many]; omega
   have h3:Sg kd o (setArr st (mirror (arrOf st) 0 n2 ((n2 - 0) / 2))):=h.to (mirror_perm _ _ _ _)
   refine wpS_bind (rise hL k d h3 (by omega) a2 hm (fun i j hij hj=>?_) fun n3 b1 b2 hs3 _=>wpS_pure (q n3 _ h3 (by omega) b2 hs3))
   show κ.kle (KK κ (mirror (arrOf st) 0 n2 ((n2 - 0) / 2)) i) (KK κ (mirror (arrOf st) 0 n2 ((n2 - 0) / 2)) j)
   rw [KK_mirror hsz,KK_mirror hsz,if_pos (by omega),if_pos (by omega)]
   rcases Nat.lt_or_ge i j with y | y
   ·exact KeyOrd.kle_of_klt (hf _ _ (by omega) (by omega))
   ·have:i=j:=by omega
    subst this
    exact KeyOrd.kle_refl _
theorem insert {st:SortSt} {n r:Nat} {Q:Bool→SortSt→Prop} (h:Sg kd o st) (hr:r ≤ n) (hn:n ≤ o.size) (hs:SortedToK κ (arrOf st) r) (q:∀ st2,Sg kd o st2→SortedToK κ (arrOf st2) n→Q true st2):wpS (model prog w) A E s (binarySort' 0 n r) Q st:=by
 rw [binarySort'_eq]
 simp only [Nat.zero_add]
 have one:∀ st2:SortSt,SortedToK κ (arrOf st2) 1:=fun st2 i j hij hj=>by
  have:i=j:=by omega
  subst this
  exact KeyOrd.kle_refl _
 refine wpS_bind (wpS_mono (wpS_forRange (I:=fun x c st2=>c=(none,())∧Sg kd o st2∧SortedToK κ (arrOf st2) (min x n)) (Q:=fun c st2=>c=(none,())∧Sg kd o st2∧SortedToK κ (arrOf st2) n) ?_ ?_ ⟨rfl,h,?_⟩) ?_)
 ·rintro x c st2 hx1 hx2 ⟨rfl,h2,hs2⟩
  rw [show min x n=x by omega] at hs2
  have hx:x < o.size:=by omega
  refine wpS_bind (wpS_mono (wpS_forRange (I:=fun y c st3=>st3=st2∧∃ l u,c=(none,l,u)∧(l ≤ u∧u ≤ x∧u - l ≤ x - y)∧(∀ i,i < l→κ.kle (KK κ (arrOf st2) i) (KK κ (arrOf st2) x))∧∀ i,u ≤ i→i < x→κ.klt (KK κ (arrOf st2) x) (KK κ (arrOf st2) i))
   (Q:=fun c st3=>st3=st2∧∃ l u,c=(none,l,u)∧l ≤ x∧(∀ i,i < l→κ.kle (KK κ (arrOf st2) i) (KK κ (arrOf st2) x))∧∀ i,l ≤ i→i < x→κ.klt (KK κ (arrOf st2) x) (KK κ (arrOf st2) i)) ?_ ?_ ⟨rfl,0,x,rfl,by omega,fun i hi=>by omega,fun i h1 h2=>by omega⟩) ?_)
  ·rintro y c st3 _ hy ⟨rfl,l,u,rfl,⟨g1,g2,g3⟩,lo,up⟩
   dsimp only
   by_cases hlu:l ≥ u
   ·rw [if_pos hlu]
    have:l=u:=by omega
    subst this
    exact wpS_pure ⟨rfl,l,l,rfl,g2,lo,up⟩
   ·rw [if_neg hlu]
    have ne:=(h2.apart k d (show (l + u) / 2 < x by omega) hx).symm
    refine wpS_bind (cmp_at hL h2 k hx (by omega) ne ?_)
    cases e:κ.blt (KK κ (arrOf st3) x) (KK κ (arrOf st3) ((l + u) / 2)) with
    | true=>exact wpS_pure ⟨rfl,l,(l + u) / 2,rfl,by omega,lo,fun i a1 a2=>KeyOrd.klt_of_klt_of_kle e (hs2 _ _ a1 a2)⟩
    | false=>exact wpS_pure ⟨rfl,(l + u) / 2 + 1,u,rfl,by omega,fun i a1=>KeyOrd.kle_trans (hs2 i ((l + u) / 2) (by omega) (by omega)) e,up⟩
  ·rintro c st3 ⟨rfl,l,u,rfl,⟨g1,g2,g3⟩,lo,up⟩
   have:l=u:=by omega
   subst this
   exact ⟨rfl,l,l,rfl,g2,lo,up⟩
  ·rintro c st3 ⟨rfl,l,u,rfl,g,lo,up⟩
   show wpS _ _ _ _ (do moveDown' x l; pure (ForInStep.yield (none,()))) _ _
   rw [moveDown'_eq]
   refine wpS_bind (wpS_modify (wpS_pure ⟨rfl,h2.to (bubble_perm _ _ _),?_⟩))
   rw [show min (x + 1) n=x + 1 by omega]
   have hxs:x < (arrOf st3).size:=by rw [h2.many]; exact hx
   intro i j hij hj
   show κ.kle (KK κ (bubble (arrOf st3) x (x - l)) i) (KK κ (bubble (arrOf st3) x (x - l)) j)
   have eb:∀ z,KK κ (bubble (arrOf st3) x (x - l)) z=if z=l then KK κ (arrOf st3) x else if l < z∧z ≤ x then KK κ (arrOf st3) (z - 1) else KK κ (arrOf st3) z:=fun z=>by
    rw [KK_bubble hxs (by omega),show x - (x - l)=l by omega]
   rw [eb,eb]
   by_cases i1:i=l
   ·rw [if_pos i1]
    by_cases j1:j=l
    ·rw [if_pos j1]; exact KeyOrd.kle_refl _
    ·rw [if_neg j1,if_pos (by omega)]
     exact KeyOrd.kle_of_klt (up _ (by omega) (by omega))
   ·rw [if_neg i1]
    by_cases i2:l < i∧i ≤ x
    ·rw [if_pos i2,if_neg (by omega),if_pos (by omega)]
     exact hs2 _ _ (by omega) (by omega)
    ·rw [if_neg i2]
     by_cases j1:j=l
     ·rw [if_pos j1]; exact lo _ (by omega)
     ·rw [if_neg j1]
      by_cases j2:l < j∧j ≤ x
      ·rw [if_pos j2]; exact hs2 _ _ (by omega) (by omega)
      ·rw [if_neg j2]; exact hs2 _ _ hij (by omega)
 ·rintro c st2 ⟨rfl,h2,hs2⟩
  refine ⟨rfl,h2,?_⟩
  rw [show min (max (max r 1) n) n=n by omega] at hs2
  exact hs2
 ·rcases Nat.lt_or_ge r 1 with z | z
  ·intro i j hij hj
   exact one st i j hij (by omega)
  ·intro i j hij hj
   exact hs i j hij (by omega)
 ·rintro c st2 ⟨rfl,h2,hs2⟩
  exact wpS_pure (q st2 h2 hs2)
theorem all_runs {st:SortSt} {Q:Unit→SortSt→Prop} (h:Sg kd o st) (h2:2 ≤ o.size) (h64:o.size < 64) (q:∀ st2,(arrOf st2).Perm o→failedOf st2=none→SortedToK κ (arrOf st2) o.size→Q () st2):wpS (model prog w) A E s sortRuns' Q st:=by
 rw [sortRuns'_eq]
 refine wpS_bind (wpS_get ?_)
 dsimp only
 have hmr:minRun' o.size o.size 0=o.size:=by
  obtain ⟨f,hf⟩:∃ f,o.size=f + 1:=⟨o.size - 1,by omega⟩
  rw [show minRun' o.size o.size 0=minRun' (f + 1) o.size 0 by rw [← hf],minRun'_succ,if_pos h64]
  rfl
 rw [h.many,hmr]
 have done:∀ st3:SortSt,Sg kd o st3→SortedToK κ (arrOf st3) o.size→(arrOf (setPending st3 ((pendingOf st3).push (0,o.size,0)))).Perm o∧failedOf (setPending st3 ((pendingOf st3).push (0,o.size,0)))=none∧pendingOf (setPending st3 ((pendingOf st3).push (0,o.size,0)))=#[(0,o.size,0)]∧SortedToK κ (arrOf (setPending st3 ((pendingOf st3).push (0,o.size,0)))) o.size:=fun st3 h3 hs3 =>
  ⟨h3.perm,h3.good,by show (pendingOf st3).push _=_; rw [h3.idle]; rfl,hs3⟩
 refine wpS_bind (wpS_mono (wpS_forRange (I:=fun x c st2=>(x=0∧c=(none,0)∧Sg kd o st2)∨(1 ≤ x∧c=(none,o.size)∧(arrOf st2).Perm o∧failedOf st2=none∧pendingOf st2=#[(0,o.size,0)]∧SortedToK κ (arrOf st2) o.size))
  (Q:=fun c st2=>c=(none,o.size)∧(arrOf st2).Perm o∧failedOf st2=none∧pendingOf st2=#[(0,o.size,0)]∧SortedToK κ (arrOf st2) o.size) ?_ ?_ (.inl ⟨rfl,rfl,h⟩)) ?_)
 ·rintro x c st2 _ hx (⟨rfl,rfl,h3⟩ | ⟨hx1,rfl,hD⟩)
  ·dsimp only
   rw [if_neg (by omega)]
   simp only [Nat.sub_zero,Nat.min_self,Nat.zero_add]
   refine wpS_bind (run_found hL k d h3 (by omega) (Nat.le_refl _) fun m st4 h4 m1 m2 hs4=>?_)
   dsimp only
   by_cases hlt:m < o.size
   ·rw [if_pos hlt]
    refine wpS_bind (wpS_lift (wpAny_rule ⟨rfl,?_⟩))
    refine wpS_bind (insert hL k d h4 m2 (Nat.le_refl _) hs4 fun st5 h5 hs5=>?_)
    simp only [Bool.not_true,Bool.false_eq_true,if_false]
    refine wpS_bind (wpS_get ?_)
    rw [show (pendingOf st5).back? = none by rw [h5.idle]; rfl]
    exact wpS_bind (wpS_modify (wpS_pure (.inr ⟨by omega,rfl,done st5 h5 hs5⟩)))
   ·rw [if_neg hlt]
    have:m=o.size:=by omega
    subst this
    refine wpS_bind (wpS_get ?_)
    rw [show (pendingOf st4).back? = none by rw [h4.idle]; rfl]
    exact wpS_bind (wpS_modify (wpS_pure (.inr ⟨by omega,rfl,done st4 h4 hs4⟩)))
  ·dsimp only
   rw [if_pos (Nat.le_refl _)]
   exact wpS_pure ⟨rfl,hD⟩
 ·rintro c st2 (⟨z,_,_⟩ | ⟨_,z,hD⟩)
  ·exact absurd z (by omega)
  ·exact ⟨z,hD⟩
 ·rintro c st2 ⟨rfl,d1,d2,d3,d4⟩
  dsimp only
  refine wpS_bind (wpS_mono (wpS_forRange (I:=fun _ c st3=>c=(none,())∧st3=st2) (Q:=fun c st3=>c=(none,())∧st3=st2) ?_ (fun _ _ z=>z) ⟨rfl,rfl⟩) ?_)
  ·rintro x c st3 _ _ ⟨rfl,rfl⟩
   refine wpS_bind (wpS_get ?_)
   rw [if_pos (by rw [d3]; exact Nat.le_refl 1)]
   exact wpS_pure ⟨rfl,rfl⟩
  ·rintro c st3 ⟨rfl,rfl⟩
   exact wpS_pure (q _ d1 d2 d4)
end
end L2
namespace L2
open PySem PySem.Spec PyProof.Rows
def firstK (h:Heap):Value→Option (List Nat)
 | .ref a=>match h.get? a with
  | some o=>match o.cls,o.data with
   | .type "tuple",.seq its _=>match (its[0]? : Option Value) with
    | some (.str x _)=>some x.cps.toList
    | _=>none
   | _,_=>none
  | none=>none
 | _=>none
def kF (h:Heap):KeyKind:={ strKind.toKeyOrd with keyOf:=firstK h,dflt:=[] }
theorem firstK_of {h:Heap} {a:Addr} {ob:Obj} {x:Str} {t:Tok} {its:List Value} {n:Nat} (g:h.get? a=some ob) (c:ob.cls=.type "tuple") (d:ob.data=.seq (.str x t :: its).toArray n):firstK h (.ref a)=some x.cps.toList:=by
 unfold firstK
 dsimp only
 rw [g]
 dsimp only
 rw [c,d]
 rfl
theorem zip_keys (h:Heap):∀ vs:List Value,(vs.zip vs).map (fun p=>(kF h).keyOf p.1)=vs.map (firstK h)
 | []=>rfl
 | v :: vs=>by rw [List.zip_cons_cons,List.map_cons,List.map_cons,zip_keys h vs]; rfl
def Firsts (h:Heap) (vs:List Value):Prop:=∀ v ∈ vs,∃ (a:Addr) (ob:Obj) (x:Str) (t:Tok) (its:List Value) (n:Nat),v=.ref a∧h.get? a=some ob∧ob.cls=.type "tuple" ∧ ob.data=.seq (.str x t :: its).toArray n
section
variable {prog:Program} {w:World} {A:Around} {E:Value→Shared→Prop} {s:Shared}
theorem lt_firsts {x y:Addr} {ox oy:Obj} {p q:Str} {t u:Tok} {xs ys:List Value} {m1 m2:Nat} {Q:Bool→Shared→Prop} (hx:s.heap.get? x=some ox) (dx:ox.data=.seq (.str p t :: xs).toArray m1)
  (hy:s.heap.get? y=some oy) (dy:oy.data=.seq (.str q u :: ys).toArray m2) (ne:p ≠ q) (h:Q (decide (p.cps.toList < q.cps.toList)) s):wpAny (model prog w) A (keyLt' (tuples' true) (.ref x) (.ref y)) Q E s:=by
 show wpAny _ _ (Builtin.List.listItems (.ref x) >>= fun xs=>_) Q E s
 refine wpAny_bind (listItems_at hx dx ?_)
 show wpAny _ _ (Builtin.List.listItems (.ref y) >>= fun ys=>_) Q E s
 refine wpAny_bind (listItems_at hy dy ?_)
 rw [show ((Value.str p t :: xs).toArray.toList.zip (Value.str q u :: ys).toArray.toList).zipIdx=((.str p t,.str q u),0) :: (xs.zip ys).zipIdx 1 from rfl,List.forIn_cons]
 refine wpAny_bind (wpAny_bind (wpAny_bind (wpAny_eqBool_str ?_)))
 rw [decide_eq_false ne]
 refine wpAny_bind (oneLt_str ?_)
 exact wpAny_pure (wpAny_pure (wpAny_pure h))
theorem firsts_map {Q:List (Option Value)→Shared→Prop}:∀ {vs:List Value} {ss:List Str} {fs:List Value},Paired (fun v f=>∃ (a:Addr) (ob:Obj) (its:List Value) (n:Nat),v=.ref a∧s.heap.get? a=some ob∧ob.cls=.type "tuple" ∧ ob.data=.seq (f :: its).toArray n) vs fs→Q (fs.map some) s→wpAny (model prog w) A (vs.mapM firstOfTuple') Q E s
 | [],_,[],_,h=>by rw [List.mapM_nil]; exact wpAny_pure h
 | v :: vs,ss,f :: fs,.cons r t,h=>by
  obtain ⟨a,ob,its,n,rfl,g,c,d⟩:=r
  rw [List.mapM_cons]
  refine wpAny_bind (first_tup g c d (wpAny_bind ?_))
  exact firsts_map (Q:=fun l s'=>wpAny (model prog w) A (pure (some f :: l)) Q E s') (ss:=ss) t (wpAny_pure h)
theorem kind_firsts {v1 v2:Value} {vs fs:List Value} {ss:List Str} {Q:SortKind→Shared→Prop} (hp:Paired (fun v f=>∃ (a:Addr) (ob:Obj) (its:List Value) (n:Nat),v=.ref a∧s.heap.get? a=some ob∧ob.cls=.type "tuple" ∧ ob.data=.seq (f :: its).toArray n) (v1 :: v2 :: vs) fs) (hS:StrsAre fs ss) (h:Q (tuples' true) s):wpAny (model prog w) A (keyKind' (v1 :: v2 :: vs).toArray) Q E s:=by
 rw [keyKind'_eq,List.mapM_toArray]
 show wpAny _ _ ((List.toArray <$> (v1 :: v2 :: vs).mapM firstOfTuple') >>= fun firsts=>_) Q E s
 rw [map_eq_pure_bind,bind_assoc]
 refine wpAny_bind (firsts_map (ss:=ss) hp ?_)
 rw [pure_bind]
 have e1:((fs.map some).toArray.all fun x=>x.isSome)=true:=by simp
 rw [if_pos e1]
 refine wpAny_bind (wpAny_rule ?_)
 have e2:Array.filterMap id (fs.map some).toArray=fs.toArray:=by simp
 rw [e2,oneTypeOnly'_eq,List.mapM_toArray,mapM_typeOf_strs hS]
 simp only [map_pure,pure_bind]
 match fs,hp with
 | f :: fs,_ =>
  refine wpAny_pure ((congrArg (fun b=>Q (tuples' b) s) (?_:_=true)).mpr h)
  have hall:((List.map (fun _=>Value.type "str") (f :: fs)).toArray.all fun x=>x == Value.type "str")=true:=by
   simp only [List.all_toArray,List.all_map,List.all_eq_true]
   intro _ _
   rfl
  show Option.any _ (if ((List.map (fun _=>Value.type "str") (f :: fs)).toArray.all fun x=>x == Value.type "str")=true then some (Value.type "str") else none)=true
  rw [if_pos hall]
  rfl
theorem firstK_inv {h:Heap} {v:Value} {p:List Nat} (e:firstK h v=some p):∃ (a:Addr) (ob:Obj) (x:Str) (t:Tok) (its:List Value) (n:Nat),v=.ref a∧h.get? a=some ob∧ob.cls=.type "tuple" ∧ ob.data=.seq (.str x t :: its).toArray n∧x.cps.toList=p:=by
 unfold firstK at e
 split at e
 ·rename_i a
  split at e
  ·rename_i ob g
   split at e
   ·rename_i its n c d
    split at e
    ·rename_i x t i0
     cases e
     obtain ⟨l⟩:=its
     cases l with
     | nil=>exact absurd i0 (by simp)
     | cons v0 l =>
      have:v0=.str x t:=by simpa using i0
      subst this
      exact ⟨a,ob,x,t,l,n,rfl,g,c,d,rfl⟩
    ·cases e
   ·cases e
  ·cases e
 ·cases e
theorem firsts_paired {h h':Heap}:∀ {vs:List Value},Firsts h vs→(∀ b ob,(∃ v ∈ vs,v=Value.ref b)→h.get? b=some ob→h'.get? b=some ob)→∃ fs ss,StrsAre fs ss∧Paired (fun v f=>∃ (a:Addr) (ob:Obj) (its:List Value) (n:Nat),v=.ref a∧h'.get? a=some ob∧ob.cls=.type "tuple" ∧ ob.data=.seq (f :: its).toArray n) vs fs
 | [],_,_=>⟨[],[],.nil,.nil⟩
 | v :: vs,hF,kp=>by
  obtain ⟨a,ob,x,t,its,n,rfl,g,c,d⟩:=hF v List.mem_cons_self
  obtain ⟨fs,ss,h1,h2⟩:=firsts_paired (vs:=vs) (fun u hu=>hF u (List.mem_cons_of_mem _ hu)) fun b ob ⟨u,hu,e⟩=>kp b ob ⟨u,List.mem_cons_of_mem _ hu,e⟩
  exact ⟨.str x t :: fs,x :: ss,.cons _ _ h1,.cons ⟨a,ob,its,n,rfl,kp a ob ⟨_,List.mem_cons_self,rfl⟩ g,c,d⟩ h2⟩
theorem sort_firsts {a:Addr} {vs:List Value} {n:Nat} {P:Fin→Shared→Prop} (hl:s.heap.get? a=some (seqObj "list" vs.toArray n)) (hF:Firsts s.heap vs) (nd:(vs.map (firstK s.heap)).Nodup) (h64:vs.length < 64)
  (h:∀ out:List Value,out.Perm vs→(out.map (firstK s.heap)).Pairwise (fun x y=>∀ p q,x=some p→y=some q→¬ q < p)→P (.done (.ret .none)) { s with heap:=sortedHeap s.heap a vs out.toArray }):wpAny (model prog w) A (Builtin.«list.sort» ⟨[.ref a],[]⟩) P E s:=by
 rw [list_sort_plain]
 have hlt:a < s.heap.objs.size:=Heap.lt_size hl
 have hfew:vs.length ≤ sizeLine:=by rw [sizeLine_eq]; omega
 refine wpAny_bind (listItems_at hl rfl (wpAny_bind (listUpdate_at hl rfl ?_ (hsz:=by simpa using hfew))))
 obtain ⟨e1,hl1⟩:∃ e1,(s.heap.update a (Obj.mapSeq fun _=>#[])).get? a=some (seqObj "list" #[] e1):=⟨_,get?_update_seq hl _⟩
 refine wpAny_bind (seqEpoch_at hl1 rfl (wpAny_bind (wpAny_newTuple (hsz:=by simpa using hfew) (wpAny_bind (wpAny_newList (wpAny_holding ?_))))))
 generalize hH:((s.heap.update a (Obj.mapSeq fun _=>#[])).push (seqObj "tuple" vs.toArray 0)).push (seqObj "list" #[] 0)=hp
 have hl2:hp.get? a=some (seqObj "list" #[] e1):=by
  rw [← hH,Heap.get?_push_ne _ _ _ (by rw [size_push',Heap.size_update]; exact Nat.ne_of_lt (Nat.lt_succ_of_lt hlt)),Heap.get?_push_ne _ _ _ (by rw [Heap.size_update]; exact Nat.ne_of_lt hlt)]
  exact hl1
 have keep:∀ b ob,b ≠ a→s.heap.get? b=some ob→hp.get? b=some ob:=fun b ob ne hb=>by
  have hb':=Heap.lt_size hb
  rw [← hH,Heap.get?_push_ne _ _ _ (by rw [size_push',Heap.size_update]; exact Nat.ne_of_lt (Nat.lt_succ_of_lt hb')),Heap.get?_push_ne _ _ _ (by rw [Heap.size_update]; exact Nat.ne_of_lt hb'),Heap.get?_update_other _ _ (Ne.symm ne)]
  exact hb
 have far:∀ {b:Addr} {ob:Obj},s.heap.get? b=some ob→ob.cls=.type "tuple" → b ≠ a:=fun {b ob} g c z=>by
  rw [z,hl] at g
  cases g
  exact absurd c (by show ¬ Value.type "list" = Value.type "tuple"; decide)
 have fin:∀ out:List Value,out.Perm vs→(out.map (firstK s.heap)).Pairwise (fun x y=>∀ p q,x=some p→y=some q→¬ q < p)→P (.done (.ret .none)) { s with heap:=hp.update a (Obj.mapSeq fun _=>out.toArray) }:=fun out h1 h2=>by
  have:=h out h1 h2
  unfold sortedHeap at this
  rw [hH] at this
  exact this
 show wpAny (model prog w) A _ P E { s with heap:=hp }
 dsimp only
 by_cases h2:vs.toArray.size < 2
 ·rw [if_pos h2,if_pos h2]
  refine wpAny_bind (wpAny_pure ?_)
  rw [StateT.run_pure]
  refine wpAny_bind (wpAny_pure ?_)
  dsimp only
  refine wpAny_bind (seqEpoch_at hl2 rfl (wpAny_bind (listUpdate_at hl2 rfl ?_ (hsz2:=by rw [Array.size_map]; show (pairsOf vs).size ≤ _; rw [pairsOf_size,sizeLine_eq]; omega))))
  simp only [bne_self_eq_false,Bool.false_eq_true,if_false]
  refine wpAny_pure ?_
  have hv:vs.length < 2:=by simpa using h2
  have e:(vs.toArray.zip vs.toArray).map (·.2)=vs.toArray:=by
   match vs,hv with
   | [],_=>simp
   | [_],_=>simp
  show P _ { s with heap:=hp.update a (Obj.mapSeq fun _=>(vs.toArray.zip vs.toArray).map (·.2)) }
  rw [e]
  refine fin vs (List.Perm.refl _) ?_
  match vs,hv with
  | [],_=>exact .nil
  | [_],_=>exact List.pairwise_singleton _ _
 ·rw [if_neg h2,if_neg h2]
  have h2':2 ≤ vs.length:=by
   have:¬ vs.length < 2:=by simpa using h2
   omega
  obtain ⟨fs,ss,hS,hpr⟩:=firsts_paired (h:=s.heap) (h':=hp) hF fun b ob ⟨v,hv,e⟩ g=>by
   obtain ⟨c,ob',x,t,its,m,e',g',cl,_⟩:=hF v hv
   rw [e'] at e
   cases e
   rw [g] at g'
   cases g'
   exact keep _ _ (far g cl) g
  have hLt:Lts prog w A { s with heap:=hp } (kF s.heap) (tuples' true):=by
   intro x y p q E' Q' kx ky ne hq
   obtain ⟨xa,ox,xn,xt,xi,xm,rfl,gx,cx,dx,rfl⟩:=firstK_inv (show firstK s.heap x=some p from kx)
   obtain ⟨ya,oy,yn,yt,yi,ym,rfl,gy,cy,dy,rfl⟩:=firstK_inv (show firstK s.heap y=some q from ky)
   exact lt_firsts (s:={ s with heap:=hp }) (keep _ _ (far gx cx) gx) dx (keep _ _ (far gy cy) gy) dy (fun z=>ne (by rw [z])) hq
  have hK:KeysOf (kF s.heap) (pairsOf vs):=fun r hr=>by
   rw [pairsOf_toList] at hr
   obtain ⟨_,hm⟩:=mem_zip_self hr
   obtain ⟨c,ob',x,t,its,m,e',g',cl,d⟩:=hF r.1 hm
   exact ⟨_,by rw [e']; exact firstK_of g' cl d⟩
  have hA:Apart (kF s.heap) (pairsOf vs):=by
   unfold Apart
   rw [pairsOf_toList]
   rw [zip_keys]
   exact nd
  match vs,h2',hpr with
  | v1 :: v2 :: rest,_,hpr =>
   refine wpAny_bind (kind_firsts (s:={ s with heap:=hp }) hpr hS ?_)
   refine wpAny_bind (wpAny_mono (all_runs hLt hK hA (st:=SortSt.mk' (tuples' true) ((v1 :: v2 :: rest).toArray.zip (v1 :: v2 :: rest).toArray) #[] 7 none) (Q:=fun _ st=>(arrOf st).Perm (pairsOf (v1 :: v2 :: rest))∧failedOf st=none∧SortedToK (kF s.heap) (arrOf st) (pairsOf (v1 :: v2 :: rest)).size) ⟨Array.Perm.refl _,rfl,rfl,rfl⟩ (by rw [pairsOf_size]; simp) (by rw [pairsOf_size]; exact h64) fun st z1 z2 z3=>⟨z1,z2,z3⟩) ?_ fun _ _ e=>e)
   rintro ⟨⟨⟩,st⟩ s' ⟨rfl,p1,p2,p3⟩
   dsimp only
   have hsz:(arrOf st).size=(v1 :: v2 :: rest).length:=p1.size_eq.trans (pairsOf_size _)
   refine wpAny_bind (seqEpoch_at hl2 rfl (wpAny_bind (listUpdate_at hl2 rfl ?_ (hsz2:=by rw [Array.size_map,hsz,sizeLine_eq]; omega))))
   rw [p2]
   simp only [bne_self_eq_false,Bool.false_eq_true,if_false]
   refine wpAny_pure ?_
   have pl:(arrOf st).toList.Perm ((v1 :: v2 :: rest).zip (v1 :: v2 :: rest)):=by rw [← pairsOf_toList]; exact Array.perm_iff_toList_perm.mp p1
   have eo:(arrOf st).map (·.2)=((arrOf st).toList.map (·.2)).toArray:=by rw [← Array.toList_map,Array.toArray_toList]
   show P _ { s with heap:=hp.update a (Obj.mapSeq fun _=>(arrOf st).map (·.2)) }
   rw [eo]
   refine fin _ ((pl.map _).trans (by rw [List.map_snd_zip (Nat.le_refl _)])) ?_
   rw [List.pairwise_iff_getElem]
   intro i j hi hj hij
   have hj':j < (arrOf st).size:=by simpa using hj
   have hi':i < (arrOf st).size:=by omega
   have kk:∀ x (hx:x < (arrOf st).size),∀ p,firstK s.heap (arrOf st)[x].2=some p→KK (kF s.heap) (arrOf st) x=p:=fun x hx p e=>by
    have hm:(arrOf st)[x] ∈ (v1 :: v2 :: rest).zip (v1 :: v2 :: rest):=pl.mem_iff.mp (Array.mem_toList_iff.mpr (Array.getElem_mem hx))
    obtain ⟨e12,_⟩:=mem_zip_self hm
    unfold KK
    rw [getElem?_pos _ x hx]
    show ((kF s.heap).keyOf (arrOf st)[x].1).getD _=p
    rw [e12]
    show (firstK s.heap (arrOf st)[x].2).getD _=p
    rw [e]
    rfl
   intro p q ep eq
   have ep':firstK s.heap (arrOf st)[i].2=some p:=by simpa using ep
   have eq':firstK s.heap (arrOf st)[j].2=some q:=by simpa using eq
   have:=p3 i j (Nat.le_of_lt hij) (by rw [← p1.size_eq]; exact hj')
   rw [kk i hi' p ep',kk j hj' q eq'] at this
   exact of_decide_eq_false this
theorem sorted_firsts {l:Addr} {vs:List Value} {Q:Value→Shared→Prop} (hl:s.heap.IsList l vs.toArray) (hF:Firsts s.heap vs) (nd:(vs.map (firstK s.heap)).Nodup) (h64:vs.length < 64)
  (h:∀ out:List Value,out.Perm vs→(out.map (firstK s.heap)).Pairwise (fun x y=>∀ p q,x=some p→y=some q→¬ q < p)→Q (.ref (s.heap.objs.size + 1)) { s with heap:=sortedAll s.heap vs out.toArray }):wpAny (model prog w) A (call (.builtin "sorted") [.ref l]) Q E s:=by
 have hz:vs.length ≤ sizeLine:=by rw [sizeLine_eq]; omega
 refine Calls.call_function_entry kind_sorted plain_sorted entry_sorted (args_sorted1 _) ?_
 unfold Builtin.«sorted»
 refine wpAny_bind (m:=checkCount "sorted" 1 1 _) (wpAny_pure (wpAny_bind (collect_list hl (hsz:=hz) (wpAny_bind (wpAny_newList (hsz:=hz) ?_)))))
 have hs:((s.heap.push (seqObj "list" #[] 0)).update s.heap.objs.size (Obj.mapSeq (· ++ vs.toArray))).objs.size=s.heap.objs.size + 1:=by rw [Heap.size_update,size_push']
 have hL:(((s.heap.push (seqObj "list" #[] 0)).update s.heap.objs.size (Obj.mapSeq (· ++ vs.toArray))).push (seqObj "list" vs.toArray 0)).get? (s.heap.objs.size + 1)=some (seqObj "list" vs.toArray 0):=by
  rw [← hs]; exact Heap.get?_push_size _ rfl
 have kp:∀ b o,s.heap.get? b=some o→(((s.heap.push (seqObj "list" #[] 0)).update s.heap.objs.size (Obj.mapSeq (· ++ vs.toArray))).push (seqObj "list" vs.toArray 0)).get? b=some o:=fun b o hb=>by
  have lt:=Heap.lt_size hb
  rw [Heap.get?_push_ne _ _ _ (by rw [hs]; exact Nat.ne_of_lt (Nat.lt_succ_of_lt lt)),Heap.get?_update_other _ _ (Nat.ne_of_gt lt)]
  exact Heap.get?_push_of_some _ hb
 show wpAny _ _ _ _ _ { s with heap:=((s.heap.push (seqObj "list" #[] 0)).update s.heap.objs.size (Obj.mapSeq (· ++ vs.toArray))).push (seqObj "list" vs.toArray 0) }
 rw [hs]
 generalize hG:((s.heap.push (seqObj "list" #[] 0)).update s.heap.objs.size (Obj.mapSeq (· ++ vs.toArray))).push (seqObj "list" vs.toArray 0)=hp at hL kp ⊢
 have ek:∀ v ∈ vs,firstK hp v=firstK s.heap v:=fun v hv=>by
  obtain ⟨a,ob,x,t,its,n,rfl,g,c,d⟩:=hF v hv
  rw [firstK_of g c d,firstK_of (kp _ _ g) c d]
 have em:∀ l:List Value,(∀ v ∈ l,v ∈ vs)→l.map (firstK hp)=l.map (firstK s.heap):=fun l hl=>List.map_congr_left fun v hv=>ek v (hl v hv)
 refine wpAny_bind (wpAny_holding (wpAny_call_entry slot_list_sort ⟨_,hL,rfl⟩ entry_list_sort (sort_firsts hL (fun v hv=>?_) (by rw [em vs fun _ z=>z]; exact nd) h64 fun out h1 h2=>⟨_,rfl,?_⟩) (args_list_sort _)))
 ·obtain ⟨a,ob,x,t,its,n,rfl,g,c,d⟩:=hF v hv
  exact ⟨a,ob,x,t,its,n,rfl,kp _ _ g,c,d⟩
 ·rw [em out fun v hv=>h1.mem_iff.mp hv] at h2
  have:=h out h1 h2
  unfold sortedAll at this
  rw [hG] at this
  exact wpAny_pure ⟨_,rfl,this⟩
end
end L2
namespace L2
open PySem PySem.Spec PyProof.Rows
def rSortF (K:PySem.W.Frag):List V→Hp→VK→Prop:=fun xs H Q=>∃ (p:Addr) (as:List Addr) (f:Addr→Str),xs=[.ref p]∧SqL K H p (as.map V.ref)∧(∀ a ∈ as,∃ rest,H a=some (.tup (.str (f a) :: rest)))∧(as.map f).Nodup∧as.length < 64 ∧
 ∀ as':List Addr,as'.Perm as→(as'.map f).Pairwise (fun x y=>¬ y.cps.toList < x.cps.toList)→New H (.lst (as'.map V.ref)) Q
def unref:Value→Addr
 | .ref a=>a
 | _=>0
theorem unref_map:∀ {out:List Value} {as:List Addr},(∀ v ∈ out,v ∈ as.map Value.ref)→out=(out.map unref).map Value.ref
 | [],_,_=>rfl
 | v :: out,as,h=>by
  obtain ⟨a,_,e⟩:=List.mem_map.mp (h v List.mem_cons_self)
  rw [List.map_cons,List.map_cons,← unref_map fun u hu=>h u (List.mem_cons_of_mem _ hu),← e]
  rfl
theorem refs_vals:∀ as:List Addr,Vals (as.map V.ref) (as.map Value.ref)
 | []=>.nil
 | a :: as=>.cons rfl (refs_vals as)
theorem call_sortF {X:Cx}:CallR X (.builtin "sorted") (rSortF X.K):=by
 intro pins s σ H xs us Q I r h
 obtain ⟨p,as,f,rfl,hp,hf,nd,h64,q⟩:=h
 obtain ⟨u,rfl,rx⟩:=vals1 r
 cases rx
 obtain ⟨its,rv,pl,hz⟩:=I.list hp
 have hits:=refs_of rv
 subst hits
 have fk:∀ a ∈ as,∃ (ob:Obj) (t:Tok) (l:List Value) (n:Nat),s.heap.get? a=some ob∧ob.cls=.type "tuple" ∧ ob.data=.seq (.str (f a) t :: l).toArray n:=fun a ha=>by
  obtain ⟨rest,hr⟩:=hf a ha
  obtain ⟨_,l,rl,ob,g,c,n,d⟩:=(show ObjOk X.prog X.w H s.heap a (.tup (.str (f a) :: rest)) from I.hok a _ hr)
  cases rl with
  | cons z zs =>
   obtain ⟨t,rfl⟩:=z
   exact ⟨ob,t,_,n,g,c,d⟩
 have fe:∀ a ∈ as,firstK s.heap (.ref a)=some (f a).cps.toList:=fun a ha=>by
  obtain ⟨ob,t,l,n,g,c,d⟩:=fk a ha
  exact firstK_of g c d
 have em:∀ l:List Addr,(∀ a ∈ l,a ∈ as)→(l.map Value.ref).map (firstK s.heap)=l.map fun a=>some (f a).cps.toList:=fun l hl=>by
  rw [List.map_map]
  exact List.map_congr_left fun a ha=>fe a (hl a ha)
 refine sorted_firsts pl.isList (fun v hv=>?_) ?_ (by rw [List.length_map]; exact h64) fun out h1 h2=>?_
 ·obtain ⟨a,ha,rfl⟩:=List.mem_map.mp hv
  obtain ⟨ob,t,l,n,g,c,d⟩:=fk a ha
  exact ⟨a,ob,f a,t,l,n,rfl,g,c,d⟩
 ·rw [em as fun _ z=>z]
  have:(as.map fun a=>some (f a).cps.toList)=(as.map f).map fun x=>some x.cps.toList:=by rw [List.map_map]; rfl
  rw [this]
  exact nd.map _ fun x y ne z=>ne (ext_toList (Option.some.inj z))
 ·have hm:∀ v ∈ out,v ∈ as.map Value.ref:=fun v hv=>h1.mem_iff.mp hv
  have eo:=unref_map hm
  have hperm:(out.map unref).Perm as:=by
   have:=h1.map unref
   rw [List.map_map] at this
   have e:as.map (unref ∘ Value.ref)=as:=by
    rw [show (unref ∘ Value.ref)=id from rfl,List.map_id]
   rw [e] at this
   exact this
  generalize hA:out.map unref=as' at eo hperm
  subst eo
  rw [em as' fun a ha=>hperm.mem_iff.mp ha] at h2
  obtain ⟨e,he⟩:=sortedAll_at s.heap (as.map Value.ref) (as'.map Value.ref).toArray
  have hn:H (s.heap.objs.size + 1)=none:=I.hok.fresh (Nat.le_succ _)
  have hl:=hperm.length_eq
  refine ⟨.ref (s.heap.objs.size + 1),_,I.laid (a:=s.heap.objs.size + 1) (o:=.lst (as'.map V.ref)) (t':=s.toks) (fun b o h=>sortedAll_old h) (Nat.le_succ _) (show ObjOk X.prog X.w _ _ _ (.lst _) from ⟨by rw [List.length_map]; exact sz (by omega),as'.map Value.ref,e,refs_vals _,he⟩),rfl,(q as' hperm ?_).at _ hn⟩
  rw [List.pairwise_map] at h2 ⊢
  exact h2.imp fun z=>z _ _ rfl rfl
end L2
end
section
namespace L2
open PySem PySem.Spec PyProof.Rows
def rJoin (K:PySem.W.Frag):V→List V→Hp→VK→Prop:=fun x xs H Q=>∃ (p:Addr) (o:Option Str),x=.str "" ∧ xs=[.ref p]∧SqL K H p (o.toList.map V.str)∧(o.getD "").length ≤ 1000∧Q (.str (o.getD "")) H
theorem join_opt:∀ o:Option Str,Txt.join "" o.toList=o.getD ""
 | none=>by decide +kernel
 | some y=>by
  show Builtin.Str.glued "" [y]=y
  unfold Builtin.Str.glued
  rfl
theorem mt_join {X:Cx}:MtR X "str.join" (rJoin X.K):=by
 intro pins s σ H x vs v us Q I rx rv h
 obtain ⟨p,o,rfl,rfl,hp,hl,q⟩:=h
 obtain ⟨u,rfl,ru⟩:=rv.one
 cases ru
 obtain ⟨t,rfl⟩:=rx
 obtain ⟨its,rv2,pl,hz⟩:=I.list hp
 refine join_list pl.isList (ys:=o.toList) ?_ ?_ fun t' k=>⟨.str (o.getD ""),H,I.tok k,⟨t',by rw [join_opt]⟩,q⟩
 ·have:∀ (ys:List Str) (its:List Value),Vals (ys.map V.str) its→StrsAre its ys:=by
   intro ys
   induction ys with
   | nil=>intro its r; cases r; exact .nil
   | cons y ys ih =>
    intro its r
    cases r with
    | cons a b =>
     obtain ⟨t,rfl⟩:=a
     exact .cons y t (ih _ b)
  simpa using this _ _ rv2
 ·cases o with
  | none=>decide
  | some y =>
   have hl:y.length ≤ 1000:=hl
   have e:(("" : Str)).length=0:=by decide +kernel
   show (List.map (fun x:Str=>x.length) [y]).sum + [y].length * ("" : Str).length ≤ 16777216
   rw [e]
   simp
   omega
end L2
end
section
namespace NM
def tA:List Int:=[0,1035609595,1591546621,1776858963,1869515134,207121919,1962171305,454727606,934757567,592286321,1177302783,484597899,2054827476,1896763824,227363803,784868522,1541120607,2082079291,1369884984,958709409,1662393215,867403751,1316040773,418501921,1027413738,1329914572,948381912,913256656,1187423725,1664836201,392434261,1903795744,1844302127,161532633,2114781469,949938980,684942492,1304871617,1553096528,632254608,1904938431,1177567069,1507443699,923030587,1731762210,977450723,1282992784,1986753328,513706869,985311221,664957286,2125682195,474190956,1235096585,456628328,1385409768,1667453686,319569803,1906159924,17552705,1269958954,1073116705,951897872,1004962466]
def tB:List Int:=[0,1073741815,1610612722,1789569691,805306361,214748363,1968526660,766958439,1476394995,2028178983,1181115996,1268967599,984263330,412977621,1457221034,787410664,1811939312,1831677213,2087831306,1412818177,590557998,255652813,1708225614,1820692642,492131665,1331439850,1280230625,676059661,728610517,1369946453,393705332,381005160,905969656,1138817076,1989580421,1871378591,1043915653,1421982403,1780150903,137659207,295278999,1126119464,1201568221,1173624774,854112807,1694125974,910346321,525448122,1319807647,1029915618,665719925,610559071,1713857127,1600483082,1411771645,1971780423,1438047073,1902595145,1758715041,1401324063,196852666,1637016209,190502580,1516873357]
def mix (c k:Int):Int:=((c + 7919 * k) * 48271 % 2147483647) * ((c + 7919 * k) * 48271 % 2147483647 + 2 * k + 1) % 2147483629
end NM
namespace NM
open PySem L2
def letL:List Nat:=[97,98,99,100,101,102,103,104,105,106,107,108,109,110,111,112,113,114,115,116,117,118,119,120,121,122]
def sgL:List Nat:=letL ++ [48,49,50,51,52,53,54,55,56,57]
theorem let_eq:("abcdefghijklmnopqrstuvwxyz" : Str).cps.toList=letL:=by decide +kernel
theorem let_len:("abcdefghijklmnopqrstuvwxyz" : Str).length=26:=by decide +kernel
def sgAt (m:Int) (k:Nat):Nat:=sgL.getD ((m / 6 + 7 * (k:Int)) / ((k:Int) + 1) % 36).toNat 0
def nameSt (n:Int) (j:Nat):List Nat:=letL.getD (n % 26).toNat 0 :: (List.range j).map (sgAt (n / 26))
def nameOf (n:Int):Str:=⟨(nameSt n (n / 26 % 6).toNat).toArray⟩
def mixL (ns:List Int) (k:Nat):Int:=mix (if ns.length=0 then 0 else ns.getD (k % ns.length) 0) k
def uniq (f:Nat→Str):Nat→List Str
 | 0=>[]
 | n + 1=>if f n ∈ uniq f n then uniq f n else uniq f n ++ [f n]
def wishes:List Int:=(List.range 78).map fun i=>26 * (1 + 6 * ((i / 26:Nat):Int)) + ((i % 26:Nat):Int)
end NM
end
section
namespace YM
open PySem L2 NM
def mixed (c k:Int):Int:=((c + 7919 * k) * 48271 % 2147483647) * ((c + 7919 * k) * 48271 % 2147483647 + 2 * k + 1) % 2147483629
theorem mixed_nn (c k:Int):0 ≤ mixed c k:=Int.emod_nonneg _ (by decide)
theorem mixed_lt (c k:Int):mixed c k < 2147483629:=Int.emod_lt_of_pos _ (by decide)
def cellAt (ns:List Int) (k:Nat):Int:=match ns[k]? with
 | some c=>mixed c k
 | none=>0
def cellsF (ns:List Int) (a b:Nat):List Int:=(List.range (min b ns.length - a)).map fun i=>mixed (ns.getD (a + i) 0) ((a + i:Nat):Int)
abbrev EndT:=Str×Str
def endsK (k:Str):List Str:=if k = "points" then ["stem", "left", "right"] else if k = "cross" then ["a", "b", "c", "d"] else if k = "plain" then ["a", "b"] else ["a"]
def letAt (i:Int):Nat:=letL.getD i.toNat 0
def figS (k:Nat):Str:=toString (k:Int)
def nameBy (kind:Str) (c:Int) (k:Nat):Str:=if c % 3=0 then ⟨#[kind.cps.toList.getD 0 0]⟩ ++ figS k else (⟨#[letAt (c / 3 % 26)]⟩ ++ ⟨#[letAt (c / 78 % 26)]⟩) ++ repS "0" (c / 2028 % 3).toNat ++ figS k
theorem fig_len':∀ k,k < 100→(figS k).length ≤ 2:=by decide +kernel
theorem fig_log {k:Nat} (h:k < 100):(k:Int).natAbs.log2 < 1920:=by
 rw [Int.natAbs_natCast]
 refine Nat.lt_of_le_of_lt (Nat.log2_le_self k) (by omega)
def stepN (a c:Nat):Nat:=if 48 ≤ c∧c ≤ 57 then a * 10 + (c - 48) else 0
def valN (s:Str):Nat:=s.cps.toList.foldl stepN 0
theorem fig_val:∀ k,k < 100→valN (figS k)=k:=by decide +kernel
theorem fig_some:∀ k,k < 100→0 < (figS k).length:=by decide +kernel
theorem zero_val:∀ m,m < 3→(repS "0" m).cps.toList.foldl stepN 0=0:=by decide +kernel
theorem zero_len:∀ m,m < 3→(repS "0" m).length=m:=by decide +kernel
theorem let_big:∀ i,i < 26→97 ≤ letL.getD i 0∧letL.getD i 0 ≤ 122:=by decide +kernel
theorem letAt_big {i:Int} (h0:0 ≤ i) (h1:i < 26):97 ≤ letAt i∧letAt i ≤ 122:=let_big i.toNat (by omega)
theorem app_cps (x y:Str):(x ++ y).cps.toList=x.cps.toList ++ y.cps.toList:=PySem.W.KT.app_list x y
theorem val_name {kind:Str} {c:Int} {k:Nat} (hk:57 < kind.cps.toList.getD 0 0) (h:k < 100):valN (nameBy kind c k)=k:=by
 have hbig:∀ a c,57 < c→stepN a c=0:=fun a c h=>by unfold stepN; rw [if_neg (by omega)]
 unfold nameBy
 split
 ·unfold valN
  rw [app_cps,List.foldl_append]
  show List.foldl stepN (stepN 0 (kind.cps.toList.getD 0 0)) _=k
  rw [hbig _ _ hk]
  exact fig_val k h
 ·have a0:=Int.emod_nonneg (c / 3) (show (26:Int) ≠ 0 by decide)
  have a1:=Int.emod_lt_of_pos (c / 3) (show (0:Int) < 26 by decide)
  have b0:=Int.emod_nonneg (c / 78) (show (26:Int) ≠ 0 by decide)
  have b1:=Int.emod_lt_of_pos (c / 78) (show (0:Int) < 26 by decide)
  have z0:=Int.emod_nonneg (c / 2028) (show (3:Int) ≠ 0 by decide)
  have z1:=Int.emod_lt_of_pos (c / 2028) (show (0:Int) < 3 by decide)
  unfold valN
  rw [app_cps,app_cps,app_cps,List.foldl_append,List.foldl_append,List.foldl_append]
  show List.foldl stepN (List.foldl stepN (stepN (stepN 0 (letAt (c / 3 % 26))) (letAt (c / 78 % 26))) _) _=k
  rw [hbig _ (letAt (c / 78 % 26)) (by have:=letAt_big b0 b1; omega),zero_val _ (by omega)]
  exact fig_val k h
theorem name_len2 {kind:Str} {c:Int} {k:Nat} (h:k < 100):2 ≤ (nameBy kind c k).length:=by
 have:=fig_some k h
 unfold nameBy
 split
 ·rw [PySem.Str.length_append]
  show 2 ≤ 1 + _
  omega
 ·rw [PySem.Str.length_append,PySem.Str.length_append,PySem.Str.length_append]
  show 2 ≤ 1 + 1 + _ + _
  omega
theorem name_len6 {kind:Str} {c:Int} {k:Nat} (h:k < 100):(nameBy kind c k).length ≤ 6:=by
 have:=fig_len' k h
 unfold nameBy
 split
 ·rw [PySem.Str.length_append]
  show 1 + _ ≤ 6
  omega
 ·have z0:=Int.emod_nonneg (c / 2028) (show (3:Int) ≠ 0 by decide)
  have z1:=Int.emod_lt_of_pos (c / 2028) (show (0:Int) < 3 by decide)
  rw [PySem.Str.length_append,PySem.Str.length_append,PySem.Str.length_append,zero_len _ (by omega)]
  show 1 + 1 + _ + _ ≤ 6
  omega
def endsOf (ps:List EndT):List EndT:=ps.flatMap fun p=>(endsK p.1).map fun e=>(p.2,e)
def flatJ (js:List (EndT×EndT)):List EndT:=js.flatMap fun j=>[j.1,j.2]
theorem endsOf_app (a b:List EndT):endsOf (a ++ b)=endsOf a ++ endsOf b:=List.flatMap_append ..
theorem flatJ_app (a b:List (EndT×EndT)):flatJ (a ++ b)=flatJ a ++ flatJ b:=List.flatMap_append ..
def kinds:List Str:=["plain", "points", "cross", "gate", "stop"]
structure Net (ps:List EndT) (js:List (EndT×EndT)) (opn:List EndT):Prop where
 perm:(flatJ js ++ opn).Perm (endsOf ps)
 nd:(ps.map Prod.snd).Nodup
 apart:∀ j ∈ js,j.1.1 ≠ j.2.1
 kind:∀ p ∈ ps,p.1 ∈ kinds
inductive Block (n1 n2 n3 n4:Str):List EndT→List (EndT×EndT)→EndT→EndT→Prop
 | plain (a b:Str) (h:(a,b) ∈ [(("a" : Str),("b" : Str)),("b", "a")]):Block n1 n2 n3 n4 [("plain",n1)] [] (n1,a) (n1,b)
 | loop (a b:Str) (h:(a,b) ∈ [(("left" : Str),("right" : Str)),("right", "left")]):Block n1 n2 n3 n4 [("points",n1),("plain",n2),("plain",n3),("points",n4)] [((n1, "left"),(n2, "a")),((n1, "right"),(n3, "a")),((n2, "b"),(n4,a)),((n4,b),(n3, "b"))] (n1, "stem") (n4, "stem")
 | siding (x a b k:Str) (h:[x,a,b].Perm ["stem", "left", "right"]) (hk:k ∈ [("stop" : Str), "gate"]):Block n1 n2 n3 n4 [("points",n1),("plain",n2),(k,n3)] [((n1,x),(n2, "b")),((n2, "a"),(n3, "a"))] (n1,a) (n1,b)
 | cross (k:Str) (hk:k ∈ [("gate" : Str), "stop"]):Block n1 n2 n3 n4 [("cross",n1),("gate",n2),(k,n3)] [((n1, "c"),(n2, "a")),((n3, "a"),(n1, "d"))] (n1, "a") (n1, "b")
theorem perm_at {α:Type} {d:α} {l m:List α} (is:List Nat) (h:is.Perm (List.range m.length)) (e:l=is.map fun i=>m.getD i d):l.Perm m:=by
 have h2:((List.range m.length).map fun i=>m.getD i d)=m:=by
  apply List.ext_getElem
  ·simp
  ·intro i h1 h3
   simp [List.getD_eq_getElem?_getD,h3]
 rw [e]
 exact (h.map _).trans (by rw [h2])
theorem Block.sub {n1 n2 n3 n4:Str} {ps:List EndT} {js:List (EndT×EndT)} {a b:EndT} (h:Block n1 n2 n3 n4 ps js a b):(ps.map Prod.snd).Sublist [n1,n2,n3,n4]:=by
 cases h with
 | plain=>exact .cons_cons _ (List.nil_sublist _)
 | loop=>exact List.Sublist.refl _
 | siding=>exact .cons_cons _ (.cons_cons _ (.cons_cons _ (List.nil_sublist _)))
 | cross=>exact .cons_cons _ (.cons_cons _ (.cons_cons _ (List.nil_sublist _)))
theorem ends_gs {k:Str} (hk:k = "gate" ∨ k = "stop"):endsK k=[("a" : Str)]:=by rcases hk with rfl | rfl <;> decide +kernel
theorem ends_points:endsK "points" = [("stem" : Str), "left", "right"]:=by decide +kernel
theorem ends_plain:endsK "plain" = [("a" : Str), "b"]:=by decide +kernel
theorem ends_cross:endsK "cross" = [("a" : Str), "b", "c", "d"]:=by decide +kernel
theorem Block.perm {n1 n2 n3 n4:Str} {ps:List EndT} {js:List (EndT×EndT)} {a b:EndT} (h:Block n1 n2 n3 n4 ps js a b):(flatJ js ++ [a,b]).Perm (endsOf ps):=by
 cases h with
 | plain a b h =>
  simp only [List.mem_cons,List.mem_nil_iff,or_false,Prod.mk.injEq] at h
  rcases h with ⟨rfl,rfl⟩ | ⟨rfl,rfl⟩
  ·simp [flatJ,endsOf,ends_plain]
  ·simp only [flatJ,endsOf,ends_plain,List.flatMap_nil,List.flatMap_cons,List.map_cons,List.map_nil,List.nil_append,List.append_nil]
   exact List.Perm.swap _ _ _
 | loop a b h =>
  have he:endsOf [("points",n1),("plain",n2),("plain",n3),("points",n4)]=([(n1, "stem"),(n1, "left"),(n1, "right"),(n2, "a"),(n2, "b"),(n3, "a"),(n3, "b"),(n4, "stem"),(n4, "left"),(n4, "right")]:List EndT):=by simp [endsOf,ends_points,ends_plain]
  rw [he]
  simp only [List.mem_cons,List.mem_nil_iff,or_false,Prod.mk.injEq] at h
  rcases h with ⟨rfl,rfl⟩ | ⟨rfl,rfl⟩
  ·exact perm_at (d:=(n1,n1)) [1,3,2,5,4,8,9,6,0,7] (show List.Perm _ (List.range 10) by decide) rfl
  ·exact perm_at (d:=(n1,n1)) [1,3,2,5,4,9,8,6,0,7] (show List.Perm _ (List.range 10) by decide) rfl
 | siding x a b k h hk =>
  have hk':k = "gate" ∨ k = "stop" := by
   simp only [List.mem_cons,List.mem_nil_iff,or_false] at hk
   exact hk.symm
  have he:endsOf [("points",n1),("plain",n2),(k,n3)]=([("stem" : Str), "left", "right"].map fun e=>(n1,e)) ++ ([(n2, "a"),(n2, "b"),(n3, "a")]:List EndT):=by simp [endsOf,ends_points,ends_plain,ends_gs hk']
  rw [he]
  refine List.Perm.trans ?_ (List.Perm.append_right _ (h.map fun e=>(n1,e)))
  exact perm_at (d:=(n1,n1)) [0,4,3,5,1,2] (show List.Perm _ (List.range 6) by decide) rfl
 | cross k hk =>
  have hk':k = "gate" ∨ k = "stop" := by
   simp only [List.mem_cons,List.mem_nil_iff,or_false] at hk
   exact hk
  have he:endsOf [("cross",n1),("gate",n2),(k,n3)]=([(n1, "a"),(n1, "b"),(n1, "c"),(n1, "d"),(n2, "a"),(n3, "a")]:List EndT):=by simp [endsOf,ends_cross,ends_gs hk',ends_gs (k := "gate") (.inl rfl)]
  rw [he]
  exact perm_at (d:=(n1,n1)) [2,4,5,3,0,1] (show List.Perm _ (List.range 6) by decide) rfl
theorem Block.kind {n1 n2 n3 n4:Str} {ps:List EndT} {js:List (EndT×EndT)} {a b:EndT} (h:Block n1 n2 n3 n4 ps js a b):∀ p ∈ ps,p.1 ∈ kinds:=by
 cases h with
 | plain=>intro p hp; simp at hp; subst hp; simp [kinds]
 | loop=>intro p hp; simp at hp; rcases hp with rfl | rfl | rfl | rfl <;> simp [kinds]
 | siding x a b k h hk=>intro p hp; simp at hp hk; rcases hp with rfl | rfl | rfl <;> rcases hk with rfl | rfl <;> simp [kinds]
 | cross k hk=>intro p hp; simp at hp hk; rcases hp with rfl | rfl | rfl <;> rcases hk with rfl | rfl <;> simp [kinds]
theorem Block.apart {n1 n2 n3 n4:Str} {ps:List EndT} {js:List (EndT×EndT)} {a b:EndT} (h:Block n1 n2 n3 n4 ps js a b) (nd:[n1,n2,n3,n4].Nodup):∀ j ∈ js,j.1.1 ≠ j.2.1:=by
 simp only [List.nodup_cons,List.mem_cons,List.mem_nil_iff,or_false,not_or,List.not_mem_nil,not_false_eq_true,List.nodup_nil,and_true] at nd
 obtain ⟨⟨a1,a2,a3⟩,⟨b1,b2⟩,c1⟩:=nd
 cases h with
 | plain=>intro j hj; cases hj
 | loop=>intro j hj; simp at hj; rcases hj with rfl | rfl | rfl | rfl <;> first | assumption | exact Ne.symm (by assumption)
 | siding x a b k h hk=>intro j hj; simp at hj; rcases hj with rfl | rfl <;> first | assumption | exact Ne.symm (by assumption)
 | cross k hk=>intro j hj; simp at hj; rcases hj with rfl | rfl <;> first | assumption | exact Ne.symm (by assumption)
theorem Block.opens {n1 n2 n3 n4:Str} {ps:List EndT} {js:List (EndT×EndT)} {a b:EndT} (h:Block n1 n2 n3 n4 ps js a b):a.1 ∈ ps.map Prod.snd∧b.1 ∈ ps.map Prod.snd:=by
 cases h <;> simp
theorem end_part {ps:List EndT} {e:EndT} (h:e ∈ endsOf ps):e.1 ∈ ps.map Prod.snd:=by
 obtain ⟨p,hp,he⟩:=List.mem_flatMap.mp h
 obtain ⟨x,_,rfl⟩:=List.mem_map.mp he
 exact List.mem_map.mpr ⟨p,hp,rfl⟩
theorem Net.more {ps:List EndT} {js:List (EndT×EndT)} {e:EndT} {n1 n2 n3 n4:Str} {qs:List EndT} {ks:List (EndT×EndT)} {a b:EndT} (h:Net ps js [e]) (B:Block n1 n2 n3 n4 qs ks a b) (nd:[n1,n2,n3,n4].Nodup) (new:∀ n ∈ [n1,n2,n3,n4],n ∉ ps.map Prod.snd):Net (ps ++ qs) (js ++ ks ++ [(e,a)]) [b]:=by
 have he:e.1 ∈ ps.map Prod.snd:=end_part (h.perm.subset (by simp))
 have ha:a.1 ∉ ps.map Prod.snd:=new _ (B.sub.subset B.opens.1)
 refine ⟨?_,?_,?_,?_⟩
 ·rw [flatJ_app,flatJ_app,endsOf_app]
  refine List.Perm.trans ?_ (h.perm.append B.perm)
  show (flatJ js ++ flatJ ks ++ [e,a] ++ [b]).Perm ((flatJ js ++ [e]) ++ (flatJ ks ++ [a,b]))
  rw [List.append_assoc,List.append_assoc,List.append_assoc]
  refine List.Perm.append_left _ ?_
  show (flatJ ks ++ ([e] ++ [a,b])).Perm ([e] ++ (flatJ ks ++ [a,b]))
  rw [← List.append_assoc,← List.append_assoc]
  exact List.Perm.append_right _ List.perm_append_comm
 ·rw [List.map_append,List.nodup_append]
  exact ⟨h.nd,List.Pairwise.sublist B.sub nd,fun x hx y hy z=>new y (B.sub.subset hy) (z ▸ hx)⟩
 ·intro j hj
  rw [List.mem_append,List.mem_append] at hj
  rcases hj with (z | z) | z
  ·exact h.apart j z
  ·exact B.apart nd j z
  ·simp at z
   subst z
   exact fun y=>ha (y ▸ he)
 ·intro p hp
  rcases List.mem_append.mp hp with z | z
  ·exact h.kind p z
  ·exact B.kind p z
def isNm (s:Str) (n:Nat):Prop:=∃ kd c k,(96 < kd.cps.toList.getD 0 0∧kd.cps.toList.getD 0 0 < 123)∧k < n∧s=nameBy kd c k
theorem Block.len {n1 n2 n3 n4:Str} {ps:List EndT} {js:List (EndT×EndT)} {a b:EndT} (h:Block n1 n2 n3 n4 ps js a b):ps.length ≤ 4∧js.length ≤ 4:=by
 cases h <;> simp
structure LineOk (i:Nat) (ps:List EndT) (js:List (EndT×EndT)) (cur:EndT):Prop where
 net:Net ps js [cur]
 pl:ps.length ≤ 1 + 4 * i
 jl:js.length ≤ 5 * i
 nm:∀ p ∈ ps,p=((("gate" : Str),("g" : Str)):EndT)∨isNm p.2 (4 * i)
theorem LineOk.start:LineOk 0 [("gate", "g")] [] ("g", "a"):=by
 refine ⟨⟨?_,by simp,by simp,by simp [kinds]⟩,by simp,by simp,by simp⟩
 simp [flatJ,endsOf,ends_gs (k := "gate") (.inl rfl)]
theorem len_one {x s:Str} (hx:x.length=1) (h:2 ≤ s.length):s ≠ x:=fun z=>by rw [z] at h; omega
theorem LineOk.more {i:Nat} {ps:List EndT} {js:List (EndT×EndT)} {cur:EndT} {k1 k2 k3 k4:Str} {c1 c2 c3 c4:Int} {qs:List EndT} {ks:List (EndT×EndT)} {a b:EndT} (h:LineOk i ps js cur) (hi:i < 20)
  (g1:96 < k1.cps.toList.getD 0 0∧k1.cps.toList.getD 0 0 < 123) (g2:96 < k2.cps.toList.getD 0 0∧k2.cps.toList.getD 0 0 < 123) (g3:96 < k3.cps.toList.getD 0 0∧k3.cps.toList.getD 0 0 < 123) (g4:96 < k4.cps.toList.getD 0 0∧k4.cps.toList.getD 0 0 < 123)
  (B:Block (nameBy k1 c1 (4 * i)) (nameBy k2 c2 (4 * i + 1)) (nameBy k3 c3 (4 * i + 2)) (nameBy k4 c4 (4 * i + 3)) qs ks a b):LineOk (i + 1) (ps ++ qs) (js ++ ks ++ [(cur,a)]) b:=by
 have v1:=val_name (c:=c1) (Nat.lt_trans (by decide) g1.1) (show 4 * i < 100 by omega)
 have v2:=val_name (c:=c2) (Nat.lt_trans (by decide) g2.1) (show 4 * i + 1 < 100 by omega)
 have v3:=val_name (c:=c3) (Nat.lt_trans (by decide) g3.1) (show 4 * i + 2 < 100 by omega)
 have v4:=val_name (c:=c4) (Nat.lt_trans (by decide) g4.1) (show 4 * i + 3 < 100 by omega)
 have ne:∀ {x y:Str} {m n:Nat},valN x=m→valN y=n→m ≠ n→x ≠ y:=fun hx hy hn z=>hn (by rw [← hx,← hy,z])
 have nd:[nameBy k1 c1 (4 * i),nameBy k2 c2 (4 * i + 1),nameBy k3 c3 (4 * i + 2),nameBy k4 c4 (4 * i + 3)].Nodup:=by
  simp [ne v1 v2 (by omega),ne v1 v3 (by omega),ne v1 v4 (by omega),ne v2 v3 (by omega),ne v2 v4 (by omega),ne v3 v4 (by omega)]
 have all:∀ n ∈ [nameBy k1 c1 (4 * i),nameBy k2 c2 (4 * i + 1),nameBy k3 c3 (4 * i + 2),nameBy k4 c4 (4 * i + 3)],4 * i ≤ valN n∧2 ≤ n.length∧isNm n (4 * (i + 1)):=by
  intro n hn
  simp only [List.mem_cons,List.mem_nil_iff,or_false] at hn
  rcases hn with rfl | rfl | rfl | rfl
  ·exact ⟨by omega,name_len2 (by omega),_,_,_,g1,by omega,rfl⟩
  ·exact ⟨by omega,name_len2 (by omega),_,_,_,g2,by omega,rfl⟩
  ·exact ⟨by omega,name_len2 (by omega),_,_,_,g3,by omega,rfl⟩
  ·exact ⟨by omega,name_len2 (by omega),_,_,_,g4,by omega,rfl⟩
 refine ⟨h.net.more B nd fun n hn hm=>?_,?_,?_,?_⟩
 ·obtain ⟨p,hp,rfl⟩:=List.mem_map.mp hm
  obtain ⟨a1,a2,_⟩:=all _ hn
  rcases h.nm p hp with z | ⟨kd,c,k,hk,hlt,e⟩
  ·exact len_one (x := "g") (by decide +kernel) a2 (by rw [z])
  ·rw [e,val_name (Nat.lt_trans (by decide) hk.1) (by omega)] at a1
   omega
 ·have:=B.len.1; have:=h.pl; rw [List.length_append]; omega
 ·have:=B.len.2; have:=h.jl; rw [List.length_append,List.length_append]; show _ + _ + 1 ≤ _; omega
 ·intro p hp
  rcases List.mem_append.mp hp with z | z
  ·rcases h.nm p z with y | ⟨kd,c,k,hk,hlt,e⟩
   ·exact .inl y
   ·exact .inr ⟨kd,c,k,hk,by omega,e⟩
  ·exact .inr (all _ (B.sub.subset (List.mem_map.mpr ⟨p,z,rfl⟩))).2.2
theorem LineOk.done {i:Nat} {ps:List EndT} {js:List (EndT×EndT)} {cur:EndT} (h:LineOk i ps js cur) (hi:i < 20):Net (ps ++ [(("gate" : Str),("h" : Str))]) (js ++ [(cur,(("h" : Str),("a" : Str)))]) []:=by
 have hno:("h" : Str) ∉ ps.map Prod.snd:=fun z=>by
  obtain ⟨p,hp,e⟩:=List.mem_map.mp z
  rcases h.nm p hp with y | ⟨kd,c,k,hk,hlt,y⟩
  ·rw [y] at e
   exact absurd e (by decide +kernel)
  ·exact len_one (x := "h") (by decide +kernel) (name_len2 (kind:=kd) (c:=c) (k:=k) (by omega)) (by rw [← y]; exact e)
 have hc:cur.1 ∈ ps.map Prod.snd:=end_part (h.net.perm.subset (by simp))
 refine ⟨?_,?_,?_,?_⟩
 ·rw [flatJ_app,endsOf_app,List.append_nil]
  have he:endsOf [("gate", "h")]=([("h", "a")]:List EndT):=by simp [endsOf,ends_gs (k := "gate") (.inl rfl)]
  rw [he]
  show (flatJ js ++ ([cur] ++ [(("h" : Str),("a" : Str))])).Perm _
  rw [← List.append_assoc]
  exact List.Perm.append_right _ h.net.perm
 ·rw [List.map_append,List.nodup_append]
  exact ⟨h.net.nd,by simp,fun x hx y hy z=>by simp at hy; rw [z,hy] at hx; exact hno hx⟩
 ·intro j hj
  rcases List.mem_append.mp hj with z | z
  ·exact h.net.apart j z
  ·simp at z
   subst z
   exact fun y=>hno (by have y:cur.1=("h" : Str):=y; rw [← y]; exact hc)
 ·intro p hp
  rcases List.mem_append.mp hp with z | z
  ·exact h.net.kind p z
  ·simp at z
   subst z
   simp [kinds]
def endN (j:Nat):Str := "e" ++ figS j
def Closes (rest:List EndT) (i:Nat) (nps:List EndT) (njs:List (EndT×EndT)):Prop:=∃ ks:List Str,ks.length=i∧(∀ k ∈ ks,k = "gate" ∨ k = "stop")∧nps=(List.range i).map (fun j=>(ks.getD j "gate",endN j))∧njs=(List.range i).map (fun j=>(rest.getD j ("", ""),(endN j,("a" : Str))))
theorem Closes.more {rest:List EndT} {i:Nat} {nps:List EndT} {njs:List (EndT×EndT)} {k:Str} {q:EndT} (h:Closes rest i nps njs) (hk:k = "gate" ∨ k = "stop") (hq:rest[i]? = some q):Closes rest (i + 1) (nps ++ [(k,endN i)]) (njs ++ [(q,(endN i,("a" : Str)))]):=by
 obtain ⟨ks,hl,hks,rfl,rfl⟩:=h
 refine ⟨ks ++ [k],by rw [List.length_append,hl]; rfl,?_,?_,?_⟩
 ·intro x hx
  rcases List.mem_append.mp hx with z | z
  ·exact hks x z
  ·simp at z; rw [z]; exact hk
 ·rw [List.range_succ,List.map_append]
  congr 1
  ·refine List.map_congr_left fun j hj=>?_
   have hj:=List.mem_range.mp hj
   rw [List.getD_eq_getElem?_getD,List.getD_eq_getElem?_getD,List.getElem?_append_left (by omega)]
  ·show [(k,endN i)]=[((ks ++ [k]).getD i "gate",endN i)]
   rw [List.getD_eq_getElem?_getD,List.getElem?_append_right (by omega),hl,Nat.sub_self]
   rfl
 ·rw [List.range_succ,List.map_append]
  congr 1
  show [(q,(endN i,("a" : Str)))]=[(rest.getD i ("", ""),(endN i,("a" : Str)))]
  rw [List.getD_eq_getElem?_getD,hq]
  rfl
theorem endsK_nd (k:Str):(endsK k).Nodup:=by
 unfold endsK
 split
 ·decide +kernel
 ·split
  ·decide +kernel
  ·split <;> decide +kernel
theorem endsOf_nd:∀ {ps:List EndT},(ps.map Prod.snd).Nodup→(endsOf ps).Nodup
 | [],_=>List.nodup_nil
 | p :: ps,h=>by
  rw [List.map_cons,List.nodup_cons] at h
  rw [show endsOf (p :: ps)=((endsK p.1).map fun e=>(p.2,e)) ++ endsOf ps from List.flatMap_cons ..,List.nodup_append]
  refine ⟨?_,endsOf_nd h.2,?_⟩
  ·refine List.Pairwise.map _ (fun a b z y=>z ?_) (endsK_nd p.1)
   exact (Prod.mk.inj y).2
  ·intro x hx y hy z
   obtain ⟨e,_,rfl⟩:=List.mem_map.mp hx
   rw [← z] at hy
   exact h.1 (end_part hy)
theorem Net.ond {ps:List EndT} {js:List (EndT×EndT)} {o:List EndT} (h:Net ps js o):o.Nodup:=by
 have:=(h.perm.nodup_iff).mpr (endsOf_nd h.nd)
 exact (List.nodup_append.mp this).2.1
theorem Net.add {ps:List EndT} {js:List (EndT×EndT)} {o:List EndT} {k n:Str} (h:Net ps js o) (hn:n ∉ ps.map Prod.snd) (hk:k ∈ kinds):Net (ps ++ [(k,n)]) js (o ++ (endsK k).map fun e=>(n,e)):=by
 refine ⟨?_,?_,h.apart,?_⟩
 ·rw [endsOf_app,← List.append_assoc]
  have:endsOf [(k,n)]=(endsK k).map fun e=>(n,e):=by simp [endsOf]
  rw [this]
  exact List.Perm.append_right _ h.perm
 ·rw [List.map_append,List.nodup_append]
  exact ⟨h.nd,by simp,fun x hx y hy z=>by simp at hy; rw [z,hy] at hx; exact hn hx⟩
 ·intro p hp
  rcases List.mem_append.mp hp with z | z
  ·exact h.kind p z
  ·simp at z
   rw [z]
   exact hk
theorem Net.join {ps:List EndT} {js:List (EndT×EndT)} {o o':List EndT} {a b:EndT} (h:Net ps js o) (hp:(a :: b :: o').Perm o) (ne:a.1 ≠ b.1):Net ps (js ++ [(a,b)]) o':=by
 refine ⟨?_,h.nd,?_,h.kind⟩
 ·rw [flatJ_app]
  refine List.Perm.trans ?_ h.perm
  show (flatJ js ++ [a,b] ++ o').Perm _
  rw [List.append_assoc]
  exact List.Perm.append_left _ hp
 ·intro j hj
  rcases List.mem_append.mp hj with z | z
  ·exact h.apart j z
  ·simp at z
   rw [z]
   exact ne
theorem erase_perm {α:Type}:∀ {l:List α} {i:Nat} {a:α},l[i]? = some a→(a :: l.eraseIdx i).Perm l
 | [],_,_,h=>by cases h
 | x :: l,0,a,h=>by cases h; exact List.Perm.refl _
 | x :: l,i + 1,a,h=>by
  rw [List.eraseIdx_cons_succ]
  exact (List.Perm.swap x a _).trans ((erase_perm (l:=l) h).cons x)
theorem two_perm {α:Type} {l m:List α} {i j:Nat} {a b:α} (ha:l[i]? = some a) (hb:m[j]? = some b):(a :: b :: (l.eraseIdx i ++ m.eraseIdx j)).Perm (l ++ m):=by
 refine List.Perm.trans ?_ ((erase_perm ha).append (erase_perm hb))
 show List.Perm _ (a :: (l.eraseIdx i ++ (b :: m.eraseIdx j)))
 exact (List.perm_middle.symm).cons a
theorem drop_perm {l:List EndT} {a:EndT} (nd:l.Nodup) (ha:a ∈ l):(a :: l.filter fun e=>decide (e ≠ a)).Perm l:=by
 induction l with
 | nil=>cases ha
 | cons x l ih =>
  rw [List.nodup_cons] at nd
  by_cases z:x=a
  ·subst z
   rw [List.filter_cons,if_neg (by simp)]
   have:(l.filter fun e=>decide (e ≠ x))=l:=List.filter_eq_self.mpr fun e he=>decide_eq_true fun y=>nd.1 (y ▸ he)
   rw [this]
  ·rw [List.filter_cons,if_pos (decide_eq_true z)]
   have ha':a ∈ l:=by
    rcases List.mem_cons.mp ha with y | y
    ·exact absurd y.symm z
    ·exact y
   exact (List.Perm.swap x a _).trans ((ih nd.2 ha').cons x)
theorem near_perm {r:EndT} {l:List EndT} {a:EndT} (nd:(r :: l).Nodup) (ha:a ∈ l):(a :: r :: l.filter fun e=>decide (e ≠ a)).Perm (r :: l) :=
 (List.Perm.swap r a _).trans ((drop_perm (List.nodup_cons.mp nd).2 ha).cons r)
theorem end_val {j:Nat} (h:j < 100):valN (endN j)=j:=by
 unfold endN valN
 rw [app_cps,List.foldl_append]
 exact fig_val j h
theorem fig_digit:∀ k,k < 100→(figS k).cps.toList.getD 0 0 ≤ 57:=by decide +kernel
theorem end_name {kd:Str} {c:Int} {k j:Nat} (hj:j < 100) (hk:kd.cps.toList.getD 0 0 ≠ 101):nameBy kd c k ≠ endN j:=by
 intro z
 have z':=congrArg (fun s:Str=>s.cps.toList) z
 have he:(endN j).cps.toList=101 :: (figS j).cps.toList:=by unfold endN; rw [app_cps]; rfl
 simp only [he] at z'
 unfold nameBy at z'
 split at z'
 ·rw [app_cps] at z'
  exact hk (List.cons.inj z').1
 ·rw [app_cps,app_cps,app_cps] at z'
  have b0:=Int.emod_nonneg (c / 78) (show (26:Int) ≠ 0 by decide)
  have b1:=Int.emod_lt_of_pos (c / 78) (show (0:Int) < 26 by decide)
  have hb:=letAt_big b0 b1
  have z2:=(List.cons.inj z').2
  have hf:=fig_digit j hj
  rw [← z2] at hf
  have:letAt (c / 78 % 26) ≤ 57:=hf
  omega
theorem Net.closed {ps:List EndT} {js:List (EndT×EndT)} {rest nps:List EndT} {njs:List (EndT×EndT)} (h:Net ps js rest) (hc:Closes rest rest.length nps njs) (hl:rest.length ≤ 90) (hn:∀ j,j < 90→endN j ∉ ps.map Prod.snd):Net (ps ++ nps) (js ++ njs) []:=by
 obtain ⟨ks,hkl,hks,rfl,rfl⟩:=hc
 have hno:∀ n,n ≤ rest.length→Net (ps ++ (List.range n).map fun j=>(ks.getD j "gate",endN j)) (js ++ (List.range n).map fun j=>(rest.getD j ("", ""),(endN j,("a" : Str)))) (rest.drop n):=by
  intro n
  induction n with
  | zero=>intro _; simpa using h
  | succ n ih =>
   intro hn'
   have h0:=ih (by omega)
   have hlt:n < rest.length:=by omega
   have hkd:ks.getD n "gate" = "gate" ∨ ks.getD n "gate" = "stop" := hks _ (by
    rw [List.getD_eq_getElem?_getD,List.getElem?_eq_getElem (by omega)]
    exact List.getElem_mem _)
   have hnew:endN n ∉ (ps ++ (List.range n).map fun j=>(ks.getD j "gate",endN j)).map Prod.snd:=by
    rw [List.map_append,List.mem_append]
    rintro (z | z)
    ·exact hn n (by omega) z
    ·rw [List.map_map] at z
     obtain ⟨j,hj,e⟩:=List.mem_map.mp z
     have hj:=List.mem_range.mp hj
     have:=congrArg valN e
     rw [end_val (by omega)] at this
     have h2:valN (endN j)=n:=this
     rw [end_val (by omega)] at h2
     omega
   have h1:=h0.add hnew (k:=ks.getD n "gate") (by rcases hkd with z | z <;> rw [z] <;> simp [kinds])
   rw [ends_gs hkd] at h1
   have hd:rest.drop n=rest.getD n ("", "") :: rest.drop (n + 1):=by
    rw [List.drop_eq_getElem_cons hlt,List.getD_eq_getElem?_getD,List.getElem?_eq_getElem hlt]
    rfl
   have hin:(rest.getD n ("", "")).1 ≠ endN n:=by
    have:rest.getD n ("", "") ∈ rest.drop n:=by rw [hd]; simp
    have h3:=end_part (h0.perm.subset (List.mem_append_right _ this))
    exact fun z=>hnew (z ▸ h3)
   have h2:=h1.join (a:=rest.getD n ("", "")) (b:=(endN n, "a")) (o':=rest.drop (n + 1)) (by
    rw [hd]
    show List.Perm _ (rest.getD n ("", "") :: (rest.drop (n + 1) ++ [(endN n,("a" : Str))]))
    exact (List.perm_append_singleton _ _).symm.cons _) hin
   rw [List.range_succ,List.map_append,List.map_append,← List.append_assoc,← List.append_assoc]
   exact h2
 have:=hno rest.length (Nat.le_refl _)
 rwa [List.drop_length] at this
end YM
end
section
namespace YM
open PySem L2 NM
theorem kind_ok:∀ k ∈ kinds,57 < k.cps.toList.getD 0 0∧k.cps.toList.getD 0 0 ≠ 101∧0 < k.length∧k.length ≤ 6∧(endsK k).length ≤ 4∧0 < (endsK k).length:=by decide +kernel
def nmD (s:Str) (n:Nat):Prop:=∃ kd ∈ kinds,∃ (c:Int) (k:Nat),k < n∧s=nameBy kd c k
structure DrawnOk (i m:Nat) (ps:List EndT) (js:List (EndT×EndT)) (rest:List EndT):Prop where
 net:Net ps js rest
 sum:ps.length + rest.length ≤ 39
 jl:js.length ≤ m
 nm:∀ p ∈ ps,nmD p.2 i
theorem DrawnOk.start:DrawnOk 0 0 [] [] []:=⟨⟨List.Perm.refl _,List.nodup_nil,by simp,by simp⟩,by simp,by simp,by simp⟩
theorem DrawnOk.mono {i m i' m':Nat} {ps:List EndT} {js:List (EndT×EndT)} {rest:List EndT} (h:DrawnOk i m ps js rest) (hi:i ≤ i') (hm:m ≤ m'):DrawnOk i' m' ps js rest :=
 ⟨h.net,h.sum,Nat.le_trans h.jl hm,fun p hp=>let ⟨kd,h1,c,k,h2,h3⟩:=h.nm p hp; ⟨kd,h1,c,k,by omega,h3⟩⟩
theorem DrawnOk.new {i m:Nat} {ps:List EndT} {js:List (EndT×EndT)} {rest:List EndT} {kd:Str} {c:Int} (h:DrawnOk i m ps js rest) (hi:i < 100) (hk:kd ∈ kinds):nameBy kd c i ∉ ps.map Prod.snd:=fun z=>by
 obtain ⟨p,hp,e⟩:=List.mem_map.mp z
 obtain ⟨kd',h1,c',k,h2,h3⟩:=h.nm p hp
 have:=congrArg valN (e.symm.trans h3)
 rw [val_name (kind_ok _ hk).1 hi,val_name (kind_ok _ h1).1 (by omega)] at this
 omega
theorem DrawnOk.add {i m:Nat} {ps:List EndT} {js:List (EndT×EndT)} {rest:List EndT} {kd:Str} {c:Int} (h:DrawnOk i m ps js rest) (hi:i < 100) (hk:kd ∈ kinds) (hs:ps.length + rest.length + (endsK kd).length ≤ 38):DrawnOk (i + 1) m (ps ++ [(kd,nameBy kd c i)]) js (rest ++ (endsK kd).map fun e=>(nameBy kd c i,e)):=by
 refine ⟨h.net.add (h.new hi hk) hk,?_,h.jl,?_⟩
 ·rw [List.length_append,List.length_append,List.length_map]; show _ + 1 + _ ≤ 39; omega
 ·intro p hp
  rcases List.mem_append.mp hp with z | z
  ·exact (h.mono (Nat.le_succ i) (Nat.le_refl m)).nm p z
  ·simp at z
   rw [z]
   exact ⟨kd,hk,c,i,by omega,rfl⟩
theorem DrawnOk.join {i m:Nat} {ps:List EndT} {js:List (EndT×EndT)} {o o':List EndT} {a b:EndT} (h:DrawnOk i m ps js o) (hp:(a :: b :: o').Perm o) (ne:a.1 ≠ b.1):DrawnOk i (m + 1) ps (js ++ [(a,b)]) o':=by
 refine ⟨h.net.join hp ne,?_,?_,h.nm⟩
 ·have:=h.sum
  have hl:=hp.length_eq
  simp at hl
  omega
 ·rw [List.length_append]; exact Nat.succ_le_succ h.jl
theorem DrawnOk.done {i m:Nat} {ps:List EndT} {js:List (EndT×EndT)} {rest nps:List EndT} {njs:List (EndT×EndT)} (h:DrawnOk i m ps js rest) (hi:i ≤ 100) (hc:Closes rest rest.length nps njs):Net (ps ++ nps) (js ++ njs) []:=by
 have hs:=h.sum
 refine h.net.closed hc (by omega) fun j hj z=>?_
 obtain ⟨p,hp,e⟩:=List.mem_map.mp z
 obtain ⟨kd',h1,c',k,h2,h3⟩:=h.nm p hp
 exact end_name (by omega) (kind_ok _ h1).2.1 (h3.symm.trans e)
theorem paired_erase {α β:Type} {R:α→β→Prop}:∀ {l:List α} {m:List β},Paired R l m→∀ i,Paired R (l.eraseIdx i) (m.eraseIdx i)
 | _,_,.nil,_=>.nil
 | _,_,.cons r t,0=>t
 | _,_,.cons r t,i + 1=>.cons r (paired_erase t i)
theorem map_erase {α β:Type} (f:α→β):∀ (l:List α) (i:Nat),(l.map f).eraseIdx i=(l.eraseIdx i).map f
 | [],_=>rfl
 | _ :: _,0=>rfl
 | x :: l,i + 1=>by rw [List.map_cons,List.eraseIdx_cons_succ,List.eraseIdx_cons_succ,List.map_cons,map_erase f l i]
def rowN (k:Nat):Str := "p" ++ figS k
def longP (n:Nat):List EndT:=[(("gate" : Str),("g" : Str))] ++ ((List.range n).map fun k=>(("plain" : Str),rowN k)) ++ [(("gate" : Str),("h" : Str))]
def longJ (n:Nat):List (EndT×EndT):=[((("g" : Str),("a" : Str)),(rowN 0,("a" : Str))),((("h" : Str),("a" : Str)),(rowN (n - 1),("b" : Str)))] ++ (List.range (n - 1)).map fun k=>((rowN k,("b" : Str)),(rowN (k + 1),("a" : Str)))
theorem long_perm:∀ n ∈ [9,10,11,12,13,14],(flatJ (longJ n) ++ []).Perm (endsOf (longP n)):=by decide +kernel
theorem long_nd:∀ n ∈ [9,10,11,12,13,14],((longP n).map Prod.snd).Nodup:=by decide +kernel
theorem long_apart:∀ n ∈ [9,10,11,12,13,14],∀ j ∈ longJ n,j.1.1 ≠ j.2.1:=by decide +kernel
theorem long_kind:∀ n ∈ [9,10,11,12,13,14],∀ p ∈ longP n,p.1 ∈ kinds:=by decide +kernel
theorem long_net {n:Nat} (h:n ∈ [9,10,11,12,13,14]):Net (longP n) (longJ n) []:=⟨long_perm n h,long_nd n h,long_apart n h,long_kind n h⟩
end YM
end
section
namespace K13
open PySem L2 NM
def top (i:Nat):Stmt:=PySem.Challenge.pw_yardkeep_k13_tracks_told.main.body.getD i (.Pass ⟨0,0,0,0⟩)
abbrev s_is_name:Stmt:=top 10
theorem sc_is_name:FnScope ["thing"] ["thing"] (defScope s_is_name):=⟨rfl,rfl,rfl,by decide +kernel,rfl,by decide +kernel,by decide +kernel⟩
abbrev s_Part___init__:Stmt:=inClass (top 11) 0
theorem sc_Part___init__:FnScope ["self", "name"] ["self", "name"] (defScope s_Part___init__):=⟨rfl,rfl,rfl,by decide +kernel,rfl,by decide +kernel,by decide +kernel⟩
abbrev s_Part_ends:Stmt:=inClass (top 11) 1
theorem sc_Part_ends:FnScope ["self"] ["self"] (defScope s_Part_ends):=⟨rfl,rfl,rfl,by decide +kernel,rfl,by decide +kernel,by decide +kernel⟩
abbrev s_Part_lies:Stmt:=inClass (top 11) 2
theorem sc_Part_lies:FnScope ["self"] ["self"] (defScope s_Part_lies):=⟨rfl,rfl,rfl,by decide +kernel,rfl,by decide +kernel,by decide +kernel⟩
abbrev s_Part_bears:Stmt:=inClass (top 11) 5
theorem sc_Part_bears:FnScope ["self"] ["self"] (defScope s_Part_bears):=⟨rfl,rfl,rfl,by decide +kernel,rfl,by decide +kernel,by decide +kernel⟩
abbrev s_Stop_ends:Stmt:=inClass (top 13) 0
theorem sc_Stop_ends:FnScope ["self"] ["self"] (defScope s_Stop_ends):=⟨rfl,rfl,rfl,by decide +kernel,rfl,by decide +kernel,by decide +kernel⟩
abbrev s_Points_ends:Stmt:=inClass (top 15) 0
theorem sc_Points_ends:FnScope ["self"] ["self"] (defScope s_Points_ends):=⟨rfl,rfl,rfl,by decide +kernel,rfl,by decide +kernel,by decide +kernel⟩
abbrev s_Points_lies:Stmt:=inClass (top 15) 1
theorem sc_Points_lies:FnScope ["self"] ["self"] (defScope s_Points_lies):=⟨rfl,rfl,rfl,by decide +kernel,rfl,by decide +kernel,by decide +kernel⟩
abbrev s_Points_bears:Stmt:=inClass (top 15) 3
theorem sc_Points_bears:FnScope ["self"] ["self"] (defScope s_Points_bears):=⟨rfl,rfl,rfl,by decide +kernel,rfl,by decide +kernel,by decide +kernel⟩
abbrev s_Cross_ends:Stmt:=inClass (top 16) 0
theorem sc_Cross_ends:FnScope ["self"] ["self"] (defScope s_Cross_ends):=⟨rfl,rfl,rfl,by decide +kernel,rfl,by decide +kernel,by decide +kernel⟩
abbrev s_Cross_bears:Stmt:=inClass (top 16) 2
theorem sc_Cross_bears:FnScope ["self"] ["self"] (defScope s_Cross_bears):=⟨rfl,rfl,rfl,by decide +kernel,rfl,by decide +kernel,by decide +kernel⟩
abbrev s_is_pair:Stmt:=top 20
theorem sc_is_pair:FnScope ["thing"] ["thing"] (defScope s_is_pair):=⟨rfl,rfl,rfl,by decide +kernel,rfl,by decide +kernel,by decide +kernel⟩
abbrev s_is_known:Stmt:=top 21
theorem sc_is_known:FnScope ["end", "ends"] ["end", "ends"] (defScope s_is_known):=⟨rfl,rfl,rfl,by decide +kernel,rfl,by decide +kernel,by decide +kernel⟩
abbrev s_refuse_name:Stmt:=top 22
theorem sc_refuse_name:FnScope ["name", "known"] ["name", "known"] (defScope s_refuse_name):=⟨rfl,rfl,rfl,by decide +kernel,rfl,by decide +kernel,by decide +kernel⟩
abbrev s_parts_by_name:Stmt:=top 23
theorem sc_parts_by_name:FnScope ["parts", "part_of", "part"] ["parts"] (defScope s_parts_by_name):=⟨rfl,rfl,rfl,by decide +kernel,rfl,by decide +kernel,by decide +kernel⟩
abbrev s_ends_to_parts:Stmt:=top 24
theorem sc_ends_to_parts:FnScope ["part_of", "part_at", "name", "part", "end"] ["part_of"] (defScope s_ends_to_parts):=⟨rfl,rfl,rfl,by decide +kernel,rfl,by decide +kernel,by decide +kernel⟩
abbrev s_refuse_join:Stmt:=top 25
theorem sc_refuse_join:FnScope ["join", "part_at", "joined", "end"] ["join", "part_at", "joined"] (defScope s_refuse_join):=⟨rfl,rfl,rfl,by decide +kernel,rfl,by decide +kernel,by decide +kernel⟩
abbrev s_joined_ends:Stmt:=top 26
theorem sc_joined_ends:FnScope ["joins", "part_at", "joined", "join"] ["joins", "part_at"] (defScope s_joined_ends):=⟨rfl,rfl,rfl,by decide +kernel,rfl,by decide +kernel,by decide +kernel⟩
abbrev s_refuse_post:Stmt:=top 27
theorem sc_refuse_post:FnScope ["end", "part_at", "ends_with_signals"] ["end", "part_at", "ends_with_signals"] (defScope s_refuse_post):=⟨rfl,rfl,rfl,by decide +kernel,rfl,by decide +kernel,by decide +kernel⟩
abbrev s_posts_of:Stmt:=top 28
theorem sc_posts_of:FnScope ["signals", "part_at", "post_of", "signal", "name", "end"] ["signals", "part_at"] (defScope s_posts_of):=⟨rfl,rfl,rfl,by decide +kernel,rfl,by decide +kernel,by decide +kernel⟩
abbrev s_Tracks___init__:Stmt:=inClass (top 29) 0
theorem sc_Tracks___init__:FnScope ["self", "parts", "joins", "signals", "asked_signals", "part_at"] ["self", "parts", "joins", "signals"] (defScope s_Tracks___init__):=⟨rfl,rfl,rfl,by decide +kernel,rfl,by decide +kernel,by decide +kernel⟩
abbrev s_Tracks_names:Stmt:=inClass (top 29) 1
theorem sc_Tracks_names:FnScope ["self"] ["self"] (defScope s_Tracks_names):=⟨rfl,rfl,rfl,by decide +kernel,rfl,by decide +kernel,by decide +kernel⟩
abbrev s_Tracks_named:Stmt:=inClass (top 29) 2
theorem sc_Tracks_named:FnScope ["self", "name"] ["self", "name"] (defScope s_Tracks_named):=⟨rfl,rfl,rfl,by decide +kernel,rfl,by decide +kernel,by decide +kernel⟩
abbrev s_Tracks_beyond:Stmt:=inClass (top 29) 3
theorem sc_Tracks_beyond:FnScope ["self", "end"] ["self", "end"] (defScope s_Tracks_beyond):=⟨rfl,rfl,rfl,by decide +kernel,rfl,by decide +kernel,by decide +kernel⟩
abbrev s_Tracks_signal_at:Stmt:=inClass (top 29) 4
theorem sc_Tracks_signal_at:FnScope ["self", "end"] ["self", "end"] (defScope s_Tracks_signal_at):=⟨rfl,rfl,rfl,by decide +kernel,rfl,by decide +kernel,by decide +kernel⟩
abbrev s_Tracks_signals:Stmt:=inClass (top 29) 5
theorem sc_Tracks_signals:FnScope ["self"] ["self"] (defScope s_Tracks_signals):=⟨rfl,rfl,rfl,by decide +kernel,rfl,by decide +kernel,by decide +kernel⟩
abbrev s_Tracks_end_of:Stmt:=inClass (top 29) 6
theorem sc_Tracks_end_of:FnScope ["self", "signal"] ["self", "signal"] (defScope s_Tracks_end_of):=⟨rfl,rfl,rfl,by decide +kernel,rfl,by decide +kernel,by decide +kernel⟩
abbrev s__law_mixed:Stmt:=top 31
theorem sc__law_mixed:FnScope ["_law_cell", "_law_k", "_law_left"] ["_law_cell", "_law_k"] (defScope s__law_mixed):=⟨rfl,rfl,rfl,by decide +kernel,rfl,by decide +kernel,by decide +kernel⟩
abbrev s__law_cell_at:Stmt:=top 32
theorem sc__law_cell_at:FnScope ["_law_script", "_law_k"] ["_law_script", "_law_k"] (defScope s__law_cell_at):=⟨rfl,rfl,rfl,by decide +kernel,rfl,by decide +kernel,by decide +kernel⟩
abbrev s__law_cells:Stmt:=top 33
theorem sc__law_cells:FnScope ["_law_script", "_law_at", "_law_end"] ["_law_script", "_law_at", "_law_end"] (defScope s__law_cells):=⟨rfl,rfl,rfl,by decide +kernel,rfl,by decide +kernel,by decide +kernel⟩
abbrev s__law_ends:Stmt:=top 34
theorem sc__law_ends:FnScope ["_law_kind"] ["_law_kind"] (defScope s__law_ends):=⟨rfl,rfl,rfl,by decide +kernel,rfl,by decide +kernel,by decide +kernel⟩
abbrev s__law_name_by:Stmt:=top 35
theorem sc__law_name_by:FnScope ["_law_kind", "_law_cell", "_law_k", "_law_letters", "_law_first"] ["_law_kind", "_law_cell", "_law_k"] (defScope s__law_name_by):=⟨rfl,rfl,rfl,by decide +kernel,rfl,by decide +kernel,by decide +kernel⟩
abbrev s__law_block:Stmt:=top 36
theorem sc__law_block:FnScope ["_law_cell", "_law_names", "_law_one", "_law_two", "_law_three", "_law_four", "_law_way", "_law_ends_here", "_law_far", "_law_joins", "_law_parts", "_law_turn", "_law_aside", "_law_rest"] ["_law_cell", "_law_names"] (defScope s__law_block):=⟨rfl,rfl,rfl,by decide +kernel,rfl,by decide +kernel,by decide +kernel⟩
abbrev s__law_line:Stmt:=top 37
theorem sc__law_line:FnScope ["_law_cells_here", "_law_parts", "_law_joins", "_law_end", "_law_k", "_law_cell", "_law_names", "_law_block_here"] ["_law_cells_here"] (defScope s__law_line):=⟨rfl,rfl,rfl,by decide +kernel,rfl,by decide +kernel,by decide +kernel⟩
abbrev s__law_closed:Stmt:=top 38
theorem sc__law_closed:FnScope ["_law_parts", "_law_joins", "_law_rest", "_law_cell", "_law_j", "_law_end", "_law_name"] ["_law_parts", "_law_joins", "_law_rest", "_law_cell"] (defScope s__law_closed):=⟨rfl,rfl,rfl,by decide +kernel,rfl,by decide +kernel,by decide +kernel⟩
abbrev s__law_drawn:Stmt:=top 39
theorem sc__law_drawn:FnScope ["_law_cells_here", "_law_parts", "_law_joins", "_law_rest", "_law_k", "_law_cell", "_law_kind", "_law_ends_here", "_law_name", "_law_fresh", "_law_near", "_law_other"] ["_law_cells_here"] (defScope s__law_drawn):=⟨rfl,rfl,rfl,by decide +kernel,rfl,by decide +kernel,by decide +kernel⟩
abbrev s__law_signals_by:Stmt:=top 40
theorem sc__law_signals_by:FnScope ["_law_parts", "_law_cell", "_law_letters", "_law_ends_here", "_law_kind", "_law_name", "_law_end", "_law_found", "_law_k", "_law_draw"] ["_law_parts", "_law_cell"] (defScope s__law_signals_by):=⟨rfl,rfl,rfl,by decide +kernel,rfl,by decide +kernel,by decide +kernel⟩
abbrev s__law_long:Stmt:=top 41
theorem sc__law_long:FnScope ["_law_cell", "_law_k", "_law_names", "_law_parts", "_law_joins", "_law_signals"] ["_law_cell"] (defScope s__law_long):=⟨rfl,rfl,rfl,by decide +kernel,rfl,by decide +kernel,by decide +kernel⟩
abbrev s__law_yard_by:Stmt:=top 42
theorem sc__law_yard_by:FnScope ["_law_cells_here", "_law_cell", "_law_found", "_law_parts", "_law_joins", "_law_at"] ["_law_cells_here", "_law_cell"] (defScope s__law_yard_by):=⟨rfl,rfl,rfl,by decide +kernel,rfl,by decide +kernel,by decide +kernel⟩
abbrev s__law_part:Stmt:=top 43
theorem sc__law_part:FnScope ["_law_kind", "_law_name"] ["_law_kind", "_law_name"] (defScope s__law_part):=⟨rfl,rfl,rfl,by decide +kernel,rfl,by decide +kernel,by decide +kernel⟩
abbrev s__law_refused:Stmt:=top 45
theorem sc__law_refused:FnScope ["_law_tracks_here", "_law_odd", "_law_whole"] ["_law_tracks_here", "_law_odd", "_law_whole"] (defScope s__law_refused):=⟨rfl,rfl,rfl,by decide +kernel,rfl,by decide +kernel,by decide +kernel⟩
abbrev s__law_ends_told:Stmt:=top 46
theorem sc__law_ends_told:FnScope ["_law_tracks_here", "_law_yard", "_law_joins", "_law_one", "_law_other", "_law_stands", "_law_kind", "_law_name", "_law_part_here", "_law_end", "_law_due"] ["_law_tracks_here", "_law_yard"] (defScope s__law_ends_told):=⟨rfl,rfl,rfl,by decide +kernel,rfl,by decide +kernel,by decide +kernel⟩
abbrev s__law_kept_apart:Stmt:=top 47
theorem sc__law_kept_apart:FnScope ["_law_tracks_here", "_law_parts", "_law_signals", "_law_name"] ["_law_tracks_here", "_law_parts", "_law_signals"] (defScope s__law_kept_apart):=⟨rfl,rfl,rfl,by decide +kernel,rfl,by decide +kernel,by decide +kernel⟩
abbrev s__law_all_refused:Stmt:=top 48
theorem sc__law_all_refused:FnScope ["_law_tracks_here", "_law_things", "_law_thing"] ["_law_tracks_here", "_law_things"] (defScope s__law_all_refused):=⟨rfl,rfl,rfl,by decide +kernel,rfl,by decide +kernel,by decide +kernel⟩
abbrev s_law:Stmt:=top 49
theorem sc_law:FnScope ["_law_script", "_law_yard", "_law_name", "_law_parts", "_law_joins", "_law_signals", "_law_tracks_here", "_law_held", "_law_due", "_law_place", "_law_end", "_law_odd", "_law_strange"] ["_law_script"] (defScope s_law):=⟨rfl,rfl,rfl,by decide +kernel,rfl,by decide +kernel,by decide +kernel⟩
structure Tx (K:PySem.W.Frag) (mg:Str→Option Value) where
 d_is_name:Dn K "is_name" "is_name" s_is_name ["thing"]
 m_is_name:mg "is_name" = some (.ref d_is_name.f)
 d_Part___init__:Dn K "__init__" "Part.__init__" s_Part___init__ ["self", "name"]
 d_Part_ends:Dn K "ends" "Part.ends" s_Part_ends ["self"]
 d_Part_lies:Dn K "lies" "Part.lies" s_Part_lies ["self"]
 d_Part_bears:Dn K "bears" "Part.bears" s_Part_bears ["self"]
 d_Stop_ends:Dn K "ends" "Stop.ends" s_Stop_ends ["self"]
 d_Points_ends:Dn K "ends" "Points.ends" s_Points_ends ["self"]
 d_Points_lies:Dn K "lies" "Points.lies" s_Points_lies ["self"]
 d_Points_bears:Dn K "bears" "Points.bears" s_Points_bears ["self"]
 d_Cross_ends:Dn K "ends" "Cross.ends" s_Cross_ends ["self"]
 d_Cross_bears:Dn K "bears" "Cross.bears" s_Cross_bears ["self"]
 d_is_pair:Dn K "is_pair" "is_pair" s_is_pair ["thing"]
 m_is_pair:mg "is_pair" = some (.ref d_is_pair.f)
 d_is_known:Dn K "is_known" "is_known" s_is_known ["end", "ends"]
 m_is_known:mg "is_known" = some (.ref d_is_known.f)
 d_refuse_name:Dn K "refuse_name" "refuse_name" s_refuse_name ["name", "known"]
 m_refuse_name:mg "refuse_name" = some (.ref d_refuse_name.f)
 d_parts_by_name:Dn K "parts_by_name" "parts_by_name" s_parts_by_name ["parts"]
 m_parts_by_name:mg "parts_by_name" = some (.ref d_parts_by_name.f)
 d_ends_to_parts:Dn K "ends_to_parts" "ends_to_parts" s_ends_to_parts ["part_of"]
 m_ends_to_parts:mg "ends_to_parts" = some (.ref d_ends_to_parts.f)
 d_refuse_join:Dn K "refuse_join" "refuse_join" s_refuse_join ["join", "part_at", "joined"]
 m_refuse_join:mg "refuse_join" = some (.ref d_refuse_join.f)
 d_joined_ends:Dn K "joined_ends" "joined_ends" s_joined_ends ["joins", "part_at"]
 m_joined_ends:mg "joined_ends" = some (.ref d_joined_ends.f)
 d_refuse_post:Dn K "refuse_post" "refuse_post" s_refuse_post ["end", "part_at", "ends_with_signals"]
 m_refuse_post:mg "refuse_post" = some (.ref d_refuse_post.f)
 d_posts_of:Dn K "posts_of" "posts_of" s_posts_of ["signals", "part_at"]
 m_posts_of:mg "posts_of" = some (.ref d_posts_of.f)
 d_Tracks___init__:DnD K "__init__" "Tracks.__init__" s_Tracks___init__ ["self", "parts", "joins", "signals"] .non
 d_Tracks_names:Dn K "names" "Tracks.names" s_Tracks_names ["self"]
 d_Tracks_named:Dn K "named" "Tracks.named" s_Tracks_named ["self", "name"]
 d_Tracks_beyond:Dn K "beyond" "Tracks.beyond" s_Tracks_beyond ["self", "end"]
 d_Tracks_signal_at:Dn K "signal_at" "Tracks.signal_at" s_Tracks_signal_at ["self", "end"]
 d_Tracks_signals:Dn K "signals" "Tracks.signals" s_Tracks_signals ["self"]
 d_Tracks_end_of:Dn K "end_of" "Tracks.end_of" s_Tracks_end_of ["self", "signal"]
 d__law_mixed:Dn K "_law_mixed" "_law_mixed" s__law_mixed ["_law_cell", "_law_k"]
 m__law_mixed:mg "_law_mixed" = some (.ref d__law_mixed.f)
 d__law_cell_at:Dn K "_law_cell_at" "_law_cell_at" s__law_cell_at ["_law_script", "_law_k"]
 m__law_cell_at:mg "_law_cell_at" = some (.ref d__law_cell_at.f)
 d__law_cells:Dn K "_law_cells" "_law_cells" s__law_cells ["_law_script", "_law_at", "_law_end"]
 m__law_cells:mg "_law_cells" = some (.ref d__law_cells.f)
 d__law_ends:Dn K "_law_ends" "_law_ends" s__law_ends ["_law_kind"]
 m__law_ends:mg "_law_ends" = some (.ref d__law_ends.f)
 d__law_name_by:Dn K "_law_name_by" "_law_name_by" s__law_name_by ["_law_kind", "_law_cell", "_law_k"]
 m__law_name_by:mg "_law_name_by" = some (.ref d__law_name_by.f)
 d__law_block:Dn K "_law_block" "_law_block" s__law_block ["_law_cell", "_law_names"]
 m__law_block:mg "_law_block" = some (.ref d__law_block.f)
 d__law_line:Dn K "_law_line" "_law_line" s__law_line ["_law_cells_here"]
 m__law_line:mg "_law_line" = some (.ref d__law_line.f)
 d__law_closed:Dn K "_law_closed" "_law_closed" s__law_closed ["_law_parts", "_law_joins", "_law_rest", "_law_cell"]
 m__law_closed:mg "_law_closed" = some (.ref d__law_closed.f)
 d__law_drawn:Dn K "_law_drawn" "_law_drawn" s__law_drawn ["_law_cells_here"]
 m__law_drawn:mg "_law_drawn" = some (.ref d__law_drawn.f)
 d__law_signals_by:Dn K "_law_signals_by" "_law_signals_by" s__law_signals_by ["_law_parts", "_law_cell"]
 m__law_signals_by:mg "_law_signals_by" = some (.ref d__law_signals_by.f)
 d__law_long:Dn K "_law_long" "_law_long" s__law_long ["_law_cell"]
 m__law_long:mg "_law_long" = some (.ref d__law_long.f)
 d__law_yard_by:Dn K "_law_yard_by" "_law_yard_by" s__law_yard_by ["_law_cells_here", "_law_cell"]
 m__law_yard_by:mg "_law_yard_by" = some (.ref d__law_yard_by.f)
 d__law_part:Dn K "_law_part" "_law_part" s__law_part ["_law_kind", "_law_name"]
 m__law_part:mg "_law_part" = some (.ref d__law_part.f)
 d__law_refused:Dn K "_law_refused" "_law_refused" s__law_refused ["_law_tracks_here", "_law_odd", "_law_whole"]
 m__law_refused:mg "_law_refused" = some (.ref d__law_refused.f)
 d__law_ends_told:Dn K "_law_ends_told" "_law_ends_told" s__law_ends_told ["_law_tracks_here", "_law_yard"]
 m__law_ends_told:mg "_law_ends_told" = some (.ref d__law_ends_told.f)
 d__law_kept_apart:Dn K "_law_kept_apart" "_law_kept_apart" s__law_kept_apart ["_law_tracks_here", "_law_parts", "_law_signals"]
 m__law_kept_apart:mg "_law_kept_apart" = some (.ref d__law_kept_apart.f)
 d__law_all_refused:Dn K "_law_all_refused" "_law_all_refused" s__law_all_refused ["_law_tracks_here", "_law_things"]
 m__law_all_refused:mg "_law_all_refused" = some (.ref d__law_all_refused.f)
 CPart:Addr
 mPart:mg "Part" = some (.ref CPart)
 clPart:Cls K CPart
 nPart_name:NoAttr K CPart "name"
 mkPart:Mk K CPart d_Part___init__.f
 mtPart_ends:Meth K CPart "ends" d_Part_ends.f
 mtPart_lies:Meth K CPart "lies" d_Part_lies.f
 mtPart_bears:Meth K CPart "bears" d_Part_bears.f
 CPlain:Addr
 mPlain:mg "Plain" = some (.ref CPlain)
 clPlain:Cls K CPlain
 nPlain_name:NoAttr K CPlain "name"
 mkPlain:Mk K CPlain d_Part___init__.f
 mtPlain_ends:Meth K CPlain "ends" d_Part_ends.f
 mtPlain_lies:Meth K CPlain "lies" d_Part_lies.f
 mtPlain_bears:Meth K CPlain "bears" d_Part_bears.f
 CStop:Addr
 mStop:mg "Stop" = some (.ref CStop)
 clStop:Cls K CStop
 nStop_name:NoAttr K CStop "name"
 mkStop:Mk K CStop d_Part___init__.f
 mtStop_ends:Meth K CStop "ends" d_Stop_ends.f
 mtStop_lies:Meth K CStop "lies" d_Part_lies.f
 mtStop_bears:Meth K CStop "bears" d_Part_bears.f
 CGate:Addr
 mGate:mg "Gate" = some (.ref CGate)
 clGate:Cls K CGate
 nGate_name:NoAttr K CGate "name"
 mkGate:Mk K CGate d_Part___init__.f
 mtGate_ends:Meth K CGate "ends" d_Stop_ends.f
 mtGate_lies:Meth K CGate "lies" d_Part_lies.f
 mtGate_bears:Meth K CGate "bears" d_Part_bears.f
 CPoints:Addr
 mPoints:mg "Points" = some (.ref CPoints)
 clPoints:Cls K CPoints
 nPoints_name:NoAttr K CPoints "name"
 mkPoints:Mk K CPoints d_Part___init__.f
 mtPoints_ends:Meth K CPoints "ends" d_Points_ends.f
 mtPoints_lies:Meth K CPoints "lies" d_Points_lies.f
 mtPoints_bears:Meth K CPoints "bears" d_Points_bears.f
 CCross:Addr
 mCross:mg "Cross" = some (.ref CCross)
 clCross:Cls K CCross
 nCross_name:NoAttr K CCross "name"
 mkCross:Mk K CCross d_Part___init__.f
 mtCross_ends:Meth K CCross "ends" d_Cross_ends.f
 mtCross_lies:Meth K CCross "lies" d_Part_lies.f
 mtCross_bears:Meth K CCross "bears" d_Cross_bears.f
 CTracks:Addr
 mTracks:mg "Tracks" = some (.ref CTracks)
 clTracks:Cls K CTracks
 nTracks_part_of:NoAttr K CTracks "part_of"
 nTracks_joined:NoAttr K CTracks "joined"
 nTracks_post_of:NoAttr K CTracks "post_of"
 nTracks_signal_on:NoAttr K CTracks "signal_on"
 mkTracks:Mk K CTracks d_Tracks___init__.f
 mtTracks_names:Meth K CTracks "names" d_Tracks_names.f
 mtTracks_named:Meth K CTracks "named" d_Tracks_named.f
 mtTracks_beyond:Meth K CTracks "beyond" d_Tracks_beyond.f
 mtTracks_signal_at:Meth K CTracks "signal_at" d_Tracks_signal_at.f
 mtTracks_signals:Meth K CTracks "signals" d_Tracks_signals.f
 mtTracks_end_of:Meth K CTracks "end_of" d_Tracks_end_of.f
 CYardError:Addr
 mYardError:mg "YardError" = some (.ref CYardError)
 CBadName:Addr
 mBadName:mg "BadName" = some (.ref CBadName)
 n_len:mg "len" = none
 n_range:mg "range" = none
 n_isinstance:mg "isinstance" = none
 n_list:mg "list" = none
 n_dict:mg "dict" = none
 n_tuple:mg "tuple" = none
 n_str:mg "str" = none
 n_enumerate:mg "enumerate" = none
 n_max:mg "max" = none
 n_min:mg "min" = none
 n_sum:mg "sum" = none
 n_sorted:mg "sorted" = none
 n_all:mg "all" = none
 kTT:PySem.W.kitOne K (.type "tuple") (.type "tuple")=some true
 kSS:PySem.W.kitOne K (.type "str") (.type "str")=some true
 gPart:PySem.W.kitOne K (.ref CPart) (.ref CGate)=some false
 gPlain:PySem.W.kitOne K (.ref CPlain) (.ref CGate)=some false
 gStop:PySem.W.kitOne K (.ref CStop) (.ref CGate)=some false
 gGate:PySem.W.kitOne K (.ref CGate) (.ref CGate)=some true
 gPoints:PySem.W.kitOne K (.ref CPoints) (.ref CGate)=some false
 gCross:PySem.W.kitOne K (.ref CCross) (.ref CGate)=some false
 pPart:PySem.W.kitOne K (.ref CPart) (.ref CPoints)=some false
 pPlain:PySem.W.kitOne K (.ref CPlain) (.ref CPoints)=some false
 pStop:PySem.W.kitOne K (.ref CStop) (.ref CPoints)=some false
 pGate:PySem.W.kitOne K (.ref CGate) (.ref CPoints)=some false
 pPoints:PySem.W.kitOne K (.ref CPoints) (.ref CPoints)=some true
 pCross:PySem.W.kitOne K (.ref CCross) (.ref CPoints)=some false
 kNS:PySem.W.kitOne K (.type "NoneType") (.type "str")=some false
 kIS:PySem.W.kitOne K (.type "int") (.type "str")=some false
 kLS:PySem.W.kitOne K (.type "list") (.type "str")=some false
 kTS:PySem.W.kitOne K (.type "tuple") (.type "str")=some false
 cBB:PySem.W.kitCls K (.ref CBadName) (.ref CBadName)=some true
 kBB:PySem.W.kitOne K (.ref CBadName) (.type "BaseException")=some true
 x_YardError:OwnIn K mg "YardError" CYardError [.type "ValueError",.type "Exception",.type "BaseException",.type "object"] "ValueError.__new__"
 x_BadName:OwnIn K mg "BadName" CBadName [.type "ValueError",.type "Exception",.type "BaseException",.type "object"] "ValueError.__new__"
 c_LETTERS:∃ tk,mg "LETTERS" = some (.str "abcdefghijklmnopqrstuvwxyz" tk)
 c_FIGURES:∃ tk,mg "FIGURES" = some (.str "0123456789" tk)
 c_LONGEST_NAME:∃ tk,mg "LONGEST_NAME" = some (.int 6 tk)
 c_MOST_PARTS:∃ tk,mg "MOST_PARTS" = some (.int 40 tk)
 c_MOST_SIGNALS:∃ tk,mg "MOST_SIGNALS" = some (.int 40 tk)
 tG:PySem.W.specialIn K (.builtin "object.__class__") "__get__" = some (some (.builtin "getset_descriptor.__get__"))
 tK:PySem.W.takesIn K (.builtin "object.__class__")=some true
 tcPart:PySem.W.findIn K (.ref CPart) "__class__" = some (some (.builtin "object.__class__"))
 tmPart:PySem.W.mroIn K CPart (.type "object")=some true
 tcPlain:PySem.W.findIn K (.ref CPlain) "__class__" = some (some (.builtin "object.__class__"))
 tmPlain:PySem.W.mroIn K CPlain (.type "object")=some true
 tcStop:PySem.W.findIn K (.ref CStop) "__class__" = some (some (.builtin "object.__class__"))
 tmStop:PySem.W.mroIn K CStop (.type "object")=some true
 tcGate:PySem.W.findIn K (.ref CGate) "__class__" = some (some (.builtin "object.__class__"))
 tmGate:PySem.W.mroIn K CGate (.type "object")=some true
 tcPoints:PySem.W.findIn K (.ref CPoints) "__class__" = some (some (.builtin "object.__class__"))
 tmPoints:PySem.W.mroIn K CPoints (.type "object")=some true
 tcCross:PySem.W.findIn K (.ref CCross) "__class__" = some (some (.builtin "object.__class__"))
 tmCross:PySem.W.mroIn K CCross (.type "object")=some true
section
variable {P:Program} {w:World} {K:PySem.W.Frag} {mg:Str→Option Value} {base:Heap}
seal PySem.wpAny
open YM
def spMixed:Sp:=fun vs H Q _=>∃ c k:Int,vs=[.int c,.int k]∧Q (.int (mixed c k)) H
def spCell (K:PySem.W.Frag):Sp:=fun vs H Q _=>∃ (a:Addr) (ns:List Int) (k:Nat),vs=[.ref a,.int k]∧SqL K H a (ns.map V.int)∧Q (.int (cellAt ns k)) H
theorem ok_mixed (T:Tx K mg):FnOk P w K mg base CX0 1 T.d__law_mixed.f T.d__law_mixed.fd ["_law_cell", "_law_k"] spMixed:=by
 refine T.d__law_mixed.F.okW sc__law_mixed (fun vs H Q E h=>?_) (fun cdv A outer s H vs Q E hr h=>?_)
 ·obtain ⟨c,k,rfl,_⟩:=h
  rfl
 ·obtain ⟨c,k,rfl,q⟩:=h
  refine WSs.step (ps_set (i:=2) sc__law_mixed.nd rfl (by first | exact Or.inl rfl | exact Or.inr rfl) (pe_op op_mod (pe_op op_mul (pe_op oAdd (pv 0) (pe_op op_mul pe_int (pv 1))) pe_int) pe_int)) ?_
  refine ⟨_,rfl,_,rfl,_,_,rfl,rfl,.inl ⟨by decide,by decide⟩,.inl ⟨_,_,rfl,rfl,_,_,rfl,rfl,.inr ⟨by decide,by decide⟩,_,_,rfl,rfl,(by show (0:Int) < 2147483647; decide),?_⟩⟩
  refine WSs.last (ps_ret (pe_op op_mod (pe_op op_mul (pv 2) (pe_op oAdd (pe_op oAdd (pv 2) (pe_op op_mul pe_int (pv 1))) pe_int)) pe_int)) ?_
  refine ⟨_,rfl,_,rfl,_,rfl,_,_,rfl,rfl,.inl ⟨by decide,by decide⟩,.inl ⟨_,_,rfl,rfl,.inl ⟨_,_,rfl,rfl,_,_,rfl,rfl,.inl ?_,_,_,rfl,rfl,(by show (0:Int) < 2147483629; decide),q⟩⟩⟩
  have h1:=Int.emod_nonneg ((c + 7919 * k) * 48271) (show (2147483647:Int) ≠ 0 by decide)
  have h2:=Int.emod_lt_of_pos ((c + 7919 * k) * 48271) (show (0:Int) < 2147483647 by decide)
  constructor <;> omega
theorem G__law_mixed (T:Tx K mg) {k:Nat} (h:1 ≤ k:=by decide):FnOk P w K mg base CX0 k T.d__law_mixed.f T.d__law_mixed.fd ["_law_cell", "_law_k"] spMixed:=(ok_mixed T).mono h
theorem ok_cell (T:Tx K mg):FnOk P w K mg base CX0 2 T.d__law_cell_at.f T.d__law_cell_at.fd ["_law_script", "_law_k"] (spCell K):=by
 refine T.d__law_cell_at.F.okW sc__law_cell_at (fun vs H Q E h=>?_) (fun cdv A outer s H vs Q E hr h=>?_)
 ·obtain ⟨a,ns,k,rfl,_⟩:=h
  rfl
 ·obtain ⟨a,ns,k,rfl,hS,q⟩:=h
  refine WSs.step (ps_if (pt_cmpR op_lt (pv 1) (pe_callB (r:=rLenX K) oLenX (by rfl) T.n_len PySem.boot_len (pa_c (pv 0) pa_nil)) (nomark _)) pss_w pss_nil) ?_
  refine ⟨_,rfl,_,rfl,.inl ⟨a,_,rfl,.inl hS,_,_,rfl,rfl,_,rfl,ite2 (fun hlt=>?_) (fun hlt=>?_)⟩⟩
  ·have hlt:=of_decide_eq_true hlt
   rw [List.length_map] at hlt
   have hk:k < ns.length:=by omega
   have e:ns[k]? = some ns[k]:=by simp [hk]
   refine WSs.last (ps_ret (pe_call (G__law_mixed T) hr rfl T.m__law_mixed T.d__law_mixed.F.kp T.d__law_mixed.b .nil pass0 (pa_c (pe_ix (r:=rIx K) ix_seq (pv 0) (pv 1) (fun _ _=>rfl)) (pa_c (pv 1) pa_nil)))) ⟨_,rfl,_,rfl,.inl ⟨a,_,_,V.int ns[k],rfl,rfl,hS,atI_nat (by rw [List.getElem?_map,e]; rfl),_,rfl,ns[k],k,rfl,?_⟩⟩
   unfold cellAt at q
   rw [e] at q
   exact q
  ·have hlt:¬ ((k:Int) < ((ns.map V.int).length:Int)):=fun z=>hlt (decide_eq_true z)
   rw [List.length_map] at hlt
   have e:ns[k]? = none:=List.getElem?_eq_none (by omega)
   unfold cellAt at q
   rw [e] at q
   exact WSs.last (ps_ret pe_int) q
theorem G__law_cell_at (T:Tx K mg) {k:Nat} (h:2 ≤ k:=by decide):FnOk P w K mg base CX0 k T.d__law_cell_at.f T.d__law_cell_at.fd ["_law_script", "_law_k"] (spCell K):=(ok_cell T).mono h
def spEnds:Sp:=fun vs H Q _=>∃ k:Str,vs=[.str k]∧∀ p H',Same H H'→H p=none→H' p=some (.lst ((endsK k).map V.str))→Q (.ref p) H'
theorem ok__law_ends (T:Tx K mg):FnOk P w K mg base CX0 1 T.d__law_ends.f T.d__law_ends.fd ["_law_kind"] spEnds:=by
 refine T.d__law_ends.F.okW sc__law_ends (fun vs H Q E h=>?_) (fun cdv A outer s H vs Q E hr h=>?_)
 ·obtain ⟨k,rfl,_⟩:=h
  rfl
 ·obtain ⟨k,rfl,q⟩:=h
  refine WSs.step (ps_if (pt_cmpR (r:=rEqX K) (oEqX hr) (pv 0) pe_str (nomark _)) pss_w pss_nil) ⟨_,rfl,.inl ⟨rfl,_,rfl,ite2 (fun hc=>?_) (fun hc=>?_)⟩⟩
  ·have hc:k = "points" := by simpa using hc
   subst hc
   exact WSs.last (ps_ret (pe_lstS (pa_c pe_str (pa_c pe_str (pa_c pe_str pa_nil))))) ⟨sz (by simp),fun p H1 s1 n1 e1=>q p H1 s1 n1 e1⟩
  have h1:¬ k = "points" := by simpa using hc
  refine WSs.step (ps_if (pt_cmpR (r:=rEqX K) (oEqX hr) (pv 0) pe_str (nomark _)) pss_w pss_nil) ⟨_,rfl,.inl ⟨rfl,_,rfl,ite2 (fun hc=>?_) (fun hc=>?_)⟩⟩
  ·have hc:k = "cross" := by simpa using hc
   subst hc
   exact WSs.last (ps_ret (pe_lstS (pa_c pe_str (pa_c pe_str (pa_c pe_str (pa_c pe_str pa_nil)))))) ⟨sz (by simp),fun p H1 s1 n1 e1=>q p H1 s1 n1 e1⟩
  have h2:¬ k = "cross" := by simpa using hc
  refine WSs.step (ps_if (pt_cmpR (r:=rEqX K) (oEqX hr) (pv 0) pe_str (nomark _)) pss_w pss_nil) ⟨_,rfl,.inl ⟨rfl,_,rfl,ite2 (fun hc=>?_) (fun hc=>?_)⟩⟩
  ·have hc:k = "plain" := by simpa using hc
   subst hc
   exact WSs.last (ps_ret (pe_lstS (pa_c pe_str (pa_c pe_str pa_nil)))) ⟨sz (by simp),fun p H1 s1 n1 e1=>q p H1 s1 n1 e1⟩
  have h3:¬ k = "plain" := by simpa using hc
  exact WSs.last (ps_ret (pe_lstS (pa_c pe_str pa_nil))) ⟨sz (by simp),fun p H1 s1 n1 e1=>q p H1 s1 n1 (by unfold endsK; rw [if_neg h1,if_neg h2,if_neg h3]; exact e1)⟩
theorem G__law_ends (T:Tx K mg) {k:Nat} (h:1 ≤ k:=by decide):FnOk P w K mg base CX0 k T.d__law_ends.f T.d__law_ends.fd ["_law_kind"] spEnds:=(ok__law_ends T).mono h
theorem nat_at {n:Nat} {i:Int} {l:List Nat} (hl:l.length=n) (h0:0 ≤ i) (h1:i < n):atI l i=some (l.getD i.toNat 0):=by
 have e:i=((i.toNat:Nat):Int):=by omega
 have hi:i.toNat < l.length:=by omega
 rw [e]
 refine atI_nat ?_
 rw [List.getD_eq_getElem?_getD,Int.toNat_natCast,List.getElem?_eq_getElem hi]
 rfl
def spNameBy:Sp:=fun vs H Q _=>∃ (kind:Str) (c:Int) (k:Nat),vs=[.str kind,.int c,.int k]∧0 < kind.length∧kind.length ≤ 100∧0 ≤ c∧k < 100∧Q (.str (nameBy kind c k)) H
theorem ok__law_name_by (T:Tx K mg):FnOk P w K mg base CX0 1 T.d__law_name_by.f T.d__law_name_by.fd ["_law_kind", "_law_cell", "_law_k"] spNameBy:=by
 refine T.d__law_name_by.F.okW sc__law_name_by (fun vs H Q E h=>?_) (fun cdv A outer s H vs Q E hr h=>?_)
 ·obtain ⟨kind,c,k,rfl,_⟩:=h
  rfl
 ·obtain ⟨kind,c,k,rfl,hk0,hkl,hc,hk,q⟩:=h
  refine WSs.step (ps_set (i:=3) sc__law_name_by.nd rfl (by first | exact Or.inl rfl | exact Or.inr rfl) pe_str) ?_
  have fl:=fig_len' k hk
  refine WSs.step (ps_if (pt_cmpR (r:=rEqX K) (oEqX hr) (pe_op op_mod (pv 1) pe_int) pe_int (nomark _)) pss_w pss_nil) ⟨_,rfl,_,_,rfl,rfl,(by show (0:Int) < 3; decide),.inl ⟨rfl,_,rfl,ite2 (fun hc3=>?_) (fun hc3=>?_)⟩⟩
  ·have hc3:c % 3=0:=by simpa using hc3
   unfold nameBy at q
   rw [if_pos hc3] at q
   refine WSs.last (ps_ret (pe_op oAdd (pe_ix (r:=rIx K) ix_seq (pv 0) pe_int (fun _ _=>rfl)) (pe_callTy call_str_int (by rfl) T.n_str PyProof.Rows.boot_str (pa_c (pv 2) pa_nil)))) ⟨_,rfl,.inr (.inr ⟨kind,0,kind.cps.toList.getD 0 0,rfl,rfl,sz (by omega),?_,_,rfl,(k:Int),rfl,fig_log hk,.inr (.inl ⟨_,_,rfl,rfl,sz ?_,q⟩)⟩)⟩
   ·have:(0:Int) < kind.cps.toList.length:=by rw [Array.length_toList]; exact Int.ofNat_lt.mpr hk0
    exact nat_at (n:=kind.cps.toList.length) rfl (by decide) this
   ·show 1 + (figS k).length ≤ 1000
    omega
  have hc3:¬ c % 3=0:=by simpa using hc3
  have a0:=Int.emod_nonneg (c / 3) (show (26:Int) ≠ 0 by decide)
  have a1:=Int.emod_lt_of_pos (c / 3) (show (0:Int) < 26 by decide)
  have b0:=Int.emod_nonneg (c / 78) (show (26:Int) ≠ 0 by decide)
  have b1:=Int.emod_lt_of_pos (c / 78) (show (0:Int) < 26 by decide)
  have z0:=Int.emod_nonneg (c / 2028) (show (3:Int) ≠ 0 by decide)
  have z1:=Int.emod_lt_of_pos (c / 2028) (show (0:Int) < 3 by decide)
  obtain ⟨zn,hzn⟩:∃ zn:Nat,c / 2028 % 3=(zn:Int):=⟨(c / 2028 % 3).toNat,by omega⟩
  unfold nameBy at q
  rw [if_neg hc3,hzn,Int.toNat_natCast] at q
  refine WSs.step (ps_set (i:=4) sc__law_name_by.nd rfl (by first | exact Or.inl rfl | exact Or.inr rfl) (pe_op oAdd (pe_ix (r:=rIx K) ix_seq (pv 3) (pe_op op_mod (pe_op op_fdiv (pv 1) pe_int) pe_int) (fun _ _=>rfl)) (pe_ix (r:=rIx K) ix_seq (pv 3) (pe_op op_mod (pe_op op_fdiv (pv 1) pe_int) pe_int) (fun _ _=>rfl)))) ⟨_,rfl,_,rfl,_,_,rfl,rfl,⟨by decide,by decide⟩,_,_,rfl,rfl,(by show (0:Int) < 26; decide),.inr (.inr ⟨_,_,letAt (c / 3 % 26),rfl,rfl,sz (by rw [let_len]; decide),(by rw [let_eq]; exact nat_at (n:=26) rfl a0 a1),?_⟩)⟩
  refine ⟨_,rfl,_,rfl,_,_,rfl,rfl,⟨by decide,by decide⟩,_,_,rfl,rfl,(by show (0:Int) < 26; decide),.inr (.inr ⟨_,_,letAt (c / 78 % 26),rfl,rfl,sz (by rw [let_len]; decide),(by rw [let_eq]; exact nat_at (n:=26) rfl b0 b1),.inr (.inl ⟨_,_,rfl,rfl,sz (by show 1 + 1 ≤ 1000; decide),?_⟩)⟩)⟩
  have rl:(repS "0" zn).length ≤ 2:=by
   have:zn < 3:=by omega
   have hd:∀ m,m < 3→(repS "0" m).length ≤ 2:=by decide +kernel
   exact hd zn this
  have ll:(⟨#[letAt (c / 3 % 26)]⟩ ++ ⟨#[letAt (c / 78 % 26)]⟩:Str).length=2:=by rw [PySem.Str.length_append]; rfl
  refine WSs.last (ps_ret (pe_op oAdd (pe_op oAdd (pv 4) (pe_op op_mulS pe_str (pe_op op_mod (pe_op op_fdiv (pv 1) pe_int) pe_int))) (pe_callTy call_str_int (by rfl) T.n_str PyProof.Rows.boot_str (pa_c (pv 2) pa_nil)))) ⟨_,rfl,_,rfl,_,_,rfl,rfl,⟨by decide,by decide⟩,_,_,rfl,rfl,(by show (0:Int) < 3; decide), "0",zn,rfl,by rw [← hzn],by show 1 * zn ≤ 1000; omega,by omega,.inr (.inl ⟨_,_,rfl,rfl,sz (by rw [ll]; omega),_,rfl,(k:Int),rfl,fig_log hk,.inr (.inl ⟨_,_,rfl,rfl,sz ?_,q⟩)⟩)⟩
  show _ + (figS k).length ≤ 1000
  rw [PySem.Str.length_append,ll]
  omega
theorem G__law_name_by (T:Tx K mg) {k:Nat} (h:1 ≤ k:=by decide):FnOk P w K mg base CX0 k T.d__law_name_by.f T.d__law_name_by.fd ["_law_kind", "_law_cell", "_law_k"] spNameBy:=(ok__law_name_by T).mono h
def PairAt (H:Hp) (t:Addr) (q:EndT):Prop:=H t=some (.tup [.str q.1,.str q.2])
def JoinAt (H:Hp) (t:Addr) (j:EndT×EndT):Prop:=∃ a b,H t=some (.tup [.ref a,.ref b])∧PairAt H a j.1∧PairAt H b j.2
def PartsAt (H:Hp) (l:Addr) (ps:List EndT):Prop:=∃ ts:List Addr,H l=some (.lst (ts.map V.ref))∧Paired (PairAt H) ts ps
def JoinsAt (H:Hp) (l:Addr) (js:List (EndT×EndT)):Prop:=∃ ts:List Addr,H l=some (.lst (ts.map V.ref))∧Paired (JoinAt H) ts js
theorem PairAt.mono {H H':Hp} {t:Addr} {q:EndT} (e:Same H H') (h:PairAt H t q):PairAt H' t q:=e.at h
theorem JoinAt.mono {H H':Hp} {t:Addr} {j:EndT×EndT} (e:Same H H') (h:JoinAt H t j):JoinAt H' t j:=let ⟨a,b,h1,h2,h3⟩:=h; ⟨a,b,e.at h1,h2.mono e,h3.mono e⟩
theorem PartsAt.mono {H H':Hp} {l:Addr} {ps:List EndT} (e:Same H H') (h:PartsAt H l ps):PartsAt H' l ps:=let ⟨ts,h1,h2⟩:=h; ⟨ts,e.at h1,Paired.mapP h2 fun _ _ r=>r.mono e⟩
theorem JoinsAt.mono {H H':Hp} {l:Addr} {js:List (EndT×EndT)} (e:Same H H') (h:JoinsAt H l js):JoinsAt H' l js:=let ⟨ts,h1,h2⟩:=h; ⟨ts,e.at h1,Paired.mapP h2 fun _ _ r=>r.mono e⟩
def spBlock:Sp:=fun vs H Q _=>∃ (c:Int) (nl:Addr) (n1 n2 n3 n4:Str),vs=[.int c,.ref nl]∧H nl=some (.lst [.str n1,.str n2,.str n3,.str n4]) ∧
 ∀ (t:Addr) (H':Hp) (pl jl ie oe:Addr) (ps:List EndT) (js:List (EndT×EndT)) (e1 e2:EndT),Same H H'→H' t=some (.tup [.ref pl,.ref jl,.ref ie,.ref oe])→PartsAt H' pl ps→JoinsAt H' jl js→PairAt H' ie e1→PairAt H' oe e2→Block n1 n2 n3 n4 ps js e1 e2→Q (.ref t) H'
theorem two_of {n:Int} {u v:V}:∃ w,atI [u,v] (n % 2)=some w∧((n % 2=0∧w=u)∨(n % 2=1∧w=v)):=by
 have h0:=Int.emod_nonneg n (show (2:Int) ≠ 0 by decide)
 have h1:=Int.emod_lt_of_pos n (show (0:Int) < 2 by decide)
 generalize n % 2=m at h0 h1
 have:m=0∨m=1:=by omega
 rcases this with rfl | rfl
 ·exact ⟨u,rfl,.inl ⟨rfl,rfl⟩⟩
 ·exact ⟨v,rfl,.inr ⟨rfl,rfl⟩⟩
theorem comp_ne {l D:Addr} {xs:List Str} {x:Str} {H1:Hp} {Q:VK} {σ:St} (hl:H1 l=some (.lst (xs.map V.str))) (hn:xs.length ≤ 100) (hD:H1 D=none) (q:∀ H',Same H1 H'→H' D=some (.lst ((xs.filter fun e=>decide (e ≠ x)).map V.str))→Q (.ref D) H') {fr:St→St} (hfr:fr σ=[none,some (.str x)]) {tf:TT} (htf:tf=tTest (tOp (rNeY K) (tVar 0) (tVar 1))) :
  CompW (Itl K l) fr (gName 0) tf (tVar 0) Q σ H1 D:=by
 refine comp_list (xs:=xs.map V.str) (fun i ys H'=>ys=((xs.take i).filter fun e=>decide (e ≠ x)).map V.str∧H' D=some (.lst ys)∧Same H1 H') ⟨rfl,upd_same,Same.new hD⟩ ?_ ?_ ?_
 ·rintro i ys H' _ ⟨_,_,sm⟩
  exact SqL.of (sm.at hl)
 ·rintro k v ys H' hk ⟨rfl,hD',sm⟩
  rw [List.getElem?_map] at hk
  obtain ⟨y,hy,rfl⟩:=Option.map_eq_some_iff.mp hk
  unfold CompT
  rw [hfr,htf]
  refine ⟨Keep.set rfl,_,rfl,_,rfl,.inl ⟨rfl,_,rfl,ite2 (fun hc=>?_) (fun hc=>?_)⟩⟩
  ·have hc:y ≠ x:=by simpa using hc
   refine ⟨_,rfl,hD',?_,?_,upd_same,fun b o e=>?_⟩
   ·rw [List.length_map]
    have:=List.length_filter_le (fun e:Str=>decide (e ≠ x)) (xs.take k)
    rw [List.length_take] at this
    exact small1000 (by omega)
   ·rw [List.take_add_one,hy,List.filter_append,List.map_append,show (some y).toList=[y] from rfl,List.filter_cons,if_pos (decide_eq_true hc)]
    rfl
   ·rw [upd_ne (ne_of_none e hD)]; exact sm.at e
  ·have hc:¬ y ≠ x:=by simpa using hc
   refine ⟨?_,hD',sm⟩
   rw [List.take_add_one,hy,List.filter_append,show (some y).toList=[y] from rfl,List.filter_cons,if_neg (by simpa using hc),List.filter_nil,List.append_nil]
 ·rintro ys H6 ⟨rfl,hD6,s6⟩
  rw [List.length_map,List.take_length] at hD6
  exact q H6 s6 hD6
theorem ok__law_block (T:Tx K mg):FnOk P w K mg base CX0 1 T.d__law_block.f T.d__law_block.fd ["_law_cell", "_law_names"] spBlock:=by
 refine T.d__law_block.F.okW sc__law_block (fun vs H Q E h=>?_) (fun cdv A outer s H vs Q E hr h=>?_)
 ·obtain ⟨c,nl,n1,n2,n3,n4,rfl,_⟩:=h
  rfl
 ·obtain ⟨c,nl,n1,n2,n3,n4,rfl,hnl,q⟩:=h
  refine WSs.step (ps_asg (pv 1) (pg_lst rfl (pgs_cons (pg_name (i:=2) sc__law_block.nd rfl (by first | exact Or.inl rfl | exact Or.inr rfl)) (pgs_cons (pg_name (i:=3) sc__law_block.nd rfl (by first | exact Or.inl rfl | exact Or.inr rfl)) (pgs_cons (pg_name (i:=4) sc__law_block.nd rfl (by first | exact Or.inl rfl | exact Or.inr rfl)) (pgs_cons (pg_name (i:=5) sc__law_block.nd rfl (by first | exact Or.inl rfl | exact Or.inr rfl)) pgs_nil)))))) ⟨_,rfl,nl,_,rfl,SqL.of hnl,rfl,_,_,rfl,_,_,rfl,_,_,rfl,_,_,rfl,rfl,?_⟩
  refine WSs.step (ps_set (i:=6) sc__law_block.nd rfl (by first | exact Or.inl rfl | exact Or.inr rfl) (pe_op op_mod (pv 0) pe_int)) ⟨_,rfl,_,_,rfl,rfl,(by show (0:Int) < 8; decide),?_⟩
  refine WSs.step (ps_if (pt_cmpR op_lt (pv 6) pe_int (nomark _)) pss_w pss_nil) ⟨_,rfl,_,_,rfl,rfl,_,rfl,ite2 (fun _=>?_) (fun _=>?_)⟩
  ·refine WSs.step (ps_set (i:=7) sc__law_block.nd rfl (by first | exact Or.inl rfl | exact Or.inr rfl) (pe_ix (r:=rIx K) ix_seq (pe_lstS (pa_c (pe_lstS (pa_c pe_str (pa_c pe_str pa_nil))) (pa_c (pe_lstS (pa_c pe_str (pa_c pe_str pa_nil))) pa_nil))) (pe_op op_mod (pe_op op_fdiv (pv 0) pe_int) pe_int) (fun _ _=>rfl))) ⟨sz (by simp),fun la H1 s1 _ e1=>⟨sz (by simp),fun lb H2 s2 _ e2=>⟨sz (by simp),fun ll H3 s3 _ e3=>⟨_,rfl,_,_,rfl,rfl,⟨by decide,by decide⟩,_,_,rfl,rfl,(by show (0:Int) < 2; decide),?_⟩⟩⟩⟩
   obtain ⟨l7,a,b,hat,h7,hab⟩:∃ l7 a b,atI [V.ref la,.ref lb] (c / 8 % 2)=some (.ref l7)∧H3 l7=some (.lst [.str a,.str b])∧(a,b) ∈ [(("a" : Str),("b" : Str)),("b", "a")]:=by
    obtain ⟨w,hw,h | h⟩:=two_of (n:=c / 8) (u:=V.ref la) (v:=V.ref lb)
    ·exact ⟨la, "a", "b",by rw [hw,h.2],s3.at (s2.at e1),by simp⟩
    ·exact ⟨lb, "b", "a",by rw [hw,h.2],s3.at e2,by simp⟩
   refine .inl ⟨ll,_,_,.ref l7,rfl,rfl,SqL.of e3,hat,?_⟩
   have s03:=s1.trans (s2.trans s3)
   refine WSs.last (ps_ret (pe_tupS (pa_c (pe_lstS (pa_c (pe_tupS (pa_c pe_str (pa_c (pv 2) pa_nil))) pa_nil)) (pa_c (pe_lstS pa_nil) (pa_c (pe_tupS (pa_c (pv 2) (pa_c (pe_ix (r:=rIx K) ix_seq (pv 7) pe_int (fun _ _=>rfl)) pa_nil))) (pa_c (pe_tupS (pa_c (pv 2) (pa_c (pe_ix (r:=rIx K) ix_seq (pv 7) pe_int (fun _ _=>rfl)) pa_nil))) pa_nil)))))) ⟨_,rfl,sz (by simp),fun t1 H4 s4 _ e4=>⟨sz (by simp),fun pl H5 s5 _ e5=>⟨sz (by simp),fun jl H6 s6 _ e6=>⟨_,rfl,_,rfl,.inl ⟨l7,_,_,.str a,rfl,rfl,SqL.of (s6.at (s5.at (s4.at h7))),rfl,sz (by simp),fun ie H7 s7 _ e7=>⟨_,rfl,_,rfl,.inl ⟨l7,_,_,.str b,rfl,rfl,SqL.of (s7.at (s6.at (s5.at (s4.at h7)))),rfl,sz (by simp),fun oe H8 s8 _ e8=>⟨sz (by simp),fun t H9 s9 _ e9=>?_⟩⟩⟩⟩⟩⟩⟩⟩
   exact q t H9 pl jl ie oe _ _ _ _ (s03.trans (s4.trans (s5.trans (s6.trans (s7.trans (s8.trans s9)))))) e9 ⟨[t1],s9.at (s8.at (s7.at (s6.at e5))),.cons (s9.at (s8.at (s7.at (s6.at (s5.at e4))))) .nil⟩ ⟨[],s9.at (s8.at (s7.at e6)),.nil⟩ (s9.at (s8.at e7)) (s9.at e8) (.plain a b hab)
  refine WSs.step (ps_if (pt_cmpR op_lt (pv 6) pe_int (nomark _)) pss_w pss_nil) ⟨_,rfl,_,_,rfl,rfl,_,rfl,ite2 (fun _=>?_) (fun _=>?_)⟩
  ·refine WSs.step (ps_set (i:=8) sc__law_block.nd rfl (by first | exact Or.inl rfl | exact Or.inr rfl) (pe_ix (r:=rIx K) ix_seq (pe_lstS (pa_c (pe_lstS (pa_c pe_str (pa_c pe_str pa_nil))) (pa_c (pe_lstS (pa_c pe_str (pa_c pe_str pa_nil))) pa_nil))) (pe_op op_mod (pe_op op_fdiv (pv 0) pe_int) pe_int) (fun _ _=>rfl))) ⟨sz (by simp),fun la H1 s1 _ e1=>⟨sz (by simp),fun lb H2 s2 _ e2=>⟨sz (by simp),fun ll H3 s3 _ e3=>⟨_,rfl,_,_,rfl,rfl,⟨by decide,by decide⟩,_,_,rfl,rfl,(by show (0:Int) < 2; decide),?_⟩⟩⟩⟩
   obtain ⟨l7,a,b,hat,h7,hab⟩:∃ l7 a b,atI [V.ref la,.ref lb] (c / 8 % 2)=some (.ref l7)∧H3 l7=some (.lst [.str a,.str b])∧(a,b) ∈ [(("left" : Str),("right" : Str)),("right", "left")]:=by
    obtain ⟨w,hw,h | h⟩:=two_of (n:=c / 8) (u:=V.ref la) (v:=V.ref lb)
    ·exact ⟨la, "left", "right",by rw [hw,h.2],s3.at (s2.at e1),by simp⟩
    ·exact ⟨lb, "right", "left",by rw [hw,h.2],s3.at e2,by simp⟩
   refine .inl ⟨ll,_,_,.ref l7,rfl,rfl,SqL.of e3,hat,?_⟩
   have s03:=s1.trans (s2.trans s3)
   refine WSs.step (ps_set (i:=9) sc__law_block.nd rfl (by first | exact Or.inl rfl | exact Or.inr rfl) (pe_lstS (pa_c (pe_tupS (pa_c (pe_tupS (pa_c (pv 2) (pa_c pe_str pa_nil))) (pa_c (pe_tupS (pa_c (pv 3) (pa_c pe_str pa_nil))) pa_nil))) (pa_c (pe_tupS (pa_c (pe_tupS (pa_c (pv 2) (pa_c pe_str pa_nil))) (pa_c (pe_tupS (pa_c (pv 4) (pa_c pe_str pa_nil))) pa_nil))) pa_nil)))) ⟨_,rfl,sz (by simp),fun a1 H4 s4 _ f1=>⟨_,rfl,sz (by simp),fun a2 H5 s5 _ f2=>⟨sz (by simp),fun j1 H6 s6 _ f3=>⟨_,rfl,sz (by simp),fun a3 H7 s7 _ f4=>⟨_,rfl,sz (by simp),fun a4 H8 s8 _ f5=>⟨sz (by simp),fun j2 H9 s9 _ f6=>⟨sz (by simp),fun jA H10 s10 _ f7=>?_⟩⟩⟩⟩⟩⟩⟩
   have J1:JoinAt H10 j1 ((n1, "left"),(n2, "a")):=⟨a1,a2,s10.at (s9.at (s8.at (s7.at f3))),s10.at (s9.at (s8.at (s7.at (s6.at (s5.at f1))))),s10.at (s9.at (s8.at (s7.at (s6.at f2))))⟩
   have J2:JoinAt H10 j2 ((n1, "right"),(n3, "a")):=⟨a3,a4,s10.at f6,s10.at (s9.at (s8.at f4)),s10.at (s9.at f5)⟩
   have s0A:=s03.trans (s4.trans (s5.trans (s6.trans (s7.trans (s8.trans (s9.trans s10))))))
   have h7:=(s4.trans (s5.trans (s6.trans (s7.trans (s8.trans (s9.trans s10)))))).at h7
   clear s1 s2 s3 s4 s5 s6 s7 s8 s9 s10 f1 f2 f3 f4 f5 f6 e1 e2 e3 s03
   refine WSs.step (ps_set (i:=9) sc__law_block.nd rfl (by first | exact Or.inl rfl | exact Or.inr rfl) (pe_op oAdd (pv 9) (pe_lstS (pa_c (pe_tupS (pa_c (pe_tupS (pa_c (pv 3) (pa_c pe_str pa_nil))) (pa_c (pe_tupS (pa_c (pv 5) (pa_c (pe_ix (r:=rIx K) ix_seq (pv 8) pe_int (fun _ _=>rfl)) pa_nil))) pa_nil))) (pa_c (pe_tupS (pa_c (pe_tupS (pa_c (pv 5) (pa_c (pe_ix (r:=rIx K) ix_seq (pv 8) pe_int (fun _ _=>rfl)) pa_nil))) (pa_c (pe_tupS (pa_c (pv 4) (pa_c pe_str pa_nil))) pa_nil))) pa_nil))))) ⟨_,rfl,_,rfl,sz (by simp),fun b1 H11 s11 _ f1=>⟨_,rfl,_,rfl,.inl ⟨l7,_,_,.str a,rfl,rfl,SqL.of (s11.at h7),rfl,sz (by simp),fun b2 H12 s12 _ f2=>⟨sz (by simp),fun j3 H13 s13 _ f3=>⟨_,rfl,_,rfl,.inl ⟨l7,_,_,.str b,rfl,rfl,SqL.of (s13.at (s12.at (s11.at h7))),rfl,sz (by simp),fun b3 H14 s14 _ f4=>⟨_,rfl,sz (by simp),fun b4 H15 s15 _ f5=>⟨sz (by simp),fun j4 H16 s16 _ f6=>⟨sz (by simp),fun jB H17 s17 _ f8=>.inr (.inr ⟨jA,jB,_,_,rfl,rfl,(s11.trans (s12.trans (s13.trans (s14.trans (s15.trans (s16.trans s17)))))).at f7,f8,sz (by simp),fun jl H18 s18 _ f9=>?_⟩)⟩⟩⟩⟩⟩⟩⟩⟩⟩
   have sAB:=s11.trans (s12.trans (s13.trans (s14.trans (s15.trans (s16.trans (s17.trans s18))))))
   have J3:JoinAt H18 j3 ((n2, "b"),(n4,a)):=⟨b1,b2,(s14.trans (s15.trans (s16.trans (s17.trans s18)))).at f3,(s12.trans (s13.trans (s14.trans (s15.trans (s16.trans (s17.trans s18)))))).at f1,(s13.trans (s14.trans (s15.trans (s16.trans (s17.trans s18))))).at f2⟩
   have J4:JoinAt H18 j4 ((n4,b),(n3, "b")):=⟨b3,b4,(s17.trans s18).at f6,(s15.trans (s16.trans (s17.trans s18))).at f4,(s16.trans (s17.trans s18)).at f5⟩
   have hjl:JoinsAt H18 jl [((n1, "left"),(n2, "a")),((n1, "right"),(n3, "a")),((n2, "b"),(n4,a)),((n4,b),(n3, "b"))]:=⟨[j1,j2,j3,j4],f9,.cons (J1.mono sAB) (.cons (J2.mono sAB) (.cons J3 (.cons J4 .nil)))⟩
   have s0B:=s0A.trans sAB
   clear J1 J2 J3 J4 s11 s12 s13 s14 s15 s16 s17 s18 sAB s0A f1 f2 f3 f4 f5 f6 f7 f8 f9 h7
   refine WSs.step (ps_set (i:=10) sc__law_block.nd rfl (by first | exact Or.inl rfl | exact Or.inr rfl) (pe_lstS (pa_c (pe_tupS (pa_c pe_str (pa_c (pv 2) pa_nil))) (pa_c (pe_tupS (pa_c pe_str (pa_c (pv 3) pa_nil))) (pa_c (pe_tupS (pa_c pe_str (pa_c (pv 4) pa_nil))) (pa_c (pe_tupS (pa_c pe_str (pa_c (pv 5) pa_nil))) pa_nil)))))) ⟨_,rfl,sz (by simp),fun c1 G1 s1 _ f1=>⟨_,rfl,sz (by simp),fun c2 G2 s2 _ f2=>⟨_,rfl,sz (by simp),fun c3 G3 s3 _ f3=>⟨_,rfl,sz (by simp),fun c4 G4 s4 _ f4=>⟨sz (by simp),fun pl G5 s5 _ f5=>?_⟩⟩⟩⟩⟩
   have hpl:PartsAt G5 pl [("points",n1),("plain",n2),("plain",n3),("points",n4)]:=⟨[c1,c2,c3,c4],f5,.cons (s5.at (s4.at (s3.at (s2.at f1)))) (.cons (s5.at (s4.at (s3.at f2))) (.cons (s5.at (s4.at f3)) (.cons (s5.at f4) .nil)))⟩
   have sG:=s1.trans (s2.trans (s3.trans (s4.trans s5)))
   refine WSs.last (ps_ret (pe_tupS (pa_c (pv 10) (pa_c (pv 9) (pa_c (pe_tupS (pa_c (pv 2) (pa_c pe_str pa_nil))) (pa_c (pe_tupS (pa_c (pv 5) (pa_c pe_str pa_nil))) pa_nil)))))) ⟨_,rfl,_,rfl,_,rfl,sz (by simp),fun ie G6 s6 _ f6=>⟨_,rfl,sz (by simp),fun oe G7 s7 _ f7=>⟨sz (by simp),fun t G8 s8 _ f8=>?_⟩⟩⟩
   have sG8:=s6.trans (s7.trans s8)
   exact q t G8 pl jl ie oe _ _ _ _ (s0B.trans (sG.trans sG8)) f8 (hpl.mono sG8) (hjl.mono (sG.trans sG8)) ((s7.trans s8).at f6) (s8.at f7) (.loop a b hab)
  refine WSs.step (ps_if (pt_cmpR op_lt (pv 6) pe_int (nomark _)) pss_w pss_nil) ⟨_,rfl,_,_,rfl,rfl,_,rfl,ite2 (fun _=>?_) (fun _=>?_)⟩
  ·refine WSs.step (ps_set (i:=7) sc__law_block.nd rfl (by first | exact Or.inl rfl | exact Or.inr rfl) (pe_lstS (pa_c pe_str (pa_c pe_str (pa_c pe_str pa_nil))))) ⟨sz (by simp),fun le H1 s1 _ e1=>?_⟩
   refine WSs.step (ps_set (i:=11) sc__law_block.nd rfl (by first | exact Or.inl rfl | exact Or.inr rfl) (pe_op op_mod (pe_op op_fdiv (pv 0) pe_int) pe_int)) ⟨_,rfl,_,_,rfl,rfl,⟨by decide,by decide⟩,_,_,rfl,rfl,(by show (0:Int) < 3; decide),?_⟩
   obtain ⟨x,r0,r1,hat,hfl,hpm⟩:∃ x r0 r1:Str,atI [V.str "stem",.str "left",.str "right"] (2 - c / 8 % 3)=some (.str x)∧(([("stem" : Str), "left", "right"].filter fun e=>decide (e ≠ x))=[r0,r1])∧[x,r0,r1].Perm ["stem", "left", "right"]:=by
    have h0:=Int.emod_nonneg (c / 8) (show (3:Int) ≠ 0 by decide)
    have h1:=Int.emod_lt_of_pos (c / 8) (show (0:Int) < 3 by decide)
    generalize c / 8 % 3=m at h0 h1
    have:m=0∨m=1∨m=2:=by omega
    rcases this with rfl | rfl | rfl
    ·exact ⟨"right", "stem", "left",rfl,by decide +kernel,by decide +kernel⟩
    ·exact ⟨"left", "stem", "right",rfl,by decide +kernel,by decide +kernel⟩
    ·exact ⟨"stem", "left", "right",rfl,by decide +kernel,by decide +kernel⟩
   refine WSs.step (ps_set (i:=12) sc__law_block.nd rfl (by first | exact Or.inl rfl | exact Or.inr rfl) (pe_ix (r:=rIx K) ix_seq (pv 7) (pe_op op_sub pe_int (pv 11)) (fun _ _=>rfl))) ⟨_,rfl,_,rfl,_,_,rfl,rfl,.inl ⟨le,_,_,.str x,rfl,rfl,SqL.of e1,hat,?_⟩⟩
   refine WSs.step (ps_set (i:=9) sc__law_block.nd rfl (by first | exact Or.inl rfl | exact Or.inr rfl) (pe_lstS (pa_c (pe_tupS (pa_c (pe_tupS (pa_c (pv 2) (pa_c (pv 12) pa_nil))) (pa_c (pe_tupS (pa_c (pv 3) (pa_c pe_str pa_nil))) pa_nil))) (pa_c (pe_tupS (pa_c (pe_tupS (pa_c (pv 3) (pa_c pe_str pa_nil))) (pa_c (pe_tupS (pa_c (pv 4) (pa_c pe_str pa_nil))) pa_nil))) pa_nil)))) ⟨_,rfl,_,rfl,sz (by simp),fun a1 H2 s2 _ f1=>⟨_,rfl,sz (by simp),fun a2 H3 s3 _ f2=>⟨sz (by simp),fun j1 H4 s4 _ f3=>⟨_,rfl,sz (by simp),fun a3 H5 s5 _ f4=>⟨_,rfl,sz (by simp),fun a4 H6 s6 _ f5=>⟨sz (by simp),fun j2 H7 s7 _ f6=>⟨sz (by simp),fun jl H8 s8 _ f7=>?_⟩⟩⟩⟩⟩⟩⟩
   have hjl:JoinsAt H8 jl [((n1,x),(n2, "b")),((n2, "a"),(n3, "a"))]:=⟨[j1,j2],f7,.cons ⟨a1,a2,(s5.trans (s6.trans (s7.trans s8))).at f3,(s3.trans (s4.trans (s5.trans (s6.trans (s7.trans s8))))).at f1,(s4.trans (s5.trans (s6.trans (s7.trans s8)))).at f2⟩ (.cons ⟨a3,a4,s8.at f6,(s6.trans (s7.trans s8)).at f4,(s7.trans s8).at f5⟩ .nil)⟩
   have s28:=s2.trans (s3.trans (s4.trans (s5.trans (s6.trans (s7.trans s8)))))
   have s08:=s1.trans s28
   have e1:=s28.at e1
   clear s1 s2 s3 s4 s5 s6 s7 s8 f1 f2 f3 f4 f5 f6 f7 s28
   refine WSs.step (ps_setComp (i:=13) (N':=["_law_end", "_law_aside"]) sc__law_block.nd rfl (Or.inl rfl) rfl (CompScope.std 1 [12] rfl (by decide +kernel) (by decide +kernel) rfl ⟨rfl,trivial⟩ rfl rfl ⟨⟨_,rfl,rfl,rfl⟩,trivial⟩) (pi_list (pv 7)) (fun _ _ _ _=>(pg_name (i:=0) (by show (["_law_end", "_law_aside"]:List Str).Nodup; decide +kernel) rfl (Or.inl (lookup_relabel_local rfl)) (Or.inr (lookup_relabel_local rfl)))) (fun _ _ _ _=>(pf_one (pt_cmpR (r:=rNeY K) (oNeY hr) (pv 0) (pv 1) (nomark _)))) (fun _ _ _ _=>(pv 0))) ⟨_,rfl,le,rfl,⟨_,SqL.of e1⟩,fun lr hlr=>?_⟩
   refine comp_ne (xs:=["stem", "left", "right"]) (x:=x) e1 (by decide) hlr (fun H9 s9 e9=>?qq) ?aa ?bb
   case aa=>rfl
   case bb=>rfl
   rw [hfl] at e9
   obtain ⟨kd,hkd,hkm⟩:∃ kd:Str,atI [V.str "stop",.str "gate"] (c / 24 % 2)=some (.str kd)∧kd ∈ [("stop" : Str), "gate"]:=by
    obtain ⟨w,hw,h | h⟩:=two_of (n:=c / 24) (u:=V.str "stop") (v:=V.str "gate")
    ·exact ⟨"stop",by rw [hw,h.2],by simp⟩
    ·exact ⟨"gate",by rw [hw,h.2],by simp⟩
   refine WSs.step (ps_set (i:=10) sc__law_block.nd rfl (by first | exact Or.inl rfl | exact Or.inr rfl) (pe_lstS (pa_c (pe_tupS (pa_c pe_str (pa_c (pv 2) pa_nil))) (pa_c (pe_tupS (pa_c pe_str (pa_c (pv 3) pa_nil))) (pa_c (pe_tupS (pa_c (pe_ix (r:=rIx K) ix_seq (pe_lstS (pa_c pe_str (pa_c pe_str pa_nil))) (pe_op op_mod (pe_op op_fdiv (pv 0) pe_int) pe_int) (fun _ _=>rfl)) (pa_c (pv 4) pa_nil))) pa_nil))))) ⟨_,rfl,sz (by simp),fun c1 G1 s1 _ f1=>⟨_,rfl,sz (by simp),fun c2 G2 s2 _ f2=>⟨sz (by simp),fun lk G3 s3 _ f3=>⟨_,rfl,_,_,rfl,rfl,⟨by decide,by decide⟩,_,_,rfl,rfl,(by show (0:Int) < 2; decide),.inl ⟨lk,_,_,.str kd,rfl,rfl,SqL.of f3,hkd,_,rfl,sz (by simp),fun c3 G4 s4 _ f4=>⟨sz (by simp),fun pl G5 s5 _ f5=>?_⟩⟩⟩⟩⟩⟩
   have hpl:PartsAt G5 pl [("points",n1),("plain",n2),(kd,n3)]:=⟨[c1,c2,c3],f5,.cons (s5.at (s4.at (s3.at (s2.at f1)))) (.cons (s5.at (s4.at (s3.at f2))) (.cons (s5.at f4) .nil))⟩
   have sG:=s1.trans (s2.trans (s3.trans (s4.trans s5)))
   obtain ⟨a,b,ha,hb,hab⟩:∃ a b:Str,atI [V.str r0,.str r1] (c / 48 % 2)=some (.str a)∧atI [V.str r0,.str r1] (1 - c / 48 % 2)=some (.str b)∧[x,a,b].Perm ["stem", "left", "right"]:=by
    have h0:=Int.emod_nonneg (c / 48) (show (2:Int) ≠ 0 by decide)
    have h1:=Int.emod_lt_of_pos (c / 48) (show (0:Int) < 2 by decide)
    generalize c / 48 % 2=m at h0 h1
    have:m=0∨m=1:=by omega
    rcases this with rfl | rfl
    ·exact ⟨r0,r1,rfl,rfl,hpm⟩
    ·exact ⟨r1,r0,rfl,rfl,((List.Perm.swap r0 r1 []).cons x).trans hpm⟩
   refine WSs.last (ps_ret (pe_tupS (pa_c (pv 10) (pa_c (pv 9) (pa_c (pe_tupS (pa_c (pv 2) (pa_c (pe_ix (r:=rIx K) ix_seq (pv 13) (pe_op op_mod (pe_op op_fdiv (pv 0) pe_int) pe_int) (fun _ _=>rfl)) pa_nil))) (pa_c (pe_tupS (pa_c (pv 2) (pa_c (pe_ix (r:=rIx K) ix_seq (pv 13) (pe_op op_sub pe_int (pe_op op_mod (pe_op op_fdiv (pv 0) pe_int) pe_int)) (fun _ _=>rfl)) pa_nil))) pa_nil)))))) ⟨_,rfl,_,rfl,_,rfl,_,rfl,_,rfl,_,_,rfl,rfl,⟨by decide,by decide⟩,_,_,rfl,rfl,(by show (0:Int) < 2; decide),.inl ⟨lr,_,_,.str a,rfl,rfl,SqL.of (sG.at e9),ha,sz (by simp),fun ie G6 s6 _ f6=>?_⟩⟩
   refine ⟨_,rfl,_,rfl,_,rfl,_,_,rfl,rfl,⟨by decide,by decide⟩,_,_,rfl,rfl,(by show (0:Int) < 2; decide),_,_,rfl,rfl,.inl ⟨lr,_,_,.str b,rfl,rfl,SqL.of (s6.at (sG.at e9)),hb,sz (by simp),fun oe G7 s7 _ f7=>⟨sz (by simp),fun t G8 s8 _ f8=>?_⟩⟩⟩
   have sG8:=s6.trans (s7.trans s8)
   exact q t G8 pl jl ie oe _ _ _ _ (s08.trans (s9.trans (sG.trans sG8))) f8 (hpl.mono sG8) (hjl.mono (s9.trans (sG.trans sG8))) ((s7.trans s8).at f6) (s8.at f7) (.siding x a b kd hab hkm)
  refine WSs.step (ps_set (i:=9) sc__law_block.nd rfl (by first | exact Or.inl rfl | exact Or.inr rfl) (pe_lstS (pa_c (pe_tupS (pa_c (pe_tupS (pa_c (pv 2) (pa_c pe_str pa_nil))) (pa_c (pe_tupS (pa_c (pv 3) (pa_c pe_str pa_nil))) pa_nil))) (pa_c (pe_tupS (pa_c (pe_tupS (pa_c (pv 4) (pa_c pe_str pa_nil))) (pa_c (pe_tupS (pa_c (pv 2) (pa_c pe_str pa_nil))) pa_nil))) pa_nil)))) ⟨_,rfl,sz (by simp),fun a1 H2 s2 _ f1=>⟨_,rfl,sz (by simp),fun a2 H3 s3 _ f2=>⟨sz (by simp),fun j1 H4 s4 _ f3=>⟨_,rfl,sz (by simp),fun a3 H5 s5 _ f4=>⟨_,rfl,sz (by simp),fun a4 H6 s6 _ f5=>⟨sz (by simp),fun j2 H7 s7 _ f6=>⟨sz (by simp),fun jl H8 s8 _ f7=>?_⟩⟩⟩⟩⟩⟩⟩
  have hjl:JoinsAt H8 jl [((n1, "c"),(n2, "a")),((n3, "a"),(n1, "d"))]:=⟨[j1,j2],f7,.cons ⟨a1,a2,(s5.trans (s6.trans (s7.trans s8))).at f3,(s3.trans (s4.trans (s5.trans (s6.trans (s7.trans s8))))).at f1,(s4.trans (s5.trans (s6.trans (s7.trans s8)))).at f2⟩ (.cons ⟨a3,a4,s8.at f6,(s6.trans (s7.trans s8)).at f4,(s7.trans s8).at f5⟩ .nil)⟩
  have s08:=s2.trans (s3.trans (s4.trans (s5.trans (s6.trans (s7.trans s8)))))
  clear s2 s3 s4 s5 s6 s7 s8 f1 f2 f3 f4 f5 f6 f7
  obtain ⟨kd,hkd,hkm⟩:∃ kd:Str,atI [V.str "gate",.str "stop"] (c / 8 % 2)=some (.str kd)∧kd ∈ [("gate" : Str), "stop"]:=by
   obtain ⟨w,hw,h | h⟩:=two_of (n:=c / 8) (u:=V.str "gate") (v:=V.str "stop")
   ·exact ⟨"gate",by rw [hw,h.2],by simp⟩
   ·exact ⟨"stop",by rw [hw,h.2],by simp⟩
  refine WSs.step (ps_set (i:=10) sc__law_block.nd rfl (by first | exact Or.inl rfl | exact Or.inr rfl) (pe_lstS (pa_c (pe_tupS (pa_c pe_str (pa_c (pv 2) pa_nil))) (pa_c (pe_tupS (pa_c pe_str (pa_c (pv 3) pa_nil))) (pa_c (pe_tupS (pa_c (pe_ix (r:=rIx K) ix_seq (pe_lstS (pa_c pe_str (pa_c pe_str pa_nil))) (pe_op op_mod (pe_op op_fdiv (pv 0) pe_int) pe_int) (fun _ _=>rfl)) (pa_c (pv 4) pa_nil))) pa_nil))))) ⟨_,rfl,sz (by simp),fun c1 G1 s1 _ f1=>⟨_,rfl,sz (by simp),fun c2 G2 s2 _ f2=>⟨sz (by simp),fun lk G3 s3 _ f3=>⟨_,rfl,_,_,rfl,rfl,⟨by decide,by decide⟩,_,_,rfl,rfl,(by show (0:Int) < 2; decide),.inl ⟨lk,_,_,.str kd,rfl,rfl,SqL.of f3,hkd,_,rfl,sz (by simp),fun c3 G4 s4 _ f4=>⟨sz (by simp),fun pl G5 s5 _ f5=>?_⟩⟩⟩⟩⟩⟩
  have hpl:PartsAt G5 pl [("cross",n1),("gate",n2),(kd,n3)]:=⟨[c1,c2,c3],f5,.cons (s5.at (s4.at (s3.at (s2.at f1)))) (.cons (s5.at (s4.at (s3.at f2))) (.cons (s5.at f4) .nil))⟩
  have sG:=s1.trans (s2.trans (s3.trans (s4.trans s5)))
  refine WSs.last (ps_ret (pe_tupS (pa_c (pv 10) (pa_c (pv 9) (pa_c (pe_tupS (pa_c (pv 2) (pa_c pe_str pa_nil))) (pa_c (pe_tupS (pa_c (pv 2) (pa_c pe_str pa_nil))) pa_nil)))))) ⟨_,rfl,_,rfl,_,rfl,sz (by simp),fun ie G6 s6 _ f6=>⟨_,rfl,sz (by simp),fun oe G7 s7 _ f7=>⟨sz (by simp),fun t G8 s8 _ f8=>?_⟩⟩⟩
  have sG8:=s6.trans (s7.trans s8)
  exact q t G8 pl jl ie oe _ _ _ _ (s08.trans (sG.trans sG8)) f8 (hpl.mono sG8) (hjl.mono (sG.trans sG8)) ((s7.trans s8).at f6) (s8.at f7) (.cross kd hkm)
theorem G__law_block (T:Tx K mg) {k:Nat} (h:1 ≤ k:=by decide):FnOk P w K mg base CX0 k T.d__law_block.f T.d__law_block.fd ["_law_cell", "_law_names"] spBlock:=(ok__law_block T).mono h
end
end K13
end
section
namespace K13
open PySem L2 NM YM
section
variable {P:Program} {w:World} {K:PySem.W.Frag} {mg:Str→Option Value} {base:Heap}
seal PySem.wpAny
theorem cut_from (xs:List V) (k:Nat):cutV xs (some (k:Int)) none=xs.drop k:=by
 unfold cutV
 rw [HT.sIx_nat,HT.sIx_none]
 by_cases h:k ≤ xs.length
 ·rw [Nat.min_eq_left h,List.take_of_length_le (by rw [List.length_drop]; exact Nat.le_refl _)]
 ·rw [Nat.min_eq_right (by omega),List.drop_length,List.take_nil,List.drop_of_length_le (by omega)]
theorem cut_to (xs:List V) (k:Nat):cutV xs none (some (k:Int))=xs.take k:=by
 unfold cutV
 rw [HT.sIx_nat,HT.sIx_none,List.drop_zero,Nat.sub_zero]
 by_cases h:k ≤ xs.length
 ·rw [Nat.min_eq_left h]
 ·rw [Nat.min_eq_right (by omega),List.take_length,List.take_of_length_le (by omega)]
theorem PartsAt.app {H:Hp} {l:Addr} {ts us:List Addr} {ps qs:List EndT} (h1:Paired (PairAt H) ts ps) (h2:Paired (PairAt H) us qs) (e:H l=some (.lst (ts.map V.ref ++ us.map V.ref))):PartsAt H l (ps ++ qs):=⟨ts ++ us,by rw [List.map_append]; exact e,Paired.append h1 h2⟩
theorem JoinsAt.app {H:Hp} {l:Addr} {ts us:List Addr} {ps qs:List (EndT×EndT)} (h1:Paired (JoinAt H) ts ps) (h2:Paired (JoinAt H) us qs) (e:H l=some (.lst (ts.map V.ref ++ us.map V.ref))):JoinsAt H l (ps ++ qs):=⟨ts ++ us,by rw [List.map_append]; exact e,Paired.append h1 h2⟩
def spLine (K:PySem.W.Frag):Sp:=fun vs H Q _=>∃ (cl:Addr) (cs:List Int),vs=[.ref cl]∧SqL K H cl (cs.map V.int)∧(∀ c ∈ cs,0 ≤ c) ∧
 ∀ (t:Addr) (H':Hp) (pl jl:Addr) (ps:List EndT) (js:List (EndT×EndT)),Same H H'→H' t=some (.tup [.ref pl,.ref jl])→PartsAt H' pl ps→JoinsAt H' jl js→H pl=none→H jl=none→Net ps js []→ps.length ≤ 38→(∀ p ∈ ps,p=((("gate" : Str),("g" : Str)):EndT)∨p=((("gate" : Str),("h" : Str)):EndT)∨isNm p.2 36)→Q (.ref t) H'
theorem ok__law_line (T:Tx K mg):FnOk P w K mg base CX0 2 T.d__law_line.f T.d__law_line.fd ["_law_cells_here"] (spLine K):=by
 refine T.d__law_line.F.okW sc__law_line (fun vs H Q E h=>?_) (fun cdv A outer s H vs Q E hr h=>?_)
 ·obtain ⟨cl,cs,rfl,_⟩:=h
  rfl
 ·obtain ⟨cl,cs,rfl,hcl,hcs,q⟩:=h
  refine WSs.step (ps_set (i:=1) sc__law_line.nd rfl (by first | exact Or.inl rfl | exact Or.inr rfl) (pe_lstS (pa_c (pe_tupS (pa_c pe_str (pa_c pe_str pa_nil))) pa_nil))) ⟨sz (by simp),fun t1 H1 s1 _ e1=>⟨sz (by simp),fun pl0 H2 s2 n2 e2=>?_⟩⟩
  refine WSs.step (ps_set (i:=2) sc__law_line.nd rfl (by first | exact Or.inl rfl | exact Or.inr rfl) (pe_lstS pa_nil)) ⟨sz (by simp),fun jl0 H3 s3 n3 e3=>?_⟩
  refine WSs.step (ps_set (i:=3) sc__law_line.nd rfl (by first | exact Or.inl rfl | exact Or.inr rfl) (pe_tupS (pa_c pe_str (pa_c pe_str pa_nil)))) ⟨sz (by simp),fun e0 H4 s4 n4 e4=>?_⟩
  have s04:=s1.trans (s2.trans (s3.trans s4))
  have hp0:PartsAt H4 pl0 [("gate", "g")]:=⟨[t1],s4.at (s3.at e2),.cons (s4.at (s3.at (s2.at e1))) .nil⟩
  have hj0:JoinsAt H4 jl0 []:=⟨[],s4.at e3,.nil⟩
  have f0:H pl0=none:=s1.free n2
  have f1:H jl0=none:=s1.free (s2.free n3)
  clear s1 s2 s3 s4 n2 n3 n4 e1 e2 e3
  refine WSs.step (ps_for PassesOwn.never rfl (pi_enum rfl T.n_enumerate (pa_c (pe_slice (r:=rSlX K) oSlX (pv 0) po_none (po_some pe_int)) pa_nil)) (pg_tup rfl (pgs_cons (pg_name (i:=4) sc__law_line.nd rfl (by first | exact Or.inl rfl | exact Or.inr rfl)) (pgs_cons (pg_name (i:=5) sc__law_line.nd rfl (by first | exact Or.inl rfl | exact Or.inr rfl)) pgs_nil))) pss_w) ⟨_,rfl,_,rfl,.inr (.inl ⟨cl,_,rfl,s04.seq hcl,fun c9 H5 s5 n5 e5=>⟨c9,rfl,⟨_,SqL.of e5⟩,?_⟩⟩)⟩
  rw [show (some (9:Int))=some ((9:Nat):Int) from rfl,cut_to,← List.map_take] at e5
  have s05:=s04.trans s5
  refine for_enum (xs:=(cs.take 9).map V.int) (fun i σ H'=>Same H5 H'∧∃ pl jl e o4 o5 o6 o7 ps js cur,σ=[some (.ref cl),some (.ref pl),some (.ref jl),some (.ref e),o4,o5,o6,o7]∧PartsAt H' pl ps∧JoinsAt H' jl js∧PairAt H' e cur∧LineOk i ps js cur∧H pl=none∧H jl=none)
   ⟨Same.refl _,pl0,jl0,e0,none,none,none,none,_,_,_,rfl,hp0.mono s5,hj0.mono s5,s5.at e4,LineOk.start,f0,f1⟩ ?_ ?_ ?_
  ·rintro i σ H' _ ⟨sm,_⟩
   exact SqL.of (sm.at e5)
  ·rintro i v σ H6 hi ⟨s6,pl,jl,e,o4,o5,o6,o7,ps,js,cur,rfl,hpl,hjl,hpe,hok,fp,fj⟩ tp H7 s7 n7 e7
   rw [List.getElem?_map] at hi
   obtain ⟨c,hc,rfl⟩:=Option.map_eq_some_iff.mp hi
   have hi9:i < 9:=by
    have:=(List.getElem?_eq_some_iff.mp hc).1
    rw [List.length_take] at this
    omega
   have hc0:0 ≤ c:=hcs c (List.mem_of_mem_take (List.mem_of_getElem? hc))
   refine ⟨tp,_,rfl,SqT.of e7,rfl,_,_,rfl,_,_,rfl,rfl,?_⟩
   have s07:=s6.trans s7
   have hpl:=hpl.mono s7
   have hjl:=hjl.mono s7
   have hpe:=hpe.mono s7
   obtain ⟨nm,hnm⟩:∃ nm:Nat→Str,nm=fun j=>nameBy ((["p", "q", "r", "t"]:List Str).getD j "p") (c / 96 + 5 * (j:Int)) (4 * i + j):=⟨_,rfl⟩
   refine WSs.step (ps_setComp (i:=6) (N':=["_law_j", "_law_cell", "_law_k"]) sc__law_line.nd rfl (Or.inl rfl) rfl (CompScope.std 1 [5,4] rfl (by decide +kernel) (by decide +kernel) rfl ⟨rfl,rfl,trivial⟩ rfl rfl ⟨⟨_,rfl,rfl,rfl⟩,⟨_,rfl,rfl,rfl⟩,trivial⟩) (pi_range1 rfl T.n_range (pa_c pe_int pa_nil)) (fun _ _ _ _=>(pg_name (i:=0) (by show (["_law_j", "_law_cell", "_law_k"]:List Str).Nodup; decide +kernel) rfl (Or.inl (lookup_relabel_local rfl)) (Or.inr (lookup_relabel_local rfl)))) (fun _ _ _ _=>pf_nil) (fun _ _ _ _=>(pe_call (G__law_name_by T) hr rfl T.m__law_name_by T.d__law_name_by.F.kp T.d__law_name_by.b .nil pass0 (pa_c (pe_ix (r:=rIx K) ix_seq (pe_lstS (pa_c pe_str (pa_c pe_str (pa_c pe_str (pa_c pe_str pa_nil))))) (pv 0) (fun _ _=>rfl)) (pa_c (pe_op oAdd (pe_op op_fdiv (pv 1) pe_int) (pe_op op_mul pe_int (pv 0))) (pa_c (pe_op oAdd (pe_op op_mul pe_int (pv 2)) (pv 0)) pa_nil)))))) ⟨_,rfl,by decide,by decide,fun D hD=>comp_range (lo:=0) (n:=4) (fun j ys H'=>ys=((List.range j).map nm).map V.str∧H' D=some (.lst ys)∧Same H7 H') ⟨rfl,upd_same,Same.new hD⟩ ?_ ?_⟩
   ·rintro j ys H8 hj ⟨rfl,hD8,s8⟩
    unfold CompT
    obtain ⟨kd,hkd⟩:∃ kd,kd=(["p", "q", "r", "t"]:List Str).getD j "p" := ⟨_,rfl⟩
    have hj4:j=0∨j=1∨j=2∨j=3:=by omega
    have hat:atI [V.str "p",.str "q",.str "r",.str "t"] ((0:Int) + (j:Int))=some (.str kd):=by
     rw [hkd]
     rcases hj4 with rfl | rfl | rfl | rfl <;> rfl
    have hkl:kd.length=1:=by
     rw [hkd]
     rcases hj4 with rfl | rfl | rfl | rfl <;> decide +kernel
    refine ⟨Keep.set rfl,sz (by simp),fun lq H9 s9 n9 e9=>⟨_,rfl,.inl ⟨lq,_,_,.str kd,rfl,rfl,SqL.of e9,hat,_,rfl,_,_,rfl,rfl,⟨by decide,by decide⟩,_,rfl,_,_,rfl,rfl,.inl ⟨by decide,by decide⟩,.inl ⟨_,_,rfl,rfl,_,rfl,_,_,rfl,rfl,.inl ⟨by decide,by decide⟩,_,rfl,.inl ⟨_,_,rfl,rfl,kd,c / 96 + 5 * (j:Int),4 * i + j,?_,by omega,by omega,?_,by omega,s9.at hD8,?_,?_,upd_same,fun b o z=>?_⟩⟩⟩⟩⟩
    ·show [V.str kd,V.int (c / 96 + 5 * (0 + (j:Int))),V.int (4 * (i:Int) + (0 + (j:Int)))]=_
     rw [show (0:Int) + (j:Int)=j by omega,show 4 * (i:Int) + (j:Int)=((4 * i + j:Nat):Int) by omega]
    ·have:=Int.ediv_nonneg hc0 (show (0:Int) ≤ 96 by decide)
     omega
    ·rw [List.length_map,List.length_map,List.length_range]; exact small1000 (by omega)
    ·rw [List.range_succ,List.map_append,List.map_append,hnm,hkd]
     rfl
    ·rw [upd_ne (ne_of_none z hD)]; exact s9.at (s8.at z)
   ·rintro ys H8 ⟨rfl,hD8,s8⟩
    have hpl:=hpl.mono s8
    have hjl:=hjl.mono s8
    have hpe:=hpe.mono s8
    refine WSs.step (ps_set (i:=7) sc__law_line.nd rfl (by first | exact Or.inl rfl | exact Or.inr rfl) (pe_call (G__law_block T) hr rfl T.m__law_block T.d__law_block.F.kp T.d__law_block.b .nil pass0 (pa_c (pv 5) (pa_c (pv 6) pa_nil)))) ⟨_,rfl,_,rfl,c,D,nm 0,nm 1,nm 2,nm 3,rfl,hD8,fun t H9 bp bj ie oe qs ks a b s9 e9 hbp hbj hie hoe B=>?_⟩
    subst hnm
    have hok':=hok.more (by omega) (by decide +kernel) (by decide +kernel) (by decide +kernel) (by decide +kernel) B
    obtain ⟨ts,ht,hts⟩:=hpl.mono s9
    obtain ⟨us,hu,hus⟩:=hbp
    obtain ⟨js1,hj1,hjs1⟩:=hjl.mono s9
    obtain ⟨js2,hj2,hjs2⟩:=hbj
    have lp:=hok.pl
    have lj:=hok.jl
    have lb:=B.len
    have c1:=Paired.length hts
    have c2:=Paired.length hus
    have c3:=Paired.length hjs1
    have c4:=Paired.length hjs2
    refine WSs.step (ps_set (i:=1) sc__law_line.nd rfl (by first | exact Or.inl rfl | exact Or.inr rfl) (pe_op oAdd (pv 1) (pe_ix (r:=rIx K) ix_seq (pv 7) pe_int (fun _ _=>rfl)))) ⟨_,rfl,_,rfl,.inr (.inl ⟨t,_,_,.ref bp,rfl,rfl,SqT.of e9,rfl,.inr (.inr ⟨pl,bp,_,_,rfl,rfl,ht,hu,?_,fun pl' H10 s10 n10 e10=>?_⟩)⟩)⟩
    ·rw [List.length_map,List.length_map]; exact sz (by omega)
    refine WSs.step (ps_set (i:=2) sc__law_line.nd rfl (by first | exact Or.inl rfl | exact Or.inr rfl) (pe_op oAdd (pe_op oAdd (pv 2) (pe_ix (r:=rIx K) ix_seq (pv 7) pe_int (fun _ _=>rfl))) (pe_lstS (pa_c (pe_tupS (pa_c (pv 3) (pa_c (pe_ix (r:=rIx K) ix_seq (pv 7) pe_int (fun _ _=>rfl)) pa_nil))) pa_nil)))) ⟨_,rfl,_,rfl,.inr (.inl ⟨t,_,_,.ref bj,rfl,rfl,SqT.of (s10.at e9),rfl,.inr (.inr ⟨jl,bj,_,_,rfl,rfl,s10.at hj1,s10.at hj2,?_,fun jm H11 s11 n11 e11=>⟨_,rfl,_,rfl,.inr (.inl ⟨t,_,_,.ref ie,rfl,rfl,SqT.of (s11.at (s10.at e9)),rfl,sz (by simp),fun tj H12 s12 n12 e12=>⟨sz (by simp),fun l2 H13 s13 n13 e13=>.inr (.inr ⟨jm,l2,_,_,rfl,rfl,(s12.trans s13).at e11,e13,?_,fun jl' H14 s14 n14 e14=>?_⟩)⟩⟩)⟩⟩)⟩)⟩
    ·rw [List.length_map,List.length_map]; exact sz (by omega)
    ·rw [List.length_append,List.length_map,List.length_map]; exact sz (by simp; omega)
    have s104:=s11.trans (s12.trans (s13.trans s14))
    have s94:=s10.trans s104
    refine WSs.last (ps_set (i:=3) sc__law_line.nd rfl (by first | exact Or.inl rfl | exact Or.inr rfl) (pe_ix (r:=rIx K) ix_seq (pv 7) pe_int (fun _ _=>rfl))) ⟨_,rfl,.inr (.inl ⟨t,_,_,.ref oe,rfl,rfl,SqT.of (s94.at e9),rfl,s07.trans (s8.trans (s9.trans s94)),pl',jl',oe,_,_,_,_,_,_,_,rfl,?_,?_,hoe.mono s94,hok',?_,?_⟩)⟩
    ·exact PartsAt.app (ts:=ts) (us:=us) (Paired.mapP hts fun _ _ r=>r.mono s94) (Paired.mapP hus fun _ _ r=>r.mono s94) (s104.at e10)
    ·have hall:Paired (JoinAt H14) (js1 ++ js2) (js ++ ks):=Paired.append (Paired.mapP hjs1 fun _ _ r=>r.mono s94) (Paired.mapP hjs2 fun _ _ r=>r.mono s94)
     refine JoinsAt.app (ts:=js1 ++ js2) (us:=[tj]) hall (.cons ⟨e,ie,(s13.trans s14).at e12,(hpe.mono s9).mono s94,hie.mono s94⟩ .nil) ?_
     rw [List.map_append]
     exact e14
    ·exact s05.free (s07.free (s8.free (s9.free n10)))
    ·exact s05.free (s07.free (s8.free (s9.free ((s10.trans (s11.trans (s12.trans s13))).free n14))))
  ·rintro σ H6 ⟨s6,pl,jl,e,o4,o5,o6,o7,ps,js,cur,rfl,hpl,hjl,hpe,hok,fp,fj⟩
   rw [List.length_map,List.length_take] at hok
   have hm:min 9 cs.length ≤ 9:=Nat.min_le_left ..
   have hdone:=hok.done (by omega)
   obtain ⟨ts,ht,hts⟩:=hpl
   obtain ⟨js1,hj1,hjs1⟩:=hjl
   have lp:=hok.pl
   have lj:=hok.jl
   have c1:=Paired.length hts
   have c3:=Paired.length hjs1
   refine WSs.last (ps_ret (pe_tupS (pa_c (pe_op oAdd (pv 1) (pe_lstS (pa_c (pe_tupS (pa_c pe_str (pa_c pe_str pa_nil))) pa_nil))) (pa_c (pe_op oAdd (pv 2) (pe_lstS (pa_c (pe_tupS (pa_c (pv 3) (pa_c (pe_tupS (pa_c pe_str (pa_c pe_str pa_nil))) pa_nil))) pa_nil))) pa_nil)))) ⟨_,rfl,sz (by simp),fun t1 H7 s7 _ e7=>⟨sz (by simp),fun l1 H8 s8 _ e8=>.inr (.inr ⟨pl,l1,_,_,rfl,rfl,s8.at (s7.at ht),e8,?_,fun pl' H9 s9 n9 e9=>⟨_,rfl,_,rfl,sz (by simp),fun t2 H10 s10 _ e10=>⟨sz (by simp),fun t3 H11 s11 _ e11=>⟨sz (by simp),fun l2 H12 s12 _ e12=>.inr (.inr ⟨jl,l2,_,_,rfl,rfl,(s7.trans (s8.trans (s9.trans (s10.trans (s11.trans s12))))).at hj1,e12,?_,fun jl' H13 s13 n13 e13=>⟨sz (by simp),fun t H14 s14 _ e14=>?_⟩⟩)⟩⟩⟩⟩)⟩⟩
   ·rw [List.length_map]; exact sz (by simp; omega)
   ·rw [List.length_map]; exact sz (by simp; omega)
   have s612:=s7.trans (s8.trans (s9.trans (s10.trans (s11.trans s12))))
   have s614:=s612.trans (s13.trans s14)
   have s914:=s10.trans (s11.trans (s12.trans (s13.trans s14)))
   refine q t H14 pl' jl' _ _ (s05.trans (s6.trans s614)) e14 ?_ ?_ (s05.free (s6.free (s7.free (s8.free n9)))) (s05.free (s6.free (s612.free n13))) hdone ?_ ?_
   ·exact PartsAt.app (ts:=ts) (us:=[t1]) (Paired.mapP hts fun _ _ r=>r.mono s614) (.cons ((s8.trans (s9.trans s914)).at e7) .nil) (s914.at e9)
   ·exact JoinsAt.app (ts:=js1) (us:=[t3]) (Paired.mapP hjs1 fun _ _ r=>r.mono s614) (.cons ⟨e,t2,(s12.trans (s13.trans s14)).at e11,hpe.mono s614,(s11.trans (s12.trans (s13.trans s14))).at e10⟩ .nil) (s14.at e13)
   ·rw [List.length_append]; simp; omega
   ·intro p hp
    rcases List.mem_append.mp hp with z | z
    ·rcases hok.nm p z with y | ⟨kd,c,k,h1,h2,h3⟩
     ·exact .inl y
     ·exact .inr (.inr ⟨kd,c,k,h1,by omega,h3⟩)
    ·simp at z
     subst z
     exact .inr (.inl rfl)
theorem G__law_line (T:Tx K mg) {k:Nat} (h:2 ≤ k:=by decide):FnOk P w K mg base CX0 k T.d__law_line.f T.d__law_line.fd ["_law_cells_here"] (spLine K):=(ok__law_line T).mono h
end
end K13
end
section
namespace K13
open PySem L2 NM YM
section
variable {P:Program} {w:World} {K:PySem.W.Frag} {mg:Str→Option Value} {base:Heap}
seal PySem.wpAny
def spCells (K:PySem.W.Frag):Sp:=fun vs H Q _=>∃ (a:Addr) (ns:List Int) (i j:Nat),vs=[.ref a,.int i,.int j]∧SqL K H a (ns.map V.int)∧ns.length ≤ 63∧i ≤ 1000∧j ≤ 1000 ∧
 ∀ (p:Addr) (H':Hp) (cs:List Int),Same H H'→H p=none→H' p=some (.lst (cs.map V.int))→(∀ c ∈ cs,0 ≤ c∧c < 2147483629)→cs.length ≤ 63→Q (.ref p) H'
theorem ok__law_cells (T:Tx K mg):FnOk P w K mg base CX0 2 T.d__law_cells.f T.d__law_cells.fd ["_law_script", "_law_at", "_law_end"] (spCells K):=by
 refine T.d__law_cells.F.okW sc__law_cells (fun vs H Q E h=>?_) (fun cdv A outer s H vs Q E hr h=>?_)
 ·obtain ⟨a,ns,i,j,rfl,_⟩:=h
  rfl
 ·obtain ⟨a,ns,i,j,rfl,hS,hn,hi,hj,q⟩:=h
  have hmin:(if ((ns.map V.int).length:Int) < (j:Int) then ((ns.map V.int).length:Int) else (j:Int))=((min j ns.length:Nat):Int):=by
   rw [List.length_map]
   split <;> omega
  refine WSs.last (ps_ret (pe_comp (N':=["_law_k", "_law_script"]) rfl (CompScope.std 1 [0] rfl (by decide +kernel) (by decide +kernel) rfl ⟨rfl,trivial⟩ rfl rfl ⟨⟨_,rfl,rfl,rfl⟩,trivial⟩) (pi_range2 rfl T.n_range (pa_c (pv 1) (pa_c (pe_callB (call_min2 rfl) (by rfl) T.n_min PyProof.Rows.boot_min (pa_c (pv 2) (pa_c (pe_callB (r:=rLenX K) oLenX (by rfl) T.n_len PySem.boot_len (pa_c (pv 0) pa_nil)) pa_nil))) pa_nil))) (fun _ _ _ _=>(pg_name (i:=0) (by show (["_law_k", "_law_script"]:List Str).Nodup; decide +kernel) rfl (Or.inl (lookup_relabel_local rfl)) (Or.inr (lookup_relabel_local rfl)))) (fun _ _ _ _=>pf_nil) (fun _ _ _ _=>(pe_call (G__law_mixed T) hr rfl T.m__law_mixed T.d__law_mixed.F.kp T.d__law_mixed.b .nil pass0 (pa_c (pe_ix (r:=rIx K) ix_seq (pv 1) (pv 0) (fun _ _=>rfl)) (pa_c (pv 0) pa_nil)))))) ⟨_,rfl,_,rfl,_,rfl,.inl ⟨a,_,rfl,.inl hS,_,_,rfl,_,_,rfl,?_,fun D hD=>?_⟩⟩
  ·rw [hmin]; omega
  rw [hmin]
  obtain ⟨m,hm⟩:∃ m:Nat,(((min j ns.length:Nat):Int) - (i:Int)).toNat=m:=⟨_,rfl⟩
  rw [hm]
  refine comp_range (lo:=(i:Int)) (n:=m) (fun k ys H'=>(∃ cs:List Int,ys=cs.map V.int∧cs.length=k∧∀ c ∈ cs,0 ≤ c∧c < 2147483629)∧H' D=some (.lst ys)∧Same H H') ⟨⟨[],rfl,rfl,by simp⟩,upd_same,Same.new hD⟩ ?_ ?_
  ·rintro k ys H2 hk ⟨⟨cs,rfl,hcl,hcs⟩,hD2,s2⟩
   unfold CompT
   have hlt:i + k < ns.length:=by omega
   refine ⟨Keep.set rfl,_,rfl,_,rfl,.inl ⟨a,_,_,.int (ns.getD (i + k) 0),rfl,rfl,s2.seq hS,?_,_,rfl,_,_,rfl,hD2,?_,⟨cs ++ [mixed (ns.getD (i + k) 0) ((i:Int) + (k:Int))],?_,?_,?_⟩,upd_same,fun b o e=>?_⟩⟩
   ·rw [show (i:Int) + (k:Int)=((i + k:Nat):Int) by omega]
    refine atI_nat ?_
    rw [List.getElem?_map,List.getElem?_eq_getElem hlt,List.getD_eq_getElem?_getD,List.getElem?_eq_getElem hlt]
    rfl
   ·rw [List.length_map]; exact small1000 (by omega)
   ·rw [List.map_append]; rfl
   ·rw [List.length_append]; simp; exact hcl
   ·intro c hc
    rcases List.mem_append.mp hc with z | z
    ·exact hcs c z
    ·simp at z
     rw [z]
     exact ⟨mixed_nn _ _,mixed_lt _ _⟩
   ·rw [upd_ne (ne_of_none e hD)]; exact s2.at e
  ·rintro ys H2 ⟨⟨cs,rfl,hcl,hcs⟩,hD2,s2⟩
   exact q D H2 cs s2 hD hD2 hcs (by omega)
theorem G__law_cells (T:Tx K mg) {k:Nat} (h:2 ≤ k:=by decide):FnOk P w K mg base CX0 k T.d__law_cells.f T.d__law_cells.fd ["_law_script", "_law_at", "_law_end"] (spCells K):=(ok__law_cells T).mono h
end
end K13
end
section
namespace K13
open PySem L2 NM YM
section
variable {P:Program} {w:World} {K:PySem.W.Frag} {mg:Str→Option Value} {base:Heap}
seal PySem.wpAny
theorem pairs_off {H:Hp} {c:Addr} {o:HO} {xs:List V} {ts:List Addr} {ps:List EndT} (h:Paired (PairAt H) ts ps) (hc:H c=some (.lst xs)):Paired (PairAt (upd H c o)) ts ps :=
 Paired.mapP h fun t q r=>by
  unfold PairAt at r ⊢
  rw [upd_ne fun z=>by rw [z,hc] at r; cases r]
  exact r
theorem JoinAt.off {H:Hp} {c t:Addr} {o:HO} {xs:List V} {j:EndT×EndT} (h:JoinAt H t j) (hc:H c=some (.lst xs)):JoinAt (upd H c o) t j:=by
 obtain ⟨a,b,h1,h2,h3⟩:=h
 unfold PairAt at h2 h3
 have ne:∀ {t:Addr} {ys:List V},H t=some (.tup ys)→t ≠ c:=fun h z=>by rw [z,hc] at h; cases h
 exact ⟨a,b,by rw [upd_ne (ne h1)]; exact h1,by unfold PairAt; rw [upd_ne (ne h2)]; exact h2,by unfold PairAt; rw [upd_ne (ne h3)]; exact h3⟩
theorem joins_off {H:Hp} {c:Addr} {o:HO} {xs:List V} {ts:List Addr} {js:List (EndT×EndT)} (h:Paired (JoinAt H) ts js) (hc:H c=some (.lst xs)):Paired (JoinAt (upd H c o)) ts js:=Paired.mapP h fun _ _ r=>r.off hc
def spClosed:Sp:=fun vs H Q _=>∃ (pl jl rl:Addr) (c:Int) (ps:List EndT) (js:List (EndT×EndT)) (rest:List EndT),vs=[.ref pl,.ref jl,.ref rl,.int c]∧PartsAt H pl ps∧JoinsAt H jl js∧PartsAt H rl rest∧pl ≠ jl∧rl ≠ pl∧rl ≠ jl∧ps.length ≤ 100∧js.length ≤ 200∧rest.length ≤ 90 ∧
 ∀ (H':Hp) (nps:List EndT) (njs:List (EndT×EndT)),(∀ b o,b ≠ pl→b ≠ jl→H b=some o→H' b=some o)→PartsAt H' pl (ps ++ nps)→JoinsAt H' jl (js ++ njs)→Closes rest rest.length nps njs→Q .non H'
theorem ok__law_closed (T:Tx K mg):FnOk P w K mg base CX0 2 T.d__law_closed.f T.d__law_closed.fd ["_law_parts", "_law_joins", "_law_rest", "_law_cell"] spClosed:=by
 refine T.d__law_closed.F.okW sc__law_closed (fun vs H Q E h=>?_) (fun cdv A outer s H vs Q E hr h=>?_)
 ·obtain ⟨pl,jl,rl,c,ps,js,rest,rfl,_⟩:=h
  rfl
 ·obtain ⟨pl,jl,rl,c,ps,js,rest,rfl,hpl,hjl,⟨rs,hrl,hrs⟩,n1,n2,n3,lp,lj,lr,q⟩:=h
  have lrs:=Paired.length hrs
  refine WSs.last (ps_for PassesOwn.never rfl (pi_enum rfl T.n_enumerate (pa_c (pv 2) pa_nil)) (pg_tup rfl (pgs_cons (pg_name (i:=4) sc__law_closed.nd rfl (by first | exact Or.inl rfl | exact Or.inr rfl)) (pgs_cons (pg_name (i:=5) sc__law_closed.nd rfl (by first | exact Or.inl rfl | exact Or.inr rfl)) pgs_nil))) pss_w) ⟨_,rfl,rl,rfl,⟨_,SqL.of hrl⟩,for_enum (xs:=rs.map V.ref) (fun i σ H'=>(∃ o4 o5 o6,σ=[some (.ref pl),some (.ref jl),some (.ref rl),some (.int c),o4,o5,o6])∧(∀ b o,b ≠ pl→b ≠ jl→H b=some o→H' b=some o)∧∃ nps njs,PartsAt H' pl (ps ++ nps)∧JoinsAt H' jl (js ++ njs)∧Closes rest i nps njs)
   ⟨⟨none,none,none,rfl⟩,fun _ _ _ _ z=>z,[],[],by rw [List.append_nil]; exact hpl,by rw [List.append_nil]; exact hjl,[],rfl,by simp,rfl,rfl⟩ ?_ ?_ ?_⟩
  ·rintro i σ H' _ ⟨_,km,_⟩
   exact SqL.of (km _ _ n2 n3 hrl)
  ·rintro i v σ H2 hi ⟨⟨o4,o5,o6,rfl⟩,km,nps,njs,⟨ts,ht,hts⟩,⟨us,hu,hus⟩,hcl⟩ tp H3 s3 n3' e3
   rw [List.getElem?_map] at hi
   obtain ⟨te,hte,rfl⟩:=Option.map_eq_some_iff.mp hi
   obtain ⟨y,hy,hye⟩:=Paired.get hrs hte
   have hil:i < rs.length:=(List.getElem?_eq_some_iff.mp hte).1
   obtain ⟨ks,hkl,hks,hnp,hnj⟩:=id hcl
   have c1:=Paired.length hts
   have c2:=Paired.length hus
   rw [List.length_append,hnp,List.length_map,List.length_range] at c1
   rw [List.length_append,hnj,List.length_map,List.length_range] at c2
   have hye2:PairAt H2 te y:=by
    unfold PairAt at hye ⊢
    refine km _ _ (fun z=>?_) (fun z=>?_) hye
    ·obtain ⟨_,h1,_⟩:=hpl; rw [z,h1] at hye; cases hye
    ·obtain ⟨_,h1,_⟩:=hjl; rw [z,h1] at hye; cases hye
   refine ⟨tp,_,rfl,SqT.of e3,rfl,_,_,rfl,_,_,rfl,rfl,?_⟩
   have fl:=fig_len' i (by omega)
   refine WSs.step (ps_set (i:=6) sc__law_closed.nd rfl (by first | exact Or.inl rfl | exact Or.inr rfl) (pe_op oAdd pe_str (pe_callTy call_str_int (by rfl) T.n_str PyProof.Rows.boot_str (pa_c (pv 4) pa_nil)))) ⟨_,rfl,(i:Int),rfl,fig_log (by omega),.inr (.inl ⟨_,_,rfl,rfl,sz (by show 1 + (figS i).length ≤ 1000; omega),?_⟩)⟩
   obtain ⟨kd,hkd,hkm⟩:∃ kd:Str,atI [V.str "gate",.str "stop",.str "gate"] (mixed c (i:Int) % 3)=some (.str kd)∧(kd = "gate" ∨ kd = "stop"):=by
    have h0:=Int.emod_nonneg (mixed c (i:Int)) (show (3:Int) ≠ 0 by decide)
    have h1:=Int.emod_lt_of_pos (mixed c (i:Int)) (show (0:Int) < 3 by decide)
    generalize mixed c (i:Int) % 3=m at h0 h1
    have:m=0∨m=1∨m=2:=by omega
    rcases this with rfl | rfl | rfl
    ·exact ⟨"gate",rfl,.inl rfl⟩
    ·exact ⟨"stop",rfl,.inr rfl⟩
    ·exact ⟨"gate",rfl,.inl rfl⟩
   refine WSs.step (ps_expr (pe_bm PySem.F.plainAttrs_list PySem.F.slot_list_append PySem.F.type_list_append mt_append (pv 0) (pa_c (pe_tupS (pa_c (pe_ix (r:=rIx K) ix_seq (pe_lstS (pa_c pe_str (pa_c pe_str (pa_c pe_str pa_nil)))) (pe_op op_mod (pe_call (G__law_mixed T) hr rfl T.m__law_mixed T.d__law_mixed.F.kp T.d__law_mixed.b .nil pass0 (pa_c (pv 3) (pa_c (pv 4) pa_nil))) pe_int) (fun _ _=>rfl)) (pa_c (pv 6) pa_nil))) pa_nil))) ⟨_,rfl,.inl ⟨rfl,_,SqL.of (s3.at ht)⟩,sz (by simp),fun lk H4 s4 n4 e4=>⟨_,rfl,_,rfl,c,(i:Int),rfl,_,_,rfl,rfl,(by show (0:Int) < 3; decide),.inl ⟨lk,_,_,.str kd,rfl,rfl,SqL.of e4,hkd,_,rfl,sz (by simp),fun t5 H5 s5 n5 e5=>⟨pl,_,_,rfl,rfl,s5.at (s4.at (s3.at ht)),?_,?_⟩⟩⟩⟩
   ·rw [List.length_map]; exact small1000 (by omega)
   have s25:=s3.trans (s4.trans s5)
   have hpl5:=s25.at ht
   have hts5:Paired (PairAt H5) ts (ps ++ nps):=Paired.mapP hts fun _ _ r=>r.mono s25
   have hus5:Paired (JoinAt H5) us (js ++ njs):=Paired.mapP hus fun _ _ r=>r.mono s25
   have p6:Paired (PairAt (upd H5 pl (.lst (ts.map V.ref ++ [.ref t5])))) (ts ++ [t5]) ((ps ++ nps) ++ [(kd,endN i)]):=pairs_off (Paired.append hts5 (.cons e5 .nil)) hpl5
   have j6:=joins_off (o:=.lst (ts.map V.ref ++ [.ref t5])) hus5 hpl5
   have hu6:upd H5 pl (.lst (ts.map V.ref ++ [.ref t5])) jl=some (.lst (us.map V.ref)):=(upd_ne (Ne.symm n1)).trans (s25.at hu)
   have k6:∀ b o,b ≠ pl→b ≠ jl→H b=some o→upd H5 pl (.lst (ts.map V.ref ++ [.ref t5])) b=some o:=fun b o b1 b2 z=>(upd_ne b1).trans (s25.at (km b o b1 b2 z))
   have y6:PairAt (upd H5 pl (.lst (ts.map V.ref ++ [.ref t5]))) te y:=by
    have z:=hye2.mono s25
    unfold PairAt at z ⊢
    exact (upd_ne fun w=>by rw [w,hpl5] at z; cases z).trans z
   have e6:upd H5 pl (.lst (ts.map V.ref ++ [.ref t5])) pl=some (.lst ((ts ++ [t5]).map V.ref)):=by rw [upd_same,List.map_append]; rfl
   generalize (upd H5 pl (.lst (ts.map V.ref ++ [.ref t5])))=H6 at p6 j6 hu6 k6 y6 e6
   refine WSs.last (ps_expr (pe_bm PySem.F.plainAttrs_list PySem.F.slot_list_append PySem.F.type_list_append mt_append (pv 1) (pa_c (pe_tupS (pa_c (pv 5) (pa_c (pe_tupS (pa_c (pv 6) (pa_c pe_str pa_nil))) pa_nil))) pa_nil))) ⟨_,rfl,.inl ⟨rfl,_,SqL.of hu6⟩,_,rfl,_,rfl,sz (by simp),fun t7 H7 s7 n7 e7=>⟨sz (by simp),fun t8 H8 s8 n8 e8=>⟨jl,_,_,rfl,rfl,s8.at (s7.at hu6),?_,⟨_,_,_,rfl⟩,fun b o b1 b2 z=>?_,nps ++ [(kd,endN i)],njs ++ [(y,(endN i,("a" : Str)))],⟨ts ++ [t5],?_,?_⟩,⟨us ++ [t8],?_,?_⟩,hcl.more hkm hy⟩⟩⟩
   ·rw [List.length_map]; exact small1000 (by omega)
   ·exact (upd_ne b2).trans (s8.at (s7.at (k6 b o b1 b2 z)))
   ·exact (upd_ne n1).trans (s8.at (s7.at e6))
   ·rw [← List.append_assoc]
    exact pairs_off (Paired.mapP p6 fun _ _ r=>r.mono (s7.trans s8)) (s8.at (s7.at hu6))
   ·rw [upd_same,List.map_append]; rfl
   ·rw [← List.append_assoc]
    exact joins_off (Paired.append (Paired.mapP j6 fun _ _ r=>r.mono (s7.trans s8)) (.cons ⟨te,t7,e8,y6.mono (s7.trans s8),s8.at e7⟩ .nil)) (s8.at (s7.at hu6))
  ·rintro σ H2 ⟨⟨o4,o5,o6,rfl⟩,km,nps,njs,h1,h2,hcl⟩
   rw [List.length_map,lrs] at hcl
   exact q H2 nps njs km h1 h2 hcl
theorem G__law_closed (T:Tx K mg) {k:Nat} (h:2 ≤ k:=by decide):FnOk P w K mg base CX0 k T.d__law_closed.f T.d__law_closed.fd ["_law_parts", "_law_joins", "_law_rest", "_law_cell"] spClosed:=(ok__law_closed T).mono h
end
end K13
end
section
namespace K13
open PySem L2 NM YM
section
variable {P:Program} {w:World} {K:PySem.W.Frag} {mg:Str→Option Value} {base:Heap}
seal PySem.wpAny
def trP (q:EndT):Tr:=.tup [.str q.1,.str q.2]
theorem pairs_im {H:Hp} {ts:List Addr} {ps:List EndT} (h:Paired (PairAt H) ts ps):Paired (Im K H 1) (ps.map trP) (ts.map V.ref):=by
 induction h with
 | nil=>exact .nil
 | cons r _ ih=>exact .cons (Im.tup (SqT.of r) (.cons (.str _) (.cons (.str _) .nil))) ih
theorem PartsAt.im {H:Hp} {l:Addr} {ps:List EndT} (h:PartsAt H l ps):Im K H 2 (.lst (ps.map trP)) (.ref l):=let ⟨_,h1,h2⟩:=h; Im.lst (SqL.of h1) (pairs_im h2)
theorem comp_fresh {l D:Addr} {xs:List Str} {x:Str} {H1:Hp} {Q:VK} {σ:St} (hl:H1 l=some (.lst (xs.map V.str))) (hn:xs.length ≤ 100) (hD:H1 D=none) (q:∀ H',Same H1 H'→PartsAt H' D (xs.map fun e=>(x,e))→Q (.ref D) H') {fr:St→St} (hfr:fr σ=[none,some (.str x)]) {te:TE} (hte:te=tTupS (tCons (tVar 1) (tCons (tVar 0) tNil))) :
  CompW (Itl K l) fr (gName 0) tYes te Q σ H1 D:=by
 refine comp_list (xs:=xs.map V.str) (fun i ys H'=>(∃ ts:List Addr,ys=ts.map V.ref∧Paired (PairAt H') ts ((xs.take i).map fun e=>(x,e)))∧H' D=some (.lst ys)∧Same H1 H') ⟨⟨[],rfl,.nil⟩,upd_same,Same.new hD⟩ ?_ ?_ ?_
 ·rintro i ys H' _ ⟨_,_,sm⟩
  exact SqL.of (sm.at hl)
 ·rintro k v ys H' hk ⟨⟨ts,rfl,hts⟩,hD',sm⟩
  rw [List.getElem?_map] at hk
  obtain ⟨y,hy,rfl⟩:=Option.map_eq_some_iff.mp hk
  unfold CompT
  rw [hfr,hte]
  have hlen:ts.length ≤ 100:=by
   have:=Paired.length hts
   rw [List.length_map,List.length_take] at this
   omega
  refine ⟨Keep.set rfl,_,rfl,_,rfl,sz (by simp),fun t H2 s2 n2 e2=>⟨s2.at hD',by rw [List.length_map]; exact small1000 (by omega),⟨ts ++ [t],by rw [List.map_append]; rfl,?_⟩,upd_same,fun b o e=>?_⟩⟩
  ·rw [List.take_add_one,hy,List.map_append]
   exact pairs_off (Paired.append (Paired.mapP hts fun _ _ r=>r.mono s2) (.cons e2 .nil)) (s2.at hD')
  ·rw [upd_ne (ne_of_none e hD)]; exact s2.at (sm.at e)
 ·rintro ys H6 ⟨⟨ts,rfl,hts⟩,hD6,s6⟩
  rw [List.length_map,List.take_length] at hts
  exact q H6 s6 ⟨ts,hD6,hts⟩
theorem PairAt.offL {H:Hp} {c t:Addr} {o:HO} {xs:List V} {q:EndT} (h:PairAt H t q) (hc:H c=some (.lst xs)):PairAt (upd H c o) t q:=by
 unfold PairAt at h ⊢
 exact (upd_ne fun z=>by rw [z,hc] at h; cases h).trans h
theorem PartsAt.offL {H:Hp} {c l:Addr} {o:HO} {xs:List V} {ps:List EndT} (h:PartsAt H l ps) (hc:H c=some (.lst xs)) (ne:l ≠ c):PartsAt (upd H c o) l ps:=let ⟨ts,h1,h2⟩:=h; ⟨ts,(upd_ne ne).trans h1,pairs_off h2 hc⟩
theorem PartsAt.erased {H:Hp} {l:Addr} {ts:List Addr} {ps:List EndT} (h1:H l=some (.lst (ts.map V.ref))) (h2:Paired (PairAt H) ts ps) (k:Nat):PartsAt (upd H l (.lst ((ts.map V.ref).eraseIdx k))) l (ps.eraseIdx k):=⟨ts.eraseIdx k,by rw [upd_same,map_erase],pairs_off (paired_erase h2 k) h1⟩
theorem seq_nat {k n:Nat} (h:k < n):seqIndex? (k:Int) n=some k:=by
 unfold seqIndex?
 have h1:¬ (k:Int) < 0:=by omega
 simp only [h1,if_false]
 rw [if_pos (by simp; omega)]
 simp
theorem mod_nat {a:Int} {n:Nat} (h:0 < n):∃ k:Nat,a % (n:Int)=(k:Int)∧k < n:=by
 have h0:=Int.emod_nonneg a (show (n:Int) ≠ 0 by omega)
 have h1:=Int.emod_lt_of_pos a (show (0:Int) < n by omega)
 exact ⟨(a % (n:Int)).toNat,by omega,by omega⟩
theorem paired_drop {α β:Type} {R:α→β→Prop} {l₁:List α} {l₂:List β} (h:Paired R l₁ l₂) (n:Nat):Paired R (l₁.drop n) (l₂.drop n):=by
 induction n generalizing l₁ l₂ with
 | zero=>exact h
 | succ n ih =>
  cases h with
  | nil=>exact .nil
  | cons _ t=>exact ih t
theorem comp_pick {l D:Addr} {ts:List Addr} {qs:List EndT} {keep:EndT→Bool} {w:Option V} {H1:Hp} {Q:VK} {σ:St} (hl:H1 l=some (.lst (ts.map V.ref))) (hts:Paired (PairAt H1) ts qs) (hn:qs.length ≤ 100) (hD:H1 D=none) (q:∀ H',Same H1 H'→PartsAt H' D (qs.filter keep)→Q (.ref D) H') {fr:St→St} (hfr:fr σ=[none,w]) {tf:TT} (htf:∀ (t:Addr) (x:EndT) (H':Hp) (R:Bool→Hp→Prop),Same H1 H'→PairAt H' t x→x ∈ qs→R (keep x) H'→tf [some (.ref t),w] H' R) :
  CompW (Itl K l) fr (gName 0) tf (tVar 0) Q σ H1 D:=by
 have hln:=Paired.length hts
 refine comp_list (xs:=ts.map V.ref) (fun i ys H'=>(∃ ts':List Addr,ys=ts'.map V.ref∧Paired (PairAt H1) ts' ((qs.take i).filter keep))∧H' D=some (.lst ys)∧Same H1 H') ⟨⟨[],rfl,.nil⟩,upd_same,Same.new hD⟩ ?_ ?_ ?_
 ·rintro i ys H' _ ⟨_,_,sm⟩
  exact SqL.of (sm.at hl)
 ·rintro k v ys H' hk ⟨⟨ts',rfl,hs'⟩,hD',sm⟩
  rw [List.getElem?_map] at hk
  obtain ⟨t,ht,rfl⟩:=Option.map_eq_some_iff.mp hk
  obtain ⟨x,hx,r2⟩:=Paired.get hts ht
  unfold CompT
  rw [hfr]
  have hlen:ts'.length ≤ 100:=by
   rw [Paired.length hs']
   have:=List.length_filter_le keep (qs.take k)
   rw [List.length_take] at this
   omega
  refine ⟨Keep.set rfl,htf t x H' _ sm (r2.mono sm) (List.mem_of_getElem? hx) (ite2 (fun hc=>?_) (fun hc=>?_))⟩
  ·refine ⟨_,rfl,hD',by rw [List.length_map]; exact small1000 (by omega),⟨ts' ++ [t],by rw [List.map_append]; rfl,?_⟩,upd_same,fun b o e=>?_⟩
   ·rw [List.take_add_one,hx,List.filter_append]
    refine Paired.append hs' ?_
    rw [show (some x).toList=[x] from rfl,List.filter_cons,if_pos hc]
    exact .cons r2 .nil
   ·rw [upd_ne (ne_of_none e hD)]; exact sm.at e
  ·refine ⟨⟨ts',rfl,?_⟩,hD',sm⟩
   rw [List.take_add_one,hx,List.filter_append,show (some x).toList=[x] from rfl,List.filter_cons,if_neg hc,List.filter_nil,List.append_nil]
   exact hs'
 ·rintro ys H6 ⟨⟨ts',rfl,hs'⟩,hD6,s6⟩
  rw [List.length_map,hln,List.take_length] at hs'
  exact q H6 s6 ⟨ts',hD6,Paired.mapP hs' fun _ _ r=>r.mono s6⟩
def spDrawn (K:PySem.W.Frag):Sp:=fun vs H Q _=>∃ (cl:Addr) (cs:List Int),vs=[.ref cl]∧SqL K H cl (cs.map V.int)∧(∀ c ∈ cs,0 ≤ c)∧cs.length ≤ 63 ∧
 ∀ (t:Addr) (H':Hp) (pl jl:Addr) (ps:List EndT) (js:List (EndT×EndT)) (n:Nat),Same H H'→H' t=some (.tup [.ref pl,.ref jl])→PartsAt H' pl ps→JoinsAt H' jl js→H pl=none→H jl=none→Net ps js []→ps.length ≤ 39→(∀ p ∈ ps,nmD p.2 63∨∃ j,j < 90∧p.2=endN j)→Q (.ref t) H'
theorem ok__law_drawn (T:Tx K mg):FnOk P w K mg base CX0 3 T.d__law_drawn.f T.d__law_drawn.fd ["_law_cells_here"] (spDrawn K):=by
 refine T.d__law_drawn.F.okW sc__law_drawn (fun vs H Q E h=>?_) (fun cdv A outer s H vs Q E hr h=>?_)
 ·obtain ⟨cl,cs,rfl,_⟩:=h
  rfl
 ·obtain ⟨cl,cs,rfl,hcl,hcs,hcn,q⟩:=h
  refine WSs.step (ps_set (i:=1) sc__law_drawn.nd rfl (by first | exact Or.inl rfl | exact Or.inr rfl) (pe_lstS pa_nil)) ⟨sz (by simp),fun pl H1 s1 n1 e1=>?_⟩
  refine WSs.step (ps_set (i:=2) sc__law_drawn.nd rfl (by first | exact Or.inl rfl | exact Or.inr rfl) (pe_lstS pa_nil)) ⟨sz (by simp),fun jl H2 s2 n2 e2=>?_⟩
  refine WSs.step (ps_set (i:=3) sc__law_drawn.nd rfl (by first | exact Or.inl rfl | exact Or.inr rfl) (pe_lstS pa_nil)) ⟨sz (by simp),fun rl0 H3 s3 n3 e3=>?_⟩
  have s03:=s1.trans (s2.trans s3)
  have fp:H pl=none:=n1
  have fj:H jl=none:=s1.free n2
  have fr0:H rl0=none:=s1.free (s2.free n3)
  have npj:pl ≠ jl:=ne_of_none e1 n2
  have nrp:rl0 ≠ pl:=Ne.symm (ne_of_none (s2.at e1) n3)
  have nrj:rl0 ≠ jl:=Ne.symm (ne_of_none e2 n3)
  have hp0:PartsAt H3 pl []:=⟨[],s3.at (s2.at e1),.nil⟩
  have hj0:JoinsAt H3 jl []:=⟨[],s3.at e2,.nil⟩
  have hr0:PartsAt H3 rl0 []:=⟨[],e3,.nil⟩
  clear s1 s2 s3 n1 n2 n3 e1 e2 e3
  refine WSs.step (ps_for PassesOwn.never rfl (pi_enum rfl T.n_enumerate (pa_c (pv 0) pa_nil)) (pg_tup rfl (pgs_cons (pg_name (i:=4) sc__law_drawn.nd rfl (by first | exact Or.inl rfl | exact Or.inr rfl)) (pgs_cons (pg_name (i:=5) sc__law_drawn.nd rfl (by first | exact Or.inl rfl | exact Or.inr rfl)) pgs_nil))) pss_w) ⟨_,rfl,cl,rfl,⟨_,s03.seq hcl⟩,for_enum (xs:=cs.map V.int) (fun i σ H'=>Same H H'∧∃ rl o4 o5 o6 o7 o8 o9 o10 o11 ps js rest,σ=[some (.ref cl),some (.ref pl),some (.ref jl),some (.ref rl),o4,o5,o6,o7,o8,o9,o10,o11]∧PartsAt H' pl ps∧JoinsAt H' jl js∧PartsAt H' rl rest∧DrawnOk i (2 * i) ps js rest∧H rl=none∧rl ≠ pl∧rl ≠ jl)
   ⟨s03,rl0,none,none,none,none,none,none,none,none,_,_,_,rfl,hp0,hj0,hr0,DrawnOk.start,fr0,nrp,nrj⟩ ?_ ?_ ?_⟩
  ·rintro i σ H' _ ⟨sm,_⟩
   exact sm.seq hcl
  ·rintro i v σ H4 hi ⟨s4,rl,o4,o5,o6,o7,o8,o9,o10,o11,ps,js,rest,rfl,hpl,hjl,hrl,hok,frl,nrp',nrj'⟩ tp H5 s5 n5 e5
   rw [List.getElem?_map] at hi
   obtain ⟨c,hc,rfl⟩:=Option.map_eq_some_iff.mp hi
   have hi63:i < 63:=by
    have:=(List.getElem?_eq_some_iff.mp hc).1
    omega
   have hc0:0 ≤ c:=hcs c (List.mem_of_getElem? hc)
   refine ⟨tp,_,rfl,SqT.of e5,rfl,_,_,rfl,_,_,rfl,rfl,?_⟩
   obtain ⟨kd,hkd,hkm⟩:∃ kd:Str,atI [V.str "plain",.str "plain",.str "plain",.str "points",.str "points",.str "cross",.str "gate",.str "stop"] (c % 8)=some (.str kd)∧kd ∈ kinds:=by
    have h0:=Int.emod_nonneg c (show (8:Int) ≠ 0 by decide)
    have h1:=Int.emod_lt_of_pos c (show (0:Int) < 8 by decide)
    generalize c % 8=m at h0 h1
    have:m=0∨m=1∨m=2∨m=3∨m=4∨m=5∨m=6∨m=7:=by omega
    rcases this with rfl | rfl | rfl | rfl | rfl | rfl | rfl | rfl <;> exact ⟨_,rfl,by simp [kinds]⟩
   obtain ⟨g1,g2,g3,g4,g5,g6⟩:=kind_ok kd hkm
   refine WSs.step (ps_set (i:=6) sc__law_drawn.nd rfl (by first | exact Or.inl rfl | exact Or.inr rfl) (pe_ix (r:=rIx K) ix_seq (pe_lstS (pa_c pe_str (pa_c pe_str (pa_c pe_str (pa_c pe_str (pa_c pe_str (pa_c pe_str (pa_c pe_str (pa_c pe_str pa_nil))))))))) (pe_op op_mod (pv 5) pe_int) (fun _ _=>rfl))) ⟨sz (by simp),fun lk H6 s6 n6 e6=>⟨_,rfl,_,_,rfl,rfl,(by show (0:Int) < 8; decide),.inl ⟨lk,_,_,.str kd,rfl,rfl,SqL.of e6,hkd,?_⟩⟩⟩
   refine WSs.step (ps_set (i:=7) sc__law_drawn.nd rfl (by first | exact Or.inl rfl | exact Or.inr rfl) (pe_call (G__law_ends T) hr rfl T.m__law_ends T.d__law_ends.F.kp T.d__law_ends.b .nil pass0 (pa_c (pv 6) pa_nil))) ⟨_,rfl,kd,rfl,fun le H7 s7 n7 e7=>?_⟩
   have s47:=s5.trans (s6.trans s7)
   have s07:=s4.trans s47
   have nl1:pl ≠ le:=let ⟨_,z,_⟩:=hpl; ne_of_none ((s5.trans s6).at z) n7
   have nl2:jl ≠ le:=let ⟨_,z,_⟩:=hjl; ne_of_none ((s5.trans s6).at z) n7
   have hpl:=hpl.mono s47
   have hjl:=hjl.mono s47
   have hrl:=hrl.mono s47
   obtain ⟨ts,ht,hts⟩:=hpl
   obtain ⟨rs,hr',hrs⟩:=hrl
   have c1:=Paired.length hts
   have c2:=Paired.length hrs
   refine WSs.step (ps_if (pt_cmpR op_gt (pe_op oAdd (pe_op oAdd (pe_callB (r:=rLenX K) oLenX (by rfl) T.n_len PySem.boot_len (pa_c (pv 1) pa_nil)) (pe_callB (r:=rLenX K) oLenX (by rfl) T.n_len PySem.boot_len (pa_c (pv 3) pa_nil))) (pe_callB (r:=rLenX K) oLenX (by rfl) T.n_len PySem.boot_len (pa_c (pv 7) pa_nil))) pe_int (nomark _)) pss_w pss_nil) ⟨_,rfl,.inl ⟨pl,_,rfl,.inl (SqL.of ht),_,rfl,.inl ⟨rl,_,rfl,.inl (SqL.of hr'),.inl ⟨_,_,rfl,rfl,_,rfl,.inl ⟨le,_,rfl,.inl (SqL.of e7),.inl ⟨_,_,rfl,rfl,_,_,rfl,rfl,_,rfl,ite2 (fun hgt=>?_) (fun hgt=>?_)⟩⟩⟩⟩⟩⟩
   ·exact WSs.last ps_continue ⟨s07,rl,_,_,_,_,_,_,_,_,ps,js,rest,rfl,⟨ts,ht,hts⟩,hjl,⟨rs,hr',hrs⟩,hok.mono (by omega) (by omega),frl,nrp',nrj'⟩
   have hgt:ps.length + rest.length + (endsK kd).length ≤ 38:=by
    have z:¬ (((ts.map V.ref).length:Int) + ((rs.map V.ref).length:Int) + (((endsK kd).map V.str).length:Int) > 38):=fun z=>hgt (decide_eq_true z)
    rw [List.length_map,List.length_map,List.length_map] at z
    omega
   obtain ⟨n,hn⟩:∃ n,n=nameBy kd (c / 8) i:=⟨_,rfl⟩
   refine WSs.step (ps_set (i:=8) sc__law_drawn.nd rfl (by first | exact Or.inl rfl | exact Or.inr rfl) (pe_call (G__law_name_by T) hr rfl T.m__law_name_by T.d__law_name_by.F.kp T.d__law_name_by.b .nil pass0 (pa_c (pv 6) (pa_c (pe_op op_fdiv (pv 5) pe_int) (pa_c (pv 4) pa_nil))))) ⟨_,rfl,_,rfl,_,_,rfl,rfl,⟨by decide,by decide⟩,_,rfl,kd,c / 8,i,rfl,g3,by omega,Int.ediv_nonneg hc0 (by decide),by omega,?_⟩
   rw [← hn]
   refine WSs.step (ps_expr (pe_bm PySem.F.plainAttrs_list PySem.F.slot_list_append PySem.F.type_list_append mt_append (pv 1) (pa_c (pe_tupS (pa_c (pv 6) (pa_c (pv 8) pa_nil))) pa_nil))) ⟨_,rfl,.inl ⟨rfl,_,SqL.of ht⟩,_,rfl,_,rfl,sz (by simp),fun t8 H8 s8 n8 e8=>⟨pl,_,_,rfl,rfl,s8.at ht,?_,?_⟩⟩
   ·rw [List.length_map]; exact small1000 (by omega)
   have ok8:=hok.add (c:=c / 8) (by omega) hkm hgt
   rw [← hn] at ok8
   obtain ⟨us,hu,hus⟩:=hjl.mono s8
   have p9:PartsAt (upd H8 pl (.lst (ts.map V.ref ++ [.ref t8]))) pl (ps ++ [(kd,n)]):=⟨ts ++ [t8],by rw [upd_same,List.map_append]; rfl,pairs_off (Paired.append (Paired.mapP hts fun _ _ r=>r.mono s8) (.cons e8 .nil)) (s8.at ht)⟩
   have j9:JoinsAt (upd H8 pl (.lst (ts.map V.ref ++ [.ref t8]))) jl js:=⟨us,(upd_ne (Ne.symm npj)).trans hu,joins_off hus (s8.at ht)⟩
   have r9:PartsAt (upd H8 pl (.lst (ts.map V.ref ++ [.ref t8]))) rl rest:=⟨rs,(upd_ne nrp').trans (s8.at hr'),pairs_off (Paired.mapP hrs fun _ _ r=>r.mono s8) (s8.at ht)⟩
   have e9:upd H8 pl (.lst (ts.map V.ref ++ [.ref t8])) le=_:=(upd_ne (Ne.symm nl1)).trans (s8.at e7)
   have s09:Same H (upd H8 pl (.lst (ts.map V.ref ++ [.ref t8]))):=fun b o z=>(upd_ne (ne_of_none z fp)).trans (s8.at (s07.at z))
   generalize (upd H8 pl (.lst (ts.map V.ref ++ [.ref t8])))=H9 at p9 j9 r9 e9 s09
   have hok':=hok
   clear hts hrs ht hr' hu hus s8 s47 s07 hjl hok n8 e8
   refine WSs.step (ps_setComp (i:=9) (N':=["_law_end", "_law_name"]) sc__law_drawn.nd rfl (Or.inl rfl) rfl (CompScope.std 1 [8] rfl (by decide +kernel) (by decide +kernel) rfl ⟨rfl,trivial⟩ rfl rfl ⟨⟨_,rfl,rfl,rfl⟩,trivial⟩) (pi_list (pv 7)) (fun _ _ _ _=>(pg_name (i:=0) (by show (["_law_end", "_law_name"]:List Str).Nodup; decide +kernel) rfl (Or.inl (lookup_relabel_local rfl)) (Or.inr (lookup_relabel_local rfl)))) (fun _ _ _ _=>pf_nil) (fun _ _ _ _=>(pe_tupS (pa_c (pv 1) (pa_c (pv 0) pa_nil))))) ⟨_,rfl,le,rfl,⟨_,SqL.of e9⟩,fun lf hlf=>?_⟩
   refine comp_fresh (xs:=endsK kd) (x:=n) e9 (by omega) hlf (fun H10 s10 f10=>?qq) ?aa ?bb
   case aa=>rfl
   case bb=>rfl
   have p10:=p9.mono s10
   have j10:=j9.mono s10
   have r10:=r9.mono s10
   have s010:=s09.trans s10
   have flf:H lf=none:=s09.free hlf
   have nfp:lf ≠ pl:=let ⟨_,z,_⟩:=p9; Ne.symm (ne_of_none z hlf)
   have nfj:lf ≠ jl:=let ⟨_,z,_⟩:=j9; Ne.symm (ne_of_none z hlf)
   have nfr:lf ≠ rl:=let ⟨_,z,_⟩:=r9; Ne.symm (ne_of_none z hlf)
   clear p9 j9 r9 s09 e9 s10
   refine WSs.cut (fun σ H'=>Same H H'∧∃ rest' fresh' js',σ=[some (.ref cl),some (.ref pl),some (.ref jl),some (.ref rl),some (.int i),some (.int c),some (.str kd),some (.ref le),some (.str n),some (.ref lf),o10,o11]∧PartsAt H' pl (ps ++ [(kd,n)])∧JoinsAt H' jl js'∧PartsAt H' rl rest'∧PartsAt H' lf fresh'∧DrawnOk (i + 1) (2 * i + 1) (ps ++ [(kd,n)]) js' (rest' ++ fresh')) ?_ ?_
   ·refine WS.of (ps_if (pt_cmpR (r:=rNeY K) (oNeY hr) (pv 3) (pe_lstS pa_nil) (nomark _)) pss_w pss_nil) ⟨_,rfl,sz (by simp),fun l0 H11 s11 n11 e11=>.inr (.inl ⟨2,.lst (rest.map trP),.lst [],by decide,.inr ⟨_,_,rfl,rfl⟩,PartsAt.im (r10.mono s11),Im.lst (SqL.of e11) .nil,_,rfl,ite2 (fun hne=>?_) (fun hne=>?_)⟩)⟩
    ·have hne:0 < rest.length:=by
      cases rest with
      | nil=>simp at hne
      | cons=>simp
     obtain ⟨rs1,hr1,hrs1⟩:=r10.mono s11
     obtain ⟨fs1,hf1,hfs1⟩:=f10.mono s11
     obtain ⟨us1,hu1,hus1⟩:=j10.mono s11
     have cr:=Paired.length hrs1
     have cf:=Paired.length hfs1
     have cu:=Paired.length hus1
     rw [List.length_map] at cf
     have hjl1:=hok'.jl
     obtain ⟨k1,hk1,hk1l⟩:=mod_nat (a:=c / 24) (n:=(rs1.map V.ref).length) (by rw [List.length_map]; omega)
     obtain ⟨k2,hk2,hk2l⟩:=mod_nat (a:=c / 100) (n:=(fs1.map V.ref).length) (by rw [List.length_map]; omega)
     obtain ⟨ta,hta⟩:∃ ta,rs1[k1]? = some ta:=⟨_,List.getElem?_eq_getElem (by rw [List.length_map] at hk1l; exact hk1l)⟩
     obtain ⟨tb,htb⟩:∃ tb,fs1[k2]? = some tb:=⟨_,List.getElem?_eq_getElem (by rw [List.length_map] at hk2l; exact hk2l)⟩
     obtain ⟨qa,hqa,hqat⟩:=Paired.get hrs1 hta
     obtain ⟨qb,hqb,hqbt⟩:=Paired.get hfs1 htb
     refine WSs.last (ps_expr (pe_bm PySem.F.plainAttrs_list PySem.F.slot_list_append PySem.F.type_list_append mt_append (pv 2) (pa_c (pe_tupS (pa_c (pe_bm PySem.F.plainAttrs_list PySem.F.slot_list_pop PySem.F.type_list_pop mt_popAt (pv 3) (pa_c (pe_op op_mod (pe_op op_fdiv (pv 5) pe_int) (pe_callB (r:=rLenX K) oLenX (by rfl) T.n_len PySem.boot_len (pa_c (pv 3) pa_nil))) pa_nil)) (pa_c (pe_bm PySem.F.plainAttrs_list PySem.F.slot_list_pop PySem.F.type_list_pop mt_popAt (pv 9) (pa_c (pe_op op_mod (pe_op op_fdiv (pv 5) pe_int) (pe_callB (r:=rLenX K) oLenX (by rfl) T.n_len PySem.boot_len (pa_c (pv 9) pa_nil))) pa_nil)) pa_nil))) pa_nil))) ⟨_,rfl,.inl ⟨rfl,_,SqL.of hu1⟩,_,rfl,.inl ⟨rfl,_,SqL.of hr1⟩,_,rfl,_,_,rfl,rfl,⟨by decide,by decide⟩,_,rfl,.inl ⟨rl,_,rfl,.inl (SqL.of hr1),_,_,rfl,rfl,by omega,rl,_,_,k1,.ref ta,rfl,rfl,hr1,by omega,by rw [List.length_map] at hk1l; omega,by rw [hk1]; exact seq_nat hk1l,by rw [List.getElem?_map,hta]; rfl,?_⟩⟩
     have r12:=PartsAt.erased hr1 hrs1 k1
     have f12:=PartsAt.offL (o:=.lst ((rs1.map V.ref).eraseIdx k1)) ⟨fs1,hf1,hfs1⟩ hr1 nfr
     have p12:=(p10.mono s11).offL (o:=.lst ((rs1.map V.ref).eraseIdx k1)) hr1 (Ne.symm nrp')
     have hu12:upd H11 rl (.lst ((rs1.map V.ref).eraseIdx k1)) jl=_:=(upd_ne (Ne.symm nrj')).trans hu1
     have hus12:=joins_off (o:=.lst ((rs1.map V.ref).eraseIdx k1)) hus1 hr1
     have hf12:upd H11 rl (.lst ((rs1.map V.ref).eraseIdx k1)) lf=_:=(upd_ne nfr).trans hf1
     have hfs12:=pairs_off (o:=.lst ((rs1.map V.ref).eraseIdx k1)) hfs1 hr1
     have a12:=hqat.offL (o:=.lst ((rs1.map V.ref).eraseIdx k1)) hr1
     have b12:=hqbt.offL (o:=.lst ((rs1.map V.ref).eraseIdx k1)) hr1
     have s12:Same H (upd H11 rl (.lst ((rs1.map V.ref).eraseIdx k1))):=fun b o z=>(upd_ne (ne_of_none z frl)).trans (s11.at (s010.at z))
     generalize (upd H11 rl (.lst ((rs1.map V.ref).eraseIdx k1)))=H12 at r12 f12 p12 hu12 hus12 hf12 hfs12 a12 b12 s12
     refine ⟨_,rfl,.inl ⟨rfl,_,SqL.of hf12⟩,_,rfl,_,_,rfl,rfl,⟨by decide,by decide⟩,_,rfl,.inl ⟨lf,_,rfl,.inl (SqL.of hf12),_,_,rfl,rfl,by omega,lf,_,_,k2,.ref tb,rfl,rfl,hf12,by omega,by rw [List.length_map] at hk2l; omega,by rw [hk2]; exact seq_nat hk2l,by rw [List.getElem?_map,htb]; rfl,?_⟩⟩
     have f13:=PartsAt.erased hf12 hfs12 k2
     have r13:=r12.offL (o:=.lst ((fs1.map V.ref).eraseIdx k2)) hf12 (Ne.symm nfr)
     have p13:=p12.offL (o:=.lst ((fs1.map V.ref).eraseIdx k2)) hf12 (Ne.symm nfp)
     have hu13:upd H12 lf (.lst ((fs1.map V.ref).eraseIdx k2)) jl=_:=(upd_ne (Ne.symm nfj)).trans hu12
     have hus13:=joins_off (o:=.lst ((fs1.map V.ref).eraseIdx k2)) hus12 hf12
     have a13:=a12.offL (o:=.lst ((fs1.map V.ref).eraseIdx k2)) hf12
     have b13:=b12.offL (o:=.lst ((fs1.map V.ref).eraseIdx k2)) hf12
     have s13:Same H (upd H12 lf (.lst ((fs1.map V.ref).eraseIdx k2))):=fun b o z=>(upd_ne (ne_of_none z flf)).trans (s12.at z)
     generalize (upd H12 lf (.lst ((fs1.map V.ref).eraseIdx k2)))=H13 at f13 r13 p13 hu13 hus13 a13 b13 s13
     refine ⟨sz (by simp),fun tj H14 s14 n14 e14=>⟨jl,_,_,rfl,rfl,s14.at hu13,?_,?_⟩⟩
     ·rw [List.length_map]; exact small1000 (by omega)
     have hu14:=s14.at hu13
     have hqn:qb.1=n:=by
      rw [List.getElem?_map] at hqb
      obtain ⟨x,_,rfl⟩:=Option.map_eq_some_iff.mp hqb
      rfl
     have hqo:qa.1 ≠ qb.1:=by
      rw [hqn,hn]
      have h1:=end_part (hok'.net.perm.subset (List.mem_append_right _ (List.mem_of_getElem? hqa)))
      exact fun z=>hok'.new (by omega) hkm (z ▸ h1)
     refine ⟨fun b o z=>(upd_ne (ne_of_none z fj)).trans (s14.at (s13.at z)),rest.eraseIdx k1,_,js ++ [(qa,qb)],rfl,(p13.mono s14).offL hu14 npj,⟨us1 ++ [tj],?_,?_⟩,(r13.mono s14).offL hu14 nrj',(f13.mono s14).offL hu14 nfj,ok8.join (two_perm hqa hqb) hqo⟩
     ·rw [upd_same,List.map_append]; rfl
     ·exact joins_off (Paired.append (Paired.mapP hus13 fun _ _ r=>r.mono s14) (.cons ⟨ta,tb,e14,a13.mono s14,b13.mono s14⟩ .nil)) hu14
    ·exact ⟨s010.trans s11,rest,_,js,rfl,p10.mono s11,j10.mono s11,r10.mono s11,f10.mono s11,ok8.mono (Nat.le_refl _) (by omega)⟩
   rintro σ H12 ⟨s012,rest2,fresh2,js2,rfl,p12,j12,⟨rs2,hr12,hrs2⟩,⟨fs2,hf12,hfs2⟩,ok12⟩
   have sm12:=ok12.sum
   have cr:=Paired.length hrs2
   have cf:=Paired.length hfs2
   rw [List.length_append,List.length_append] at sm12
   refine WSs.step (ps_set (i:=3) sc__law_drawn.nd rfl (by first | exact Or.inl rfl | exact Or.inr rfl) (pe_op oAdd (pv 3) (pv 9))) ⟨_,rfl,_,rfl,.inr (.inr ⟨rl,lf,_,_,rfl,rfl,hr12,hf12,?_,fun rm H13 s13 n13 e13=>?_⟩)⟩
   ·rw [List.length_map,List.length_map]; exact sz (by omega)
   have r13:PartsAt H13 rm (rest2 ++ fresh2):=PartsAt.app (Paired.mapP hrs2 fun _ _ r=>r.mono s13) (Paired.mapP hfs2 fun _ _ r=>r.mono s13) e13
   have p13:=p12.mono s13
   have j13:=j12.mono s13
   have s013:=s012.trans s13
   have frm:H rm=none:=s012.free n13
   have nmp:rm ≠ pl:=let ⟨_,z,_⟩:=p12; Ne.symm (ne_of_none z n13)
   have nmj:rm ≠ jl:=let ⟨_,z,_⟩:=j12; Ne.symm (ne_of_none z n13)
   clear hr12 hf12 hrs2 hfs2 p12 j12 s012 s13 p10 j10 r10 f10 s010 e13
   obtain ⟨op,hop⟩:∃ op,op=rest2 ++ fresh2:=⟨_,rfl⟩
   rw [← hop] at r13 ok12
   have hopl:op.length ≤ 39:=by rw [hop,List.length_append]; omega
   clear hop sm12 cr cf
   obtain ⟨rs,hrm,hrs⟩:=r13
   have crs:=Paired.length hrs
   refine WSs.step (ps_setComp (i:=10) (N':=["_law_end", "_law_rest"]) sc__law_drawn.nd rfl (Or.inl rfl) rfl (CompScope.std 1 [3] rfl (by decide +kernel) (by decide +kernel) rfl ⟨rfl,trivial⟩ rfl rfl ⟨⟨_,rfl,rfl,rfl⟩,trivial⟩) (pi_list (pe_slice (r:=rSlX K) oSlX (pv 3) (po_some pe_int) po_none)) (fun _ _ _ _=>(pg_name (i:=0) (by show (["_law_end", "_law_rest"]:List Str).Nodup; decide +kernel) rfl (Or.inl (lookup_relabel_local rfl)) (Or.inr (lookup_relabel_local rfl)))) (fun _ _ _ _=>(pf_one (pt_cmpR (r:=rNeY K) (oNeY hr) (pe_ix (r:=rIx K) ix_seq (pv 0) pe_int (fun _ _=>rfl)) (pe_ix (r:=rIx K) ix_seq (pe_ix (r:=rIx K) ix_seq (pv 1) pe_int (fun _ _=>rfl)) pe_int (fun _ _=>rfl)) (nomark _)))) (fun _ _ _ _=>(pv 0))) ⟨_,rfl,_,rfl,.inr (.inl ⟨rm,_,rfl,SqL.of hrm,fun l1 H14 s14 n14 e14=>⟨l1,rfl,⟨_,SqL.of e14⟩,fun D hD=>?_⟩⟩)⟩
   rw [show (some (1:Int))=some ((1:Nat):Int) from rfl,cut_from,← List.map_drop] at e14
   have hrs14:Paired (PairAt H14) rs op:=Paired.mapP hrs fun _ _ r=>r.mono s14
   have hrm14:=s14.at hrm
   obtain ⟨q0,hq0⟩:∃ q0,q0=op.getD 0 ("", ""):=⟨_,rfl⟩
   refine comp_pick (keep:=fun x=>decide (x.1 ≠ q0.1)) (w:=some (.ref rm)) e14 (paired_drop hrs14 1) (by rw [List.length_drop]; omega) hD (fun H15 s15 f15=>?q2) ?a2 ?b2
   case a2=>rfl
   case b2 =>
    intro t x H' R sm hx hm hR
    cases hrs14 with
    | nil=>simp at hm
    | cons r0 _ =>
     subst hq0
     refine ⟨_,rfl,.inr (.inl ⟨t,_,_,_,rfl,rfl,SqT.of hx,rfl,_,rfl,.inl ⟨rm,_,_,_,rfl,rfl,SqL.of (sm.at hrm14),(show atI _ ((0:Nat):Int)=_ from atI_nat rfl),.inr (.inl ⟨_,_,_,_,rfl,rfl,SqT.of (sm.at r0),rfl,.inl ⟨rfl,_,rfl,?_⟩⟩)⟩⟩)⟩
     simpa using hR
   obtain ⟨near,hnear⟩:∃ near,near=(op.drop 1).filter fun x=>decide (x.1 ≠ q0.1):=⟨_,rfl⟩
   rw [← hnear] at f15
   have p15:=(p13.mono s14).mono s15
   have j15:=(j13.mono s14).mono s15
   have hrm15:=s15.at hrm14
   have hrs15:Paired (PairAt H15) rs op:=Paired.mapP hrs14 fun _ _ r=>r.mono s15
   have s015:=s013.trans (s14.trans s15)
   clear p13 j13 s013 s14 s15 hrm14 hrs14 hrm hrs e14
   refine WSs.last (ps_if (PW.pt (pw_and (pt_cmpR (r:=rNeY K) (oNeY hr) (pv 10) (pe_lstS pa_nil) (nomark _)) (pw_and1 (pt_cmpR (r:=rEqX K) (oEqX hr) (pe_op op_mod (pe_op op_fdiv (pv 5) pe_int) pe_int) pe_int (nomark _))))) pss_w pss_nil) ⟨_,rfl,sz (by simp),fun l0 H16 s16 n16 e16=>.inr (.inl ⟨2,.lst (near.map trP),.lst [],by decide,.inr ⟨_,_,rfl,rfl⟩,PartsAt.im (f15.mono s16),Im.lst (SqL.of e16) .nil,_,rfl,ite2 (fun hne=>?_) (fun hne=>?_)⟩)⟩
   ·refine ⟨_,rfl,_,_,rfl,rfl,⟨by decide,by decide⟩,_,_,rfl,rfl,(by show (0:Int) < 3; decide),.inl ⟨rfl,_,rfl,ite2 (fun _=>?_) (fun _=>?_)⟩⟩
    ·obtain ⟨ns,hnl,hns⟩:=f15.mono s16
     have cn:=Paired.length hns
     have hnl0:0 < near.length:=by
      cases near with
      | nil=>simp at hne
      | cons=>simp
     obtain ⟨k3,hk3,hk3l⟩:=mod_nat (a:=c / 1500) (n:=(ns.map V.ref).length) (by rw [List.length_map]; omega)
     obtain ⟨to,hto⟩:∃ to,ns[k3]? = some to:=⟨_,List.getElem?_eq_getElem (by rw [List.length_map] at hk3l; exact hk3l)⟩
     obtain ⟨q3,hq3,hq3t⟩:=Paired.get hns hto
     have hq3m:q3 ∈ near:=List.mem_of_getElem? hq3
     refine WSs.step (ps_set (i:=11) sc__law_drawn.nd rfl (by first | exact Or.inl rfl | exact Or.inr rfl) (pe_ix (r:=rIx K) ix_seq (pv 10) (pe_op op_mod (pe_op op_fdiv (pv 5) pe_int) (pe_callB (r:=rLenX K) oLenX (by rfl) T.n_len PySem.boot_len (pa_c (pv 10) pa_nil))) (fun _ _=>rfl))) ⟨_,rfl,_,rfl,_,_,rfl,rfl,⟨by decide,by decide⟩,_,rfl,.inl ⟨D,_,rfl,.inl (SqL.of hnl),_,_,rfl,rfl,by omega,.inl ⟨D,_,_,.ref to,rfl,rfl,SqL.of hnl,by rw [hk3]; exact atI_nat (by rw [List.getElem?_map,hto]; rfl),?_⟩⟩⟩
     obtain ⟨us,hu,hus⟩:=j15.mono s16
     have cu:=Paired.length hus
     have hju:=ok12.jl
     have hrm16:=s16.at hrm15
     have hrs16:Paired (PairAt H16) rs op:=Paired.mapP hrs15 fun _ _ r=>r.mono s16
     rw [hnear] at hq3m
     obtain ⟨hqd,hqk⟩:=List.mem_filter.mp hq3m
     have hqk:q3.1 ≠ q0.1:=of_decide_eq_true hqk
     obtain ⟨t0,rs',tl,rfl,rfl,r0,hrt⟩:∃ t0 rs' tl,rs=t0 :: rs'∧op=q0 :: tl∧PairAt H16 t0 q0∧Paired (PairAt H16) rs' tl:=by
      cases hrs16 with
      | nil=>simp at hqd
      | cons r0 rt=>exact ⟨_,_,_,rfl,by rw [hq0]; rfl,by rw [hq0]; exact r0,rt⟩
     have hqd:q3 ∈ tl:=hqd
     refine WSs.step (ps_expr (pe_bm PySem.F.plainAttrs_list PySem.F.slot_list_append PySem.F.type_list_append mt_append (pv 2) (pa_c (pe_tupS (pa_c (pv 11) (pa_c (pe_ix (r:=rIx K) ix_seq (pv 3) pe_int (fun _ _=>rfl)) pa_nil))) pa_nil))) ⟨_,rfl,.inl ⟨rfl,_,SqL.of hu⟩,_,rfl,_,rfl,.inl ⟨rm,_,_,.ref t0,rfl,rfl,SqL.of hrm16,(show atI _ ((0:Nat):Int)=_ from atI_nat rfl),sz (by simp),fun tj H17 s17 n17 e17=>⟨jl,_,_,rfl,rfl,s17.at hu,?_,?_⟩⟩⟩
     ·rw [List.length_map]; exact small1000 (by omega)
     have hu17:=s17.at hu
     have j18:JoinsAt (upd H17 jl (.lst (us.map V.ref ++ [.ref tj]))) jl (js2 ++ [(q3,q0)]):=⟨us ++ [tj],by rw [upd_same,List.map_append]; rfl,joins_off (Paired.append (Paired.mapP hus fun _ _ r=>r.mono s17) (.cons ⟨to,t0,e17,hq3t.mono s17,r0.mono s17⟩ .nil)) hu17⟩
     have p18:=((p15.mono s16).mono s17).offL (o:=.lst (us.map V.ref ++ [.ref tj])) hu17 npj
     have hrm18:upd H17 jl (.lst (us.map V.ref ++ [.ref tj])) rm=_:=(upd_ne nmj).trans (s17.at hrm16)
     have hrt18:=pairs_off (o:=.lst (us.map V.ref ++ [.ref tj])) (Paired.mapP hrt fun _ _ r=>r.mono s17) hu17
     have q18:=(hq3t.mono s17).offL (o:=.lst (us.map V.ref ++ [.ref tj])) hu17
     have s18:Same H (upd H17 jl (.lst (us.map V.ref ++ [.ref tj]))):=fun b o z=>(upd_ne (ne_of_none z fj)).trans (s17.at (s16.at (s015.at z)))
     generalize (upd H17 jl (.lst (us.map V.ref ++ [.ref tj])))=H18 at j18 p18 hrm18 hrt18 q18 s18
     refine WSs.last (ps_set (i:=3) sc__law_drawn.nd rfl (by first | exact Or.inl rfl | exact Or.inr rfl) (pe_comp (N':=["_law_end", "_law_other"]) rfl (CompScope.std 1 [11] rfl (by decide +kernel) (by decide +kernel) rfl ⟨rfl,trivial⟩ rfl rfl ⟨⟨_,rfl,rfl,rfl⟩,trivial⟩) (pi_list (pe_slice (r:=rSlX K) oSlX (pv 3) (po_some pe_int) po_none)) (fun _ _ _ _=>(pg_name (i:=0) (by show (["_law_end", "_law_other"]:List Str).Nodup; decide +kernel) rfl (Or.inl (lookup_relabel_local rfl)) (Or.inr (lookup_relabel_local rfl)))) (fun _ _ _ _=>(pf_one (pt_cmpR (r:=rNeY K) (oNeY hr) (pv 0) (pv 1) (nomark _)))) (fun _ _ _ _=>(pv 0)))) ⟨_,rfl,_,rfl,.inr (.inl ⟨rm,_,rfl,SqL.of hrm18,fun l2 H19 s19 n19 e19=>⟨l2,rfl,⟨_,SqL.of e19⟩,fun D2 hD2=>?_⟩⟩)⟩
     rw [show (some (1:Int))=some ((1:Nat):Int) from rfl,cut_from,← List.map_drop] at e19
     have q19:=q18.mono s19
     refine comp_pick (ts:=rs') (qs:=tl) (keep:=fun x=>decide (x ≠ q3)) (w:=some (.ref to)) e19 (Paired.mapP hrt18 fun _ _ r=>r.mono s19) (by simp at hopl; omega) hD2 (fun H20 s20 f20=>?q4) ?a4 ?b4
     case a4=>rfl
     case b4 =>
      intro t x H' R sm hx hm hR
      refine ⟨_,rfl,_,rfl,.inr (.inl ⟨1,trP x,trP q3,by decide,.inl ⟨_,_,rfl,rfl⟩,Im.tup (SqT.of hx) (.cons (.str _) (.cons (.str _) .nil)),Im.tup (SqT.of (q19.mono sm)) (.cons (.str _) (.cons (.str _) .nil)),_,rfl,?_⟩)⟩
      have:(!decide (trP x=trP q3))=decide (x ≠ q3):=by
       rw [Bool.eq_iff_iff]
       simp [trP,Prod.ext_iff]
      rw [if_pos rfl,this]
      exact hR
     have s1820:=s19.trans s20
     exact ⟨s18.trans s1820,D2,_,_,_,_,_,_,_,_,_,_,_,rfl,p18.mono s1820,j18.mono s1820,f20,(ok12.join (near_perm ok12.net.ond hqd) hqk).mono (by omega) (by omega),(s18.trans s19).free hD2,(let ⟨_,z,_⟩:=p18; Ne.symm (ne_of_none (s19.at z) hD2)),(let ⟨_,z,_⟩:=j18; Ne.symm (ne_of_none (s19.at z) hD2))⟩
    ·exact ⟨s015.trans s16,rm,_,_,_,_,_,_,_,_,_,_,_,rfl,p15.mono s16,j15.mono s16,⟨rs,s16.at hrm15,Paired.mapP hrs15 fun _ _ r=>r.mono s16⟩,ok12.mono (by omega) (by omega),frm,nmp,nmj⟩
   ·exact ⟨s015.trans s16,rm,_,_,_,_,_,_,_,_,_,_,_,rfl,p15.mono s16,j15.mono s16,⟨rs,s16.at hrm15,Paired.mapP hrs15 fun _ _ r=>r.mono s16⟩,ok12.mono (by omega) (by omega),frm,nmp,nmj⟩
  ·rintro σ H4 ⟨s4,rl,o4,o5,o6,o7,o8,o9,o10,o11,ps,js,rest,rfl,hpl,hjl,hrl,hok,frl,nrp',nrj'⟩
   rw [List.length_map] at hok
   have hsm:=hok.sum
   have hjb:=hok.jl
   refine WSs.step (ps_expr (pe_call (G__law_closed T) hr rfl T.m__law_closed T.d__law_closed.F.kp T.d__law_closed.b .nil pass0 (pa_c (pv 1) (pa_c (pv 2) (pa_c (pv 3) (pa_c (pe_callB (call_sum rfl) (by rfl) T.n_sum PyProof.Rows.boot_sum (pa_c (pv 0) pa_nil)) pa_nil)))))) ⟨_,rfl,_,rfl,_,rfl,_,rfl,cl,cs,rfl,s4.seq hcl,pl,jl,rl,sumL cs,ps,js,rest,rfl,hpl,hjl,hrl,npj,nrp',nrj',by omega,by omega,by omega,fun H5 nps njs km hp5 hj5 hcl5=>?_⟩
   have hnet:=hok.done (by omega) hcl5
   have hnl:nps.length=rest.length:=by obtain ⟨ks,hk1,hk2,hk3,hk4⟩:=hcl5; rw [hk3,List.length_map,List.length_range]
   refine WSs.last (ps_ret (pe_tupS (pa_c (pv 1) (pa_c (pv 2) pa_nil)))) ⟨_,rfl,_,rfl,sz (by simp),fun t H6 s6 n6 e6=>q t H6 pl jl _ _ 0 (fun b o z=>s6.at (km b o (ne_of_none z fp) (ne_of_none z fj) (s4.at z))) e6 (hp5.mono s6) (hj5.mono s6) fp fj hnet ?_ ?_⟩
   ·rw [List.length_append]; omega
   ·intro p hp
    rcases List.mem_append.mp hp with z | z
    ·obtain ⟨kd,h1,c,k,h2,h3⟩:=hok.nm p z
     exact .inl ⟨kd,h1,c,k,by omega,h3⟩
    ·obtain ⟨ks,hk1,hk2,hk3,hk4⟩:=hcl5
     rw [hk3] at z
     obtain ⟨j,hj,rfl⟩:=List.mem_map.mp z
     exact .inr ⟨j,by have:=List.mem_range.mp hj; omega,rfl⟩
theorem G__law_drawn (T:Tx K mg) {k:Nat} (h:3 ≤ k:=by decide):FnOk P w K mg base CX0 k T.d__law_drawn.f T.d__law_drawn.fd ["_law_cells_here"] (spDrawn K):=(ok__law_drawn T).mono h
end
end K13
end
section
namespace K13
open PySem L2 NM YM
section
variable {P:Program} {w:World} {K:PySem.W.Frag} {mg:Str→Option Value} {base:Heap}
seal PySem.wpAny
def sigN (n k:Nat):Str:=("s" : Str) ++ Str.ofString (toString (n:Int)) ++ (⟨#[letL.getD (k / 26) 0]⟩:Str) ++ (⟨#[letL.getD (k % 26) 0]⟩:Str)
theorem let_at:∀ i < 26,letL.getD i 0=97 + i:=by decide
theorem sigN_list (n k:Nat):(sigN n k).cps.toList=(("s" : Str) ++ Str.ofString (toString (n:Int))).cps.toList ++ [letL.getD (k / 26) 0] ++ [letL.getD (k % 26) 0]:=by
 unfold sigN
 rw [PySem.W.KT.app_list,PySem.W.KT.app_list]
theorem sigN_inj {n n' k k':Nat} (hk:k < 600) (hk':k' < 600) (h:sigN n k=sigN n' k'):k=k':=by
 have:=congrArg (fun s:Str=>s.cps.toList) h
 simp only [sigN_list] at this
 obtain ⟨h1,h2⟩:=List.append_inj' this rfl
 obtain ⟨_,h3⟩:=List.append_inj' h1 rfl
 rw [List.cons.injEq] at h2 h3
 rw [let_at _ (by omega),let_at _ (by omega)] at h2 h3
 omega
def SigAt (H:Hp) (t:Addr) (q:Str×Str×Str):Prop:=H t=some (.tup [.str q.1,.str q.2.1,.str q.2.2])
def SigsAt (H:Hp) (l:Addr) (sg:List (Str×Str×Str)):Prop:=∃ ts:List Addr,H l=some (.lst (ts.map V.ref))∧Paired (SigAt H) ts sg
def bearE (ps:List EndT):List EndT:=ps.flatMap fun p=>if p.1 ∈ [("plain" : Str), "gate", "stop"] then (endsK p.1).map (fun x=>(p.2,x)) else []
theorem bearE_snoc (ps:List EndT) (p:EndT):bearE (ps ++ [p])=bearE ps ++ (if p.1 ∈ [("plain" : Str), "gate", "stop"] then (endsK p.1).map (fun x=>(p.2,x)) else []):=by
 unfold bearE
 rw [List.flatMap_append]
 simp
structure SigOk (es:List EndT) (i:Nat) (sg:List (Str×Str×Str)):Prop where
 at_:(sg.map fun q=>((q.2.1,q.2.2):EndT)).Sublist (es.take i)
 name:∀ q ∈ sg,q.1=q.2.1∨∃ n k,n < 99∧k < i∧q.1=sigN n k
 nd:(sg.map Prod.fst).Nodup
 len:sg.length ≤ 40
theorem SigOk.skip {es:List EndT} {i:Nat} {sg:List (Str×Str×Str)} (h:SigOk es i sg):SigOk es (i + 1) sg:=by
 refine ⟨h.at_.trans ?_,fun q hq=>?_,h.nd,h.len⟩
 ·rw [List.take_add_one]; exact List.sublist_append_left _ _
 ·rcases h.name q hq with z | ⟨n,k,a,b,c⟩
  ·exact .inl z
  ·exact .inr ⟨n,k,a,by omega,c⟩
theorem SigOk.add {es:List EndT} {i:Nat} {sg:List (Str×Str×Str)} {e:EndT} {nm:Str} (h:SigOk es i sg) (he:es[i]? = some e) (hn:nm=e.1∨∃ n,n < 99∧nm=sigN n i) (hnew:nm ∉ sg.map Prod.fst) (hl:sg.length < 40):SigOk es (i + 1) (sg ++ [(nm,e.1,e.2)]):=by
 refine ⟨?_,fun q hq=>?_,?_,by rw [List.length_append]; simp; omega⟩
 ·rw [List.take_add_one,he,List.map_append]
  exact List.Sublist.append h.at_ (List.Sublist.refl _)
 ·rcases List.mem_append.mp hq with z | z
  ·exact h.skip.name q z
  ·rw [List.mem_singleton] at z
   subst z
   rcases hn with y | ⟨n,a,b⟩
   ·exact .inl y
   ·exact .inr ⟨n,i,a,by omega,b⟩
 ·rw [List.map_append,List.nodup_append]
  refine ⟨h.nd,by simp,fun a ha b hb z=>?_⟩
  simp at hb
  exact hnew (by rw [← hb,← z]; exact ha)
theorem SigOk.fresh {es:List EndT} {i n:Nat} {sg:List (Str×Str×Str)} (h:SigOk es i sg) (hi:i < 600) (hne:∀ n k e,e ∈ es→n < 99→k < 600→e.1 ≠ sigN n k) (hn:n < 99):sigN n i ∉ sg.map Prod.fst:=fun hm=>by
 obtain ⟨q,hq,e⟩:=List.mem_map.mp hm
 rcases h.name q hq with z | ⟨n',k,a,b,c⟩
 ·have:((q.2.1,q.2.2):EndT) ∈ es:=List.mem_of_mem_take (h.at_.subset (List.mem_map.mpr ⟨q,hq,rfl⟩))
  exact hne n i _ this hn hi (z.symm.trans e)
 ·have:=sigN_inj hi (by omega) (e.symm.trans c)
  omega
end
end K13
end
section
namespace K13
open PySem L2 NM YM
section
variable {P:Program} {w:World} {K:PySem.W.Frag} {mg:Str→Option Value} {base:Heap}
seal PySem.wpAny
theorem SigsAt.mono {H H':Hp} {l:Addr} {sg:List (Str×Str×Str)} (e:Same H H') (h:SigsAt H l sg):SigsAt H' l sg:=let ⟨ts,h1,h2⟩:=h; ⟨ts,e.at h1,Paired.mapP h2 fun _ _ r=>e.at r⟩
def spSig (K:PySem.W.Frag):Sp:=fun vs H Q _=>∃ (pl:Addr) (c:Int) (ps:List EndT),vs=[.ref pl,.int c]∧PartsAt H pl ps∧ps.length ≤ 45∧(∀ n k e,e ∈ bearE ps→n < 99→k < 600→e.1 ≠ sigN n k) ∧
 ∀ (l:Addr) (H':Hp) (sg:List (Str×Str×Str)),Same H H'→H l=none→SigsAt H' l sg→SigOk (bearE ps) (bearE ps).length sg→Q (.ref l) H'
theorem ends_le (k:Str):(endsK k).length ≤ 4:=by
 unfold endsK
 split
 ·decide
 ·split
  ·decide
  ·split <;> decide
theorem bearE_le:∀ ps:List EndT,(bearE ps).length ≤ 4 * ps.length
 | []=>by simp [bearE]
 | p :: ps=>by
  have:=bearE_le ps
  have h2:=ends_le p.1
  rw [show bearE (p :: ps)=(if p.1 ∈ [("plain" : Str), "gate", "stop"] then (endsK p.1).map (fun x=>((p.2,x):EndT)) else []) ++ bearE ps from rfl,List.length_append,List.length_cons]
  split
  ·rw [List.length_map]; omega
  ·simp; omega
theorem comp_first {l D:Addr} {gs:List Addr} {sg:List (Str×Str×Str)} {H1:Hp} {Q:VK} {σ:St} (hl:H1 l=some (.lst (gs.map V.ref))) (hg:Paired (SigAt H1) gs sg) (hn:sg.length ≤ 100) (hD:H1 D=none) (q:∀ H',Same H1 H'→H' D=some (.lst ((sg.map Prod.fst).map V.str))→Q (.ref D) H') {fr:St→St} (hfr:fr σ=[none]) {te:TE} (hte:te=tOp (rIx K) (tVar 0) (tC (.int 0))) :
  CompW (Itl K l) fr (gName 0) tYes te Q σ H1 D:=by
 refine comp_list (xs:=gs.map V.ref) (fun i ys H'=>ys=((sg.take i).map Prod.fst).map V.str∧H' D=some (.lst ys)∧Same H1 H') ⟨rfl,upd_same,Same.new hD⟩ ?_ ?_ ?_
 ·rintro i ys H' _ ⟨_,_,sm⟩
  exact SqL.of (sm.at hl)
 ·rintro k v ys H' hk ⟨rfl,hD',sm⟩
  rw [List.getElem?_map] at hk
  obtain ⟨t,ht,rfl⟩:=Option.map_eq_some_iff.mp hk
  obtain ⟨g,hs,r2⟩:=Paired.get hg ht
  unfold CompT
  rw [hfr,hte]
  refine ⟨Keep.set rfl,_,rfl,.inr (.inl ⟨t,_,_,.str g.1,rfl,rfl,SqT.of (sm.at r2),rfl,hD',?_,?_,upd_same,fun b o z=>?_⟩)⟩
  ·rw [List.length_map,List.length_map,List.length_take]; exact small1000 (by omega)
  ·rw [List.take_add_one,hs,List.map_append,List.map_append]; rfl
  ·rw [upd_ne (ne_of_none z hD)]; exact sm.at z
 ·rintro ys H6 ⟨rfl,hD6,s6⟩
  refine q H6 s6 ?_
  rw [hD6,List.length_map,Paired.length hg,List.take_length]
theorem figs_le:∀ n < 99,(Str.ofString (toString ((n:Nat):Int))).length ≤ 2:=by decide +kernel
theorem figs_lg:∀ n < 99,(((n:Nat):Int).natAbs).log2 < 1920:=by decide +kernel
theorem ok__law_signals_by (T:Tx K mg):FnOk P w K mg base CX0 2 T.d__law_signals_by.f T.d__law_signals_by.fd ["_law_parts", "_law_cell"] (spSig K):=by
 refine T.d__law_signals_by.F.okW sc__law_signals_by (fun vs H Q E h=>?_) (fun cdv A outer s H vs Q E hr h=>?_)
 ·obtain ⟨pl,c,ps,rfl,_⟩:=h
  rfl
 ·obtain ⟨pl,c,ps,rfl,⟨ts,hts,hps⟩,hpl,hne,q⟩:=h
  have htl:ts.length=ps.length:=Paired.length hps
  refine WSs.step (ps_set (i:=2) sc__law_signals_by.nd rfl (by first | exact Or.inl rfl | exact Or.inr rfl) pe_str) ?_
  refine WSs.step (ps_set (i:=3) sc__law_signals_by.nd rfl (by first | exact Or.inl rfl | exact Or.inr rfl) (pe_lstS pa_nil)) ⟨sz (by simp),fun l0 H1 s1 n1 e1=>?_⟩
  refine WSs.step (ps_for PassesOwn.never rfl (pi_list (pv 0)) (pg_tup rfl (pgs_cons (pg_name (i:=4) sc__law_signals_by.nd rfl (by first | exact Or.inl rfl | exact Or.inr rfl)) (pgs_cons (pg_name (i:=5) sc__law_signals_by.nd rfl (by first | exact Or.inl rfl | exact Or.inr rfl)) pgs_nil))) pss_w) ⟨_,rfl,pl,rfl,⟨_,SqL.of (s1.at hts)⟩,for_list (xs:=ts.map V.ref) (fun i σ H'=>∃ le,(∃ o4 o5 o6,σ=[some (.ref pl),some (.int c),some (.str "abcdefghijklmnopqrstuvwxyz"),some (.ref le),o4,o5,o6,none,none,none])∧Same H H'∧PartsAt H' le (bearE (ps.take i))) ⟨l0,⟨none,none,none,rfl⟩,s1,[],e1,.nil⟩ ?_ ?_ ?_⟩
  ·rintro i σ H' _ ⟨_,_,sm,_⟩
   exact SqL.of (sm.at hts)
  ·rintro i v σ H2 hi ⟨le,⟨o4,o5,o6,rfl⟩,s2,us,hle,hus⟩
   rw [List.getElem?_map] at hi
   obtain ⟨t,ht,rfl⟩:=Option.map_eq_some_iff.mp hi
   obtain ⟨p,hp,rp⟩:=Paired.get hps ht
   have hil:i < ts.length:=(List.getElem?_eq_some_iff.mp ht).1
   have hbl:=bearE_le (ps.take i)
   rw [List.length_take] at hbl
   have hul:us.length=(bearE (ps.take i)).length:=Paired.length hus
   have nxt:bearE (ps.take (i + 1))=bearE (ps.take i) ++ (if p.1 ∈ [("plain" : Str), "gate", "stop"] then (endsK p.1).map (fun x=>((p.2,x):EndT)) else []):=by
    rw [List.take_add_one,hp]; exact bearE_snoc _ _
   refine ⟨t,_,rfl,SqT.of (s2.at rp),rfl,_,_,rfl,_,_,rfl,rfl,?_⟩
   refine WSs.last (ps_if (pt_cmpR (r:=rInY K) (oInY hr) (pv 4) (pe_lstS (pa_c pe_str (pa_c pe_str (pa_c pe_str pa_nil)))) (by with_unfolding_all rfl)) pss_w pss_nil) ⟨_,rfl,sz (by simp),fun lk H3 s3 n3 e3=>.inl ⟨lk,_,rfl,.inl (SqL.of e3),rfl,rfl,_,rfl,?_⟩⟩
   rw [if_neg Bool.false_ne_true,show inV (.str p.1) [.str "plain",.str "gate",.str "stop"]=decide (p.1 ∈ [("plain" : Str), "gate", "stop"]) from inV_strs p.1 ["plain", "gate", "stop"]]
   refine ite2 (fun hc=>?_) (fun hc=>⟨le,⟨_,_,_,rfl⟩,s2.trans s3,?_⟩)
   ·have hc:=of_decide_eq_true hc
    rw [if_pos hc] at nxt
    refine WSs.last (ps_set (i:=3) sc__law_signals_by.nd rfl (by first | exact Or.inl rfl | exact Or.inr rfl) (pe_op oAdd (pv 3) (pe_comp (N':=["_law_end", "_law_name"]) rfl (CompScope.std 1 [5] rfl (by decide +kernel) (by decide +kernel) rfl ⟨rfl,trivial⟩ rfl rfl ⟨⟨_,rfl,rfl,rfl⟩,trivial⟩) (pi_list (pe_call (G__law_ends T) hr rfl T.m__law_ends T.d__law_ends.F.kp T.d__law_ends.b .nil pass0 (pa_c (pv 4) pa_nil))) (fun _ _ _ _=>(pg_name (i:=0) (by show (["_law_end", "_law_name"]:List Str).Nodup; decide +kernel) rfl (Or.inl (lookup_relabel_local rfl)) (Or.inr (lookup_relabel_local rfl)))) (fun _ _ _ _=>pf_nil) (fun _ _ _ _=>(pe_tupS (pa_c (pv 1) (pa_c (pv 0) pa_nil))))))) ⟨_,rfl,_,rfl,p.1,rfl,fun lp H4 s4 n4 e4=>⟨lp,rfl,⟨_,SqL.of e4⟩,fun D hD=>?_⟩⟩
    have hel:=ends_le p.1
    refine comp_fresh (xs:=endsK p.1) (x:=p.2) e4 (by omega) hD (fun H5 s5 f5=>?qq) ?aa ?bb
    case aa=>rfl
    case bb=>rfl
    case qq =>
     obtain ⟨vs,hv,hvs⟩:=f5
     have hvl:vs.length=(endsK p.1).length:=by rw [Paired.length hvs,List.length_map]
     have s35:=s3.trans (s4.trans s5)
     refine .inr (.inr ⟨le,D,_,_,rfl,rfl,s35.at hle,hv,by rw [List.length_map,List.length_map]; exact sz (by omega),fun ln H6 s6 n6 e6=>⟨ln,⟨_,_,_,rfl⟩,s2.trans (s35.trans s6),?_⟩⟩)
     rw [nxt]
     exact ⟨us ++ vs,by rw [e6,List.map_append],Paired.append (Paired.mapP hus fun _ _ r=>(s35.trans s6).at r) (Paired.mapP hvs fun _ _ r=>s6.at r)⟩
   ·have hc:¬ p.1 ∈ [("plain" : Str), "gate", "stop"]:=fun z=>hc (decide_eq_true z)
    rw [nxt,if_neg hc,List.append_nil]
    exact PartsAt.mono s3 ⟨us,hle,hus⟩
  rintro σ H2 ⟨le,⟨o4,o5,o6,rfl⟩,s2,hE⟩
  rw [List.length_map,htl,List.take_length] at hE
  obtain ⟨us,hle,hus⟩:=hE
  have hbl:=bearE_le ps
  have hul:us.length=(bearE ps).length:=Paired.length hus
  obtain ⟨es,hes⟩:∃ es,es=bearE ps:=⟨_,rfl⟩
  rw [← hes] at hus hul hne q hbl
  refine WSs.step (ps_set (i:=7) sc__law_signals_by.nd rfl (by first | exact Or.inl rfl | exact Or.inr rfl) (pe_lstS pa_nil)) ⟨sz (by simp),fun lf H3 s3 n3 e3=>?_⟩
  refine WSs.step (ps_for PassesOwn.never rfl (pi_enum rfl T.n_enumerate (pa_c (pv 3) pa_nil)) (pg_tup rfl (pgs_cons (pg_name (i:=8) sc__law_signals_by.nd rfl (by first | exact Or.inl rfl | exact Or.inr rfl)) (pgs_cons (pg_name (i:=6) sc__law_signals_by.nd rfl (by first | exact Or.inl rfl | exact Or.inr rfl)) pgs_nil))) pss_w) ⟨_,rfl,le,rfl,⟨_,SqL.of (s3.at hle)⟩,for_enum (xs:=us.map V.ref) (fun i σ H'=>(∃ o5 o6 o8 o9,σ=[some (.ref pl),some (.int c),some (.str "abcdefghijklmnopqrstuvwxyz"),some (.ref le),o4,o5,o6,some (.ref lf),o8,o9])∧Same H2 H'∧∃ sg,SigsAt H' lf sg∧SigOk es i sg) ⟨⟨_,_,none,none,rfl⟩,s3,[],⟨[],e3,.nil⟩,⟨List.nil_sublist _,(fun _ z=>nomatch z),List.nodup_nil,Nat.zero_le _⟩⟩ ?_ ?_ ?_⟩
  ·rintro i σ H' _ ⟨_,sm,_⟩
   exact SqL.of (sm.at hle)
  ·rintro i x' σ H4 hi ⟨⟨o5',o6',o8,o9,rfl⟩,s4,sg,hsg,ok⟩ p H5 s5 n5 e5
   rw [List.getElem?_map] at hi
   obtain ⟨te,hte,rfl⟩:=Option.map_eq_some_iff.mp hi
   obtain ⟨e,he,re⟩:=Paired.get hus hte
   have hil:i < us.length:=(List.getElem?_eq_some_iff.mp hte).1
   have hi600:i < 600:=by omega
   refine ⟨p,_,rfl,SqT.of e5,rfl,_,_,rfl,_,_,rfl,rfl,?_⟩
   have re5:PairAt H5 te e:=s5.at (s4.at re)
   obtain ⟨gs,hlf,hgs⟩:=hsg.mono s5
   have hgl:gs.length=sg.length:=Paired.length hgs
   have s25:=s4.trans s5
   refine WSs.step (ps_set (i:=9) sc__law_signals_by.nd rfl (by first | exact Or.inl rfl | exact Or.inr rfl) (pe_call (G__law_mixed T) hr rfl T.m__law_mixed T.d__law_mixed.F.kp T.d__law_mixed.b .nil pass0 (pa_c (pv 1) (pa_c (pv 8) pa_nil)))) ⟨_,rfl,_,rfl,c,_,rfl,?_⟩
   generalize mixed c ((i:Nat):Int)=dr
   have skip:∃ sg,SigsAt H5 lf sg∧SigOk es (i + 1) sg:=⟨sg,⟨gs,hlf,hgs⟩,ok.skip⟩
   refine WSs.last (ps_if (PW.pt (pw_and (pt_cmpR op_gt (pe_op op_mod (pv 9) pe_int) (pe_op op_mod (pv 1) pe_int) (nomark _)) (pw_and1 (pt_cmpR op_lt (pe_callB (r:=rLenX K) oLenX (by rfl) T.n_len PySem.boot_len (pa_c (pv 7) pa_nil)) pe_int (nomark _))))) pss_w pss_nil) ⟨_,rfl,_,_,rfl,rfl,(by show (0:Int) < 8; decide),_,rfl,_,_,rfl,rfl,(by show (0:Int) < 7; decide),_,_,rfl,rfl,_,rfl,ite2 (fun _=>⟨_,rfl,.inl ⟨lf,_,rfl,.inl (SqL.of hlf),_,_,rfl,rfl,_,rfl,ite2 (fun hl=>?_) (fun _=>⟨⟨_,_,_,_,rfl⟩,s25,skip⟩)⟩⟩) (fun _=>⟨⟨_,_,_,_,rfl⟩,s25,skip⟩)⟩
   have hl:sg.length < 40:=by
    have:=of_decide_eq_true hl
    rw [List.length_map] at this
    omega
   have m0:=Int.emod_nonneg (dr / 8) (show (99:Int) ≠ 0 by decide)
   have m1:=Int.emod_lt_of_pos (dr / 8) (show (0:Int) < 99 by decide)
   obtain ⟨n,hn⟩:∃ n:Nat,dr / 8 % 99=(n:Int):=⟨(dr / 8 % 99).toNat,by omega⟩
   have hn99:n < 99:=by omega
   have hfl:=figs_le n hn99
   refine WSs.step (ps_set (i:=5) sc__law_signals_by.nd rfl (by first | exact Or.inl rfl | exact Or.inr rfl) (pe_op oAdd pe_str (pe_callTy call_str_int (by rfl) T.n_str PyProof.Rows.boot_str (pa_c (pe_op op_mod (pe_op op_fdiv (pv 9) pe_int) pe_int) pa_nil)))) ⟨_,rfl,_,_,rfl,rfl,⟨by decide,by decide⟩,_,_,rfl,rfl,(by show (0:Int) < 99; decide),(n:Int),?_,figs_lg n hn99,.inr (.inl ⟨_,_,rfl,rfl,sz (by show 1 + _ ≤ 1000; omega),?_⟩)⟩
   ·show [V.int (dr / 8 % 99)]=[V.int (n:Int)]
    rw [hn]
   have hlen:(("s" : Str) ++ Str.ofString (toString (n:Int))).length ≤ 3:=by rw [PySem.Str.length_append]; show 1 + _ ≤ 3; omega
   refine WSs.step (ps_set (i:=5) sc__law_signals_by.nd rfl (by first | exact Or.inl rfl | exact Or.inr rfl) (pe_op oAdd (pe_op oAdd (pv 5) (pe_ix (r:=rIx K) ix_seq (pv 2) (pe_op op_fdiv (pv 8) pe_int) (fun _ _=>rfl))) (pe_ix (r:=rIx K) ix_seq (pv 2) (pe_op op_mod (pv 8) pe_int) (fun _ _=>rfl)))) ⟨_,rfl,_,rfl,_,rfl,_,_,rfl,rfl,⟨by decide,by decide⟩,.inr (.inr ⟨_,_,letL.getD (i / 26) 0,rfl,rfl,sz (by rw [let_len]; decide),?_,.inr (.inl ⟨_,_,rfl,rfl,sz ?_,_,rfl,_,rfl,_,_,rfl,rfl,(by show (0:Int) < 26; decide),.inr (.inr ⟨_,_,letL.getD (i % 26) 0,rfl,rfl,sz (by rw [let_len]; decide),?_,.inr (.inl ⟨_,_,rfl,rfl,sz ?_,?_⟩)⟩)⟩)⟩)⟩
   ·rw [let_eq]
    have:=nat_at (n:=26) (l:=letL) (i:=(i:Int) / 26) rfl (by omega) (by omega)
    rw [show ((i:Int) / 26).toNat=i / 26 by omega] at this
    exact this
   ·show _ + 1 ≤ 1000; omega
   ·rw [let_eq]
    have:=nat_at (n:=26) (l:=letL) (i:=(i:Int) % 26) rfl (by omega) (by omega)
    rw [show ((i:Int) % 26).toNat=i % 26 by omega] at this
    exact this
   ·rw [PySem.Str.length_append]; show _ + 1 + 1 ≤ 1000; omega
   show WSs _ _ _ [some (.ref pl),some (.int c),some (.str "abcdefghijklmnopqrstuvwxyz"),some (.ref le),o4,some (.str (sigN n i)),some (.ref te),some (.ref lf),some (.int (i:Nat)),some (.int dr)] H5
   refine WSs.cut (fun σ H'=>∃ nm,σ=[some (.ref pl),some (.int c),some (.str "abcdefghijklmnopqrstuvwxyz"),some (.ref le),o4,some (.str nm),some (.ref te),some (.ref lf),some (.int (i:Nat)),some (.int dr)]∧Same H5 H'∧(nm=e.1∨∃ n,n < 99∧nm=sigN n i)∧nm ∉ sg.map Prod.fst) ?_ ?_
   ·have keep:∀ {H':Hp},Same H5 H'→∃ nm,[some (V.ref pl),some (.int c),some (.str "abcdefghijklmnopqrstuvwxyz"),some (.ref le),o4,some (.str (sigN n i)),some (.ref te),some (.ref lf),some (.int (i:Nat)),some (.int dr)]=[some (.ref pl),some (.int c),some (.str "abcdefghijklmnopqrstuvwxyz"),some (.ref le),o4,some (.str nm),some (.ref te),some (.ref lf),some (.int (i:Nat)),some (.int dr)]∧Same H5 H'∧(nm=e.1∨∃ n,n < 99∧nm=sigN n i)∧nm ∉ sg.map Prod.fst:=fun s6=>⟨_,rfl,s6,.inr ⟨n,hn99,rfl⟩,ok.fresh hi600 hne hn99⟩
    refine WS.of (ps_if (PW.pt (pw_and (pt_cmpR (r:=rEqX K) (oEqX hr) (pe_op op_mod (pe_op op_fdiv (pv 1) pe_int) pe_int) pe_int (nomark _)) (pw_and1 (pt_cmpR (r:=rNotInY K) (oNotInY hr) (pe_ix (r:=rIx K) ix_seq (pv 6) pe_int (fun _ _=>rfl)) (pe_comp (N':=["_law_row"]) rfl (CompScope.std 1 [] rfl (by decide +kernel) (by decide +kernel) rfl trivial rfl rfl trivial) (pi_list (pv 7)) (fun _ _ _ _=>(pg_name (i:=0) (by show (["_law_row"]:List Str).Nodup; decide +kernel) rfl (Or.inl (lookup_relabel_local rfl)) (Or.inr (lookup_relabel_local rfl)))) (fun _ _ _ _=>pf_nil) (fun _ _ _ _=>(pe_ix (r:=rIx K) ix_seq (pv 0) pe_int (fun _ _=>rfl)))) (by with_unfolding_all rfl))))) pss_w pss_nil) ⟨_,rfl,_,_,rfl,rfl,⟨by decide,by decide⟩,_,_,rfl,rfl,(by show (0:Int) < 3; decide),.inl ⟨rfl,_,rfl,ite2 (fun _=>?_) (fun _=>keep (Same.refl _))⟩⟩
    refine ⟨_,rfl,.inr (.inl ⟨te,_,_,.str e.1,rfl,rfl,SqT.of re5,rfl,_,rfl,lf,rfl,⟨_,SqL.of hlf⟩,fun D hD=>?_⟩)⟩
    refine comp_first hlf hgs (by omega) hD (fun H6 s6 e6=>?qq) ?aa ?bb
    case aa=>rfl
    case bb=>rfl
    case qq =>
     refine .inl ⟨D,_,rfl,.inl (SqL.of e6),rfl,flat_strs _,_,rfl,?_⟩
     rw [if_pos rfl,inV_strs]
     refine ite2 (fun hc=>?_) (fun _=>keep s6)
     have hc:e.1 ∉ sg.map Prod.fst:=fun z=>by rw [decide_eq_true z] at hc; exact absurd hc (by decide)
     exact WSs.last (ps_set (i:=5) sc__law_signals_by.nd rfl (by first | exact Or.inl rfl | exact Or.inr rfl) (pe_ix (r:=rIx K) ix_seq (pv 6) pe_int (fun _ _=>rfl))) ⟨_,rfl,.inr (.inl ⟨te,_,_,.str e.1,rfl,rfl,SqT.of (s6.at re5),rfl,e.1,rfl,s6,.inl rfl,hc⟩)⟩
   rintro σ H6 ⟨nm,rfl,s6,hnm,hnew⟩
   refine WSs.last (ps_expr (pe_bm PySem.F.plainAttrs_list PySem.F.slot_list_append PySem.F.type_list_append mt_append (pv 7) (pa_c (pe_tupS (pa_c (pv 5) (pa_c (pe_ix (r:=rIx K) ix_seq (pv 6) pe_int (fun _ _=>rfl)) (pa_c (pe_ix (r:=rIx K) ix_seq (pv 6) pe_int (fun _ _=>rfl)) pa_nil)))) pa_nil))) ⟨_,rfl,.inl ⟨rfl,_,SqL.of (s6.at hlf)⟩,_,rfl,_,rfl,.inr (.inl ⟨te,_,_,.str e.1,rfl,rfl,SqT.of (s6.at re5),rfl,_,rfl,.inr (.inl ⟨te,_,_,.str e.2,rfl,rfl,SqT.of (s6.at re5),rfl,sz (by simp),fun t H7 s7 n7 e7=>⟨lf,_,_,rfl,rfl,s7.at (s6.at hlf),by rw [List.length_map]; exact small1000 (by omega),⟨_,_,_,_,rfl⟩,fun b o z=>?_,sg ++ [(nm,e.1,e.2)],⟨gs ++ [t],?_,?_⟩,ok.add he hnm hnew hl⟩⟩)⟩)⟩
   ·rw [upd_ne (ne_of_none z n3)]; exact s7.at (s6.at (s25.at z))
   ·rw [upd_same,List.map_append]; rfl
   ·have off:∀ {b:Addr} {xs:List V},H7 b=some (.tup xs)→(upd H7 lf (.lst (gs.map V.ref ++ [V.ref t]))) b=some (.tup xs):=fun {b xs} z=>by
     rw [upd_ne fun y=>by rw [y,s7.at (s6.at hlf)] at z; cases z]; exact z
    exact Paired.append (Paired.mapP hgs fun _ _ r=>off (s7.at (s6.at r))) (.cons (off e7) .nil)
  ·rintro σ H4 ⟨⟨o5',o6',o8,o9,rfl⟩,s4,sg,hsg,ok⟩
   refine WSs.last (ps_ret (pv 7)) ⟨_,rfl,q lf H4 sg (s2.trans s4) (s2.free n3) hsg ?_⟩
   rw [List.length_map,hul] at ok
   exact ok
theorem G__law_signals_by (T:Tx K mg) {k:Nat} (h:2 ≤ k:=by decide):FnOk P w K mg base CX0 k T.d__law_signals_by.f T.d__law_signals_by.fd ["_law_parts", "_law_cell"] (spSig K):=(ok__law_signals_by T).mono h
end
end K13
end
section
namespace K13
open PySem L2 NM YM
section
variable {P:Program} {w:World} {K:PySem.W.Frag} {mg:Str→Option Value} {base:Heap}
seal PySem.wpAny
def longS (n:Nat):List (Str×Str×Str):=[("go", "g", "a"),("back", "h", "a"),("end",rowN (n - 1), "b")]
def spLong:Sp:=fun vs H Q _=>∃ c:Int,vs=[.int c] ∧
 ∀ (t pl jl sl:Addr) (H':Hp) (n m:Nat),Same H H'→n ∈ [9,10,11,12,13,14]→1 ≤ m→m ≤ 3→H' t=some (.tup [.ref pl,.ref jl,.ref sl])→PartsAt H' pl (longP n)→JoinsAt H' jl (longJ n)→SigsAt H' sl ((longS n).take m)→H pl=none→H jl=none→H sl=none→Q (.ref t) H'
theorem fig_lg:∀ k < 20,(((k:Nat):Int).natAbs).log2 < 1920:=by decide +kernel
theorem fig_le:∀ k < 20,(figS k).length ≤ 2:=by decide +kernel
theorem comp_plain {l D:Addr} {xs:List Str} {H1:Hp} {Q:VK} {σ:St} (hl:H1 l=some (.lst (xs.map V.str))) (hn:xs.length ≤ 100) (hD:H1 D=none) (q:∀ H',Same H1 H'→PartsAt H' D (xs.map fun x=>(("plain" : Str),x))→Q (.ref D) H') {fr:St→St} (hfr:fr σ=[none]) {te:TE} (hte:te=tTupS (tCons (tC (.str "plain")) (tCons (tVar 0) tNil))) :
  CompW (Itl K l) fr (gName 0) tYes te Q σ H1 D:=by
 refine comp_list (xs:=xs.map V.str) (fun i ys H'=>(∃ ts:List Addr,ys=ts.map V.ref∧Paired (PairAt H') ts ((xs.take i).map fun x=>(("plain" : Str),x)))∧H' D=some (.lst ys)∧Same H1 H') ⟨⟨[],rfl,.nil⟩,upd_same,Same.new hD⟩ ?_ ?_ ?_
 ·rintro i ys H' _ ⟨_,_,sm⟩
  exact SqL.of (sm.at hl)
 ·rintro k v ys H' hk ⟨⟨ts,rfl,hts⟩,hD',sm⟩
  rw [List.getElem?_map] at hk
  obtain ⟨y,hy,rfl⟩:=Option.map_eq_some_iff.mp hk
  have hlt:ts.length ≤ 100:=by rw [Paired.length hts,List.length_map,List.length_take]; omega
  unfold CompT
  rw [hfr,hte]
  refine ⟨Keep.set rfl,_,rfl,sz (by simp),fun t H2 s2 n2 e2=>⟨s2.at hD',by rw [List.length_map]; exact small1000 (by omega),⟨ts ++ [t],by rw [List.map_append]; rfl,?_⟩,upd_same,fun b o z=>?_⟩⟩
  ·rw [List.take_add_one,hy,List.map_append]
   have off:∀ {b:Addr} {zs:List V},H2 b=some (.tup zs)→(upd H2 D (.lst (ts.map V.ref ++ [V.ref t]))) b=some (.tup zs):=fun {b zs} z=>by
    rw [upd_ne fun y=>by rw [y,s2.at hD'] at z; cases z]; exact z
   exact Paired.append (Paired.mapP hts fun _ _ r=>off (s2.at r)) (.cons (off e2) .nil)
  ·rw [upd_ne (ne_of_none z hD)]; exact s2.at (sm.at z)
 ·rintro ys H6 ⟨⟨ts,rfl,hts⟩,hD6,s6⟩
  rw [List.length_map,List.take_length] at hts
  exact q H6 s6 ⟨ts,hD6,hts⟩
theorem ixN_last (n:Nat):ixN (n + 1) (-1)=some n:=by
 unfold ixN
 rw [if_neg (by decide)]
 simp
 constructor <;> omega
theorem atI_last {α:Type} (xs:List α) (x:α):atI (xs ++ [x]) (-1)=some x:=by
 unfold atI
 rw [List.length_append,List.length_singleton,ixN_last]
 simp
theorem row_last {n:Nat} (h:1 ≤ n):atI (((List.range n).map rowN).map V.str) (-1)=some (.str (rowN (n - 1))):=by
 obtain ⟨m,rfl⟩:∃ m,n=m + 1:=⟨n - 1,by omega⟩
 rw [List.range_succ,List.map_append,List.map_append]
 exact atI_last _ _
theorem row_at {n k:Nat} (h:k < n):(((List.range n).map rowN).map V.str)[k]? = some (.str (rowN k)):=by
 rw [List.getElem?_map,List.getElem?_map,List.getElem?_range h]
 rfl
theorem row0:("p0" : Str)=rowN 0:=by decide +kernel
theorem ok__law_long (T:Tx K mg):FnOk P w K mg base CX0 1 T.d__law_long.f T.d__law_long.fd ["_law_cell"] spLong:=by
 refine T.d__law_long.F.okW sc__law_long (fun vs H Q E h=>?_) (fun cdv A outer s H vs Q E hr h=>?_)
 ·obtain ⟨c,rfl,_⟩:=h
  rfl
 ·obtain ⟨c,rfl,q⟩:=h
  have k0:=Int.emod_nonneg c (show (6:Int) ≠ 0 by decide)
  have k1:=Int.emod_lt_of_pos c (show (0:Int) < 6 by decide)
  obtain ⟨n,hn⟩:∃ n:Nat,9 + c % 6=(n:Int):=⟨(9 + c % 6).toNat,by omega⟩
  have hn9:n ∈ [9,10,11,12,13,14]:=by
   have:n=9∨n=10∨n=11∨n=12∨n=13∨n=14:=by omega
   simpa using this
  have hnb:9 ≤ n∧n ≤ 14:=by omega
  refine WSs.step (ps_setComp (i:=2) (N':=["_law_k"]) sc__law_long.nd rfl (Or.inl rfl) rfl (CompScope.std 1 [] rfl (by decide +kernel) (by decide +kernel) rfl trivial rfl rfl trivial) (pi_range1 rfl T.n_range (pa_c (pe_op oAdd pe_int (pe_op op_mod (pv 0) pe_int)) pa_nil)) (fun _ _ _ _=>(pg_name (i:=0) (by show (["_law_k"]:List Str).Nodup; decide +kernel) rfl (Or.inl (lookup_relabel_local rfl)) (Or.inr (lookup_relabel_local rfl)))) (fun _ _ _ _=>pf_nil) (fun _ _ _ _=>(pe_op oAdd pe_str (pe_callTy call_str_int (by rfl) T.n_str PyProof.Rows.boot_str (pa_c (pv 0) pa_nil))))) ⟨_,rfl,_,_,rfl,rfl,(by show (0:Int) < 6; decide),.inl ⟨_,_,rfl,rfl,(n:Int),?_,by omega,by omega,fun D hD=>?_⟩⟩
  ·show [V.int (9 + c % 6)]=[V.int (n:Int)]
   rw [hn]
  refine comp_range (fun i ys H'=>ys=((List.range i).map rowN).map V.str∧H' D=some (.lst ys)∧Same H H') ⟨rfl,upd_same,Same.new hD⟩ ?_ ?_
  ·rintro i ys H1 hi ⟨rfl,hD1,s1⟩
   have hi:i < n:=by omega
   unfold CompT
   refine ⟨Keep.set rfl,_,rfl,(i:Int),?_,fig_lg i (by omega),.inr (.inl ⟨_,_,rfl,rfl,sz ?_,hD1,?_,?_,upd_same,fun b o z=>?_⟩)⟩
   ·show [V.int (0 + (i:Int))]=[V.int (i:Int)]
    rw [Int.zero_add]
   ·have:=fig_le i (by omega)
    show 1 + (figS i).length ≤ 1000
    omega
   ·rw [List.length_map,List.length_map,List.length_range]; exact small1000 (by omega)
   ·rw [List.range_succ,List.map_append,List.map_append]; rfl
   ·rw [upd_ne (ne_of_none z hD)]; exact s1.at z
  ·rintro ys H1 ⟨rfl,hD1,s1⟩
   rw [Int.toNat_natCast] at hD1
   have hrl:(((List.range n).map rowN).map V.str).length=n:=by rw [List.length_map,List.length_map,List.length_range]
   refine WSs.step (ps_set (i:=3) sc__law_long.nd rfl (by first | exact Or.inl rfl | exact Or.inr rfl) (pe_op oAdd (pe_op oAdd (pe_lstS (pa_c (pe_tupS (pa_c pe_str (pa_c pe_str pa_nil))) pa_nil)) (pe_comp (N':=["_law_name"]) rfl (CompScope.std 1 [] rfl (by decide +kernel) (by decide +kernel) rfl trivial rfl rfl trivial) (pi_list (pv 2)) (fun _ _ _ _=>(pg_name (i:=0) (by show (["_law_name"]:List Str).Nodup; decide +kernel) rfl (Or.inl (lookup_relabel_local rfl)) (Or.inr (lookup_relabel_local rfl)))) (fun _ _ _ _=>pf_nil) (fun _ _ _ _=>(pe_tupS (pa_c pe_str (pa_c (pv 0) pa_nil)))))) (pe_lstS (pa_c (pe_tupS (pa_c pe_str (pa_c pe_str pa_nil))) pa_nil)))) ⟨sz (by simp),fun t1 H2 s2 n2 e2=>⟨sz (by simp),fun l1 H3 s3 n3 e3=>⟨_,rfl,D,rfl,⟨_,SqL.of (s3.at (s2.at hD1))⟩,fun D2 hD2=>?_⟩⟩⟩
   refine comp_plain (xs:=(List.range n).map rowN) (s3.at (s2.at hD1)) (by rw [List.length_map,List.length_range]; omega) hD2 (fun H4 s4 f4=>?qq) ?aa ?bb
   case aa=>rfl
   case bb=>rfl
   case qq =>
   obtain ⟨vs,hv,hvs⟩:=f4
   have hvl:vs.length=n:=by rw [Paired.length hvs,List.length_map,List.length_map,List.length_range]
   refine .inr (.inr ⟨l1,D2,_,_,rfl,rfl,s4.at e3,hv,by rw [List.length_map]; exact sz (by simp; omega),fun l2 H5 s5 n5 e5=>⟨sz (by simp),fun t2 H6 s6 n6 e6=>⟨sz (by simp),fun l3 H7 s7 n7 e7=>.inr (.inr ⟨l2,l3,_,_,rfl,rfl,s7.at (s6.at e5),e7,by rw [List.length_append,List.length_map]; exact sz (by simp; omega),fun pl H8 s8 n8 e8=>?_⟩)⟩⟩⟩)
   have s48:=s5.trans (s6.trans (s7.trans s8))
   have s28:=s3.trans (s4.trans s48)
   have s18:=s2.trans s28
   have hP:PartsAt H8 pl (longP n):=by
    refine ⟨[t1] ++ vs ++ [t2],by rw [e8,List.map_append,List.map_append]; rfl,?_⟩
    refine Paired.append (Paired.append (.cons (s28.at e2) .nil) (Paired.mapP (by rw [List.map_map] at hvs; exact hvs) fun _ _ r=>s48.at r)) (.cons ((s7.trans s8).at e6) .nil)
   have hpl0:H pl=none:=s1.free (s2.free (s3.free (s4.free (s5.free (s6.free (s7.free n8))))))
   have hD8:=s18.at hD1
   have s08:=s1.trans s18
   clear s2 s3 s4 s5 s6 s7 s8 s48 s28 s18 n2 n3 n5 n6 n7 n8 e2 e3 e5 e6 e7 e8 hv hvs hD2 hD1 s1
   refine WSs.step (ps_set (i:=4) sc__law_long.nd rfl (by first | exact Or.inl rfl | exact Or.inr rfl) (pe_lstS (pa_c (pe_tupS (pa_c (pe_tupS (pa_c pe_str (pa_c pe_str pa_nil))) (pa_c (pe_tupS (pa_c pe_str (pa_c pe_str pa_nil))) pa_nil))) (pa_c (pe_tupS (pa_c (pe_tupS (pa_c pe_str (pa_c pe_str pa_nil))) (pa_c (pe_tupS (pa_c (pe_ix (r:=rIx K) ix_seq (pv 2) (pe_un un_neg pe_int) (fun _ _=>rfl)) (pa_c pe_str pa_nil))) pa_nil))) pa_nil)))) ⟨sz (by simp),fun a1 H9 s9 n9 e9=>⟨sz (by simp),fun a2 H10 s10 n10 e10=>⟨sz (by simp),fun j1 H11 s11 n11 e11=>⟨sz (by simp),fun b1 H12 s12 n12 e12=>?_⟩⟩⟩⟩
   refine ⟨_,rfl,_,rfl,.inl ⟨D,_,_,.str (rowN (n - 1)),rfl,rfl,SqL.of (s12.at (s11.at (s10.at (s9.at hD8)))),row_last (by omega),sz (by simp),fun b2 H13 s13 n13 e13=>⟨sz (by simp),fun j2 H14 s14 n14 e14=>⟨sz (by simp),fun jl H15 s15 n15 e15=>?_⟩⟩⟩⟩
   have s1415:=s14.trans s15
   have s1215:=s13.trans s1415
   have s1115:=s12.trans s1215
   have s1015:=s11.trans s1115
   have s915:=s10.trans s1015
   have s815:=s9.trans s915
   have hjl8:H8 jl=none:=s9.free (s10.free (s11.free (s12.free (s13.free (s14.free n15)))))
   have hJ:JoinsAt H15 jl (([((("g" : Str),("a" : Str)),(rowN 0,("a" : Str))),((("h" : Str),("a" : Str)),(rowN (n - 1),("b" : Str)))]:List (EndT×EndT)) ++ (List.range 0).map fun k=>((rowN k,("b" : Str)),(rowN (k + 1),("a" : Str)))):=by
    refine ⟨[j1,j2],e15,.cons ⟨a1,a2,s1115.at e11,s915.at e9,?_⟩ (.cons ⟨b1,b2,s15.at e14,s1215.at e12,s1415.at e13⟩ .nil)⟩
    have:=s1015.at e10
    rw [row0] at this
    exact this
   clear s9 s10 s11 s12 s13 s14 s15 s1415 s1215 s1115 s1015 s915 n9 n10 n11 n12 n13 n14 n15 e9 e10 e11 e12 e13 e14 e15
   refine WSs.step (ps_for PassesOwn.never rfl (pi_range2 rfl T.n_range (pa_c pe_int (pa_c (pe_callB (r:=rLenX K) oLenX (by rfl) T.n_len PySem.boot_len (pa_c (pv 2) pa_nil)) pa_nil))) (pg_name (i:=1) sc__law_long.nd rfl (by first | exact Or.inl rfl | exact Or.inr rfl)) pss_w) ⟨_,rfl,.inl ⟨D,_,rfl,.inl (SqL.of (s815.at hD8)),1,(n:Int),?_,⟨by omega,by omega,by omega,by omega⟩,for_range (lo:=1) (n:=((n:Int) - 1).toNat) (fun i σ H'=>(∃ o1,σ=[some (.int c),o1,some (.ref D),some (.ref pl),some (.ref jl),none])∧Same H8 H'∧JoinsAt H' jl (([((("g" : Str),("a" : Str)),(rowN 0,("a" : Str))),((("h" : Str),("a" : Str)),(rowN (n - 1),("b" : Str)))]:List (EndT×EndT)) ++ (List.range i).map fun k=>((rowN k,("b" : Str)),(rowN (k + 1),("a" : Str))))) ⟨⟨_,rfl⟩,s815,hJ⟩ ?_ ?_⟩⟩
   ·rw [hrl]
   ·rintro i σ H16 hi ⟨⟨o1,rfl⟩,s16,us,hu,hus⟩
    have hi':i + 1 < n:=by omega
    have hul:us.length=2 + i:=by rw [Paired.length hus,List.length_append,List.length_map,List.length_range]; rfl
    have hat1:atI (((List.range n).map rowN).map V.str) (1 + (i:Int) - 1)=some (.str (rowN i)):=by
     rw [show (1:Int) + (i:Int) - 1=((i:Nat):Int) by omega]
     exact atI_nat (row_at (by omega))
    have hat2:atI (((List.range n).map rowN).map V.str) (1 + (i:Int))=some (.str (rowN (i + 1))):=by
     rw [show (1:Int) + (i:Int)=((i + 1:Nat):Int) by omega]
     exact atI_nat (row_at (by omega))
    refine WSs.last (ps_expr (pe_bm PySem.F.plainAttrs_list PySem.F.slot_list_append PySem.F.type_list_append mt_append (pv 4) (pa_c (pe_tupS (pa_c (pe_tupS (pa_c (pe_ix (r:=rIx K) ix_seq (pv 2) (pe_op op_sub (pv 1) pe_int) (fun _ _=>rfl)) (pa_c pe_str pa_nil))) (pa_c (pe_tupS (pa_c (pe_ix (r:=rIx K) ix_seq (pv 2) (pv 1) (fun _ _=>rfl)) (pa_c pe_str pa_nil))) pa_nil))) pa_nil))) ⟨_,rfl,.inl ⟨rfl,_,SqL.of hu⟩,_,rfl,_,rfl,_,_,rfl,rfl,.inl ⟨D,_,_,_,rfl,rfl,SqL.of (s16.at hD8),hat1,sz (by simp),fun a1 H17 s17 n17 e17=>?_⟩⟩
    refine ⟨_,rfl,_,rfl,.inl ⟨D,_,_,_,rfl,rfl,SqL.of (s17.at (s16.at hD8)),hat2,sz (by simp),fun a2 H18 s18 n18 e18=>⟨sz (by simp),fun j H19 s19 n19 e19=>⟨jl,_,_,rfl,rfl,s19.at (s18.at (s17.at hu)),by rw [List.length_map]; exact small1000 (by omega),⟨_,rfl⟩,fun b o z=>?_,us ++ [j],?_,?_⟩⟩⟩⟩
    ·rw [upd_ne (ne_of_none z hjl8)]; exact s19.at (s18.at (s17.at (s16.at z)))
    ·rw [upd_same,List.map_append]; rfl
    ·have off:∀ {b:Addr} {xs:List V},H19 b=some (.tup xs)→(upd H19 jl (.lst (us.map V.ref ++ [V.ref j]))) b=some (.tup xs):=fun {b xs} z=>by
      rw [upd_ne fun y=>by rw [y,s19.at (s18.at (s17.at hu))] at z; cases z]; exact z
     rw [List.range_succ,List.map_append,← List.append_assoc]
     exact Paired.append (Paired.mapP hus fun _ _ ⟨a,b,r1,r2,r3⟩=>⟨a,b,off (s19.at (s18.at (s17.at r1))),off (s19.at (s18.at (s17.at r2))),off (s19.at (s18.at (s17.at r3)))⟩) (.cons ⟨a1,a2,off e19,off (s19.at (s18.at e17)),off (s19.at e18)⟩ .nil)
   rintro σ H16 ⟨⟨o1,rfl⟩,s16,hJ⟩
   rw [show ((n:Int) - 1).toNat=n - 1 by omega] at hJ
   refine WSs.step (ps_set (i:=5) sc__law_long.nd rfl (by first | exact Or.inl rfl | exact Or.inr rfl) (pe_lstS (pa_c (pe_tupS (pa_c pe_str (pa_c pe_str (pa_c pe_str pa_nil)))) (pa_c (pe_tupS (pa_c pe_str (pa_c pe_str (pa_c pe_str pa_nil)))) (pa_c (pe_tupS (pa_c pe_str (pa_c (pe_ix (r:=rIx K) ix_seq (pv 2) (pe_un un_neg pe_int) (fun _ _=>rfl)) (pa_c pe_str pa_nil)))) pa_nil))))) ⟨sz (by simp),fun t1 H17 s17 n17 e17=>⟨sz (by simp),fun t2 H18 s18 n18 e18=>⟨_,rfl,_,rfl,.inl ⟨D,_,_,.str (rowN (n - 1)),rfl,rfl,SqL.of (s18.at (s17.at (s16.at hD8))),row_last (by omega),sz (by simp),fun t3 H19 s19 n19 e19=>⟨sz (by simp),fun s0 H20 s20 n20 e20=>?_⟩⟩⟩⟩⟩
   have m0:=Int.emod_nonneg (c / 6) (show (3:Int) ≠ 0 by decide)
   have m1:=Int.emod_lt_of_pos (c / 6) (show (0:Int) < 3 by decide)
   obtain ⟨m,hm⟩:∃ m:Nat,1 + c / 6 % 3=(m:Int):=⟨(1 + c / 6 % 3).toNat,by omega⟩
   refine WSs.last (ps_ret (pe_tupS (pa_c (pv 3) (pa_c (pv 4) (pa_c (pe_slice (r:=rSlX K) oSlX (pv 5) po_none (po_some (pe_op oAdd pe_int (pe_op op_mod (pe_op op_fdiv (pv 0) pe_int) pe_int)))) pa_nil))))) ⟨_,rfl,_,rfl,_,rfl,_,rfl,_,_,rfl,rfl,⟨by decide,by decide⟩,_,_,rfl,rfl,(by show (0:Int) < 3; decide),.inl ⟨_,_,rfl,rfl,(m:Int),?_,.inr (.inl ⟨s0,_,rfl,SqL.of e20,fun sl H21 s21 n21 e21=>⟨sz (by simp),fun t H22 s22 n22 e22=>?_⟩⟩)⟩⟩
   ·show V.int (1 + c / 6 % 3)=V.int (m:Int)
    rw [hm]
   have s2022:=s21.trans s22
   have s1622:=s17.trans (s18.trans (s19.trans (s20.trans s2022)))
   have s822:=s16.trans s1622
   refine q t pl jl sl H22 n m (s08.trans s822) hn9 (by omega) (by omega) e22 (hP.mono s822) (hJ.mono s1622) ?_ hpl0 (s08.free hjl8) (s08.free (s16.free (s17.free (s18.free (s19.free (s20.free n21))))))
   rw [cut_to] at e21
   have all:Paired (SigAt H22) [t1,t2,t3] (longS n):=.cons ((s18.trans (s19.trans (s20.trans s2022))).at e17) (.cons ((s19.trans (s20.trans s2022)).at e18) (.cons ((s20.trans s2022).at e19) .nil))
   refine ⟨[t1,t2,t3].take m,by rw [s22.at e21,List.map_take]; rfl,?_⟩
   have:m=1∨m=2∨m=3:=by omega
   rcases this with rfl | rfl | rfl
   ·cases all with
    | cons r _=>exact .cons r .nil
   ·cases all with
    | cons r1 t=>cases t with
     | cons r2 _=>exact .cons r1 (.cons r2 .nil)
   ·exact all
theorem G__law_long (T:Tx K mg) {k:Nat} (h:1 ≤ k:=by decide):FnOk P w K mg base CX0 k T.d__law_long.f T.d__law_long.fd ["_law_cell"] spLong:=(ok__law_long T).mono h
end
end K13
end
section
namespace K13
open PySem L2 NM YM
section
variable {P:Program} {w:World} {K:PySem.W.Frag} {mg:Str→Option Value} {base:Heap}
seal PySem.wpAny
def lastD (s:Str):Nat:=s.cps.toList.getLastD 0
theorem lastD_app {x y:Str} (h:0 < y.length):lastD (x ++ y)=lastD y:=by
 unfold lastD
 rw [PySem.W.KT.app_list]
 have:y.cps.toList ≠ []:=fun z=>by
  have:y.cps.toList.length=0:=by rw [z]; rfl
  rw [Array.length_toList] at this
  exact absurd h (by show ¬ 0 < y.cps.size; omega)
 obtain ⟨ys,b,e⟩:=List.eq_nil_or_concat y.cps.toList |>.resolve_left this
 rw [e]
 simp
theorem fig_last:∀ k < 100,lastD (figS k) < 58:=by decide +kernel
theorem name_last {kd:Str} {c:Int} {k:Nat} (h:k < 100):lastD (nameBy kd c k) < 58:=by
 have h1:=fig_last k h
 have h2:=fig_some k h
 unfold nameBy
 split <;> rw [lastD_app h2] <;> exact h1
theorem end_last {j:Nat} (h:j < 100):lastD (endN j) < 58:=by
 unfold endN
 rw [lastD_app (fig_some j h)]
 exact fig_last j h
theorem sig_last {n k:Nat}:97 ≤ lastD (sigN n k):=by
 unfold lastD
 rw [sigN_list]
 have:=let_at (k % 26) (by omega)
 simp only [List.getLastD_concat]
 omega
theorem sig_len {n k:Nat}:2 ≤ (sigN n k).cps.toList.length:=by
 rw [sigN_list,List.length_append,List.length_append]
 simp
theorem not_sig {s:Str} {n k:Nat} (h:s = "g" ∨ s = "h" ∨ lastD s < 58):s ≠ sigN n k:=fun z=>by
 rcases h with rfl | rfl | h
 ·have:=@sig_len n k
  rw [← z] at this
  exact absurd this (by decide)
 ·have:=@sig_len n k
  rw [← z] at this
  exact absurd this (by decide)
 ·have:=@sig_last n k
  rw [← z] at this
  omega
theorem bear_sub {ps:List EndT} {e:EndT} (h:e ∈ bearE ps):∃ p ∈ ps,e.1=p.2:=by
 unfold bearE at h
 obtain ⟨p,hp,he⟩:=List.mem_flatMap.mp h
 refine ⟨p,hp,?_⟩
 split at he
 ·obtain ⟨x,_,rfl⟩:=List.mem_map.mp he; rfl
 ·cases he
def nmY (s:Str):Prop:=s = "g" ∨ s = "h" ∨ isNm s 63∨∃ j,j < 90∧s=endN j
theorem nmY.sig {s:Str} {n k:Nat} (h:nmY s):s ≠ sigN n k:=by
 refine not_sig ?_
 rcases h with h | h | ⟨kd,c,j,_,hj,rfl⟩ | ⟨j,hj,rfl⟩
 ·exact .inl h
 ·exact .inr (.inl h)
 ·exact .inr (.inr (name_last (by omega)))
 ·exact .inr (.inr (end_last (by omega)))
def nmK (p:EndT):Prop:=p=((("gate" : Str),("g" : Str)):EndT)∨p=((("gate" : Str),("h" : Str)):EndT)∨isNm p.2 63∨∃ j,j < 90∧p.2=endN j
theorem nmK.nm {p:EndT} (h:nmK p):nmY p.2:=by
 rcases h with rfl | rfl | h | h
 ·exact .inl rfl
 ·exact .inr (.inl rfl)
 ·exact .inr (.inr (.inl h))
 ·exact .inr (.inr (.inr h))
structure YardOk (ps:List EndT) (js:List (EndT×EndT)) (sg:List (Str×Str×Str)):Prop where
 net:Net ps js []
 len:ps.length ≤ 39
 name:∀ p ∈ ps,nmK p
 sigs:(∃ ps',ps'.Perm ps∧SigOk (bearE ps') (bearE ps').length sg)∨∃ n m,n ∈ [9,10,11,12,13,14]∧ps=longP n∧sg=(longS n).take m
end
end K13
end
section
namespace K13
open PySem L2 NM YM
section
variable {P:Program} {w:World} {K:PySem.W.Frag} {mg:Str→Option Value} {base:Heap}
seal PySem.wpAny
theorem Net.perm' {ps ps':List EndT} {js js':List (EndT×EndT)} (h:Net ps js []) (hp:ps'.Perm ps) (hj:js'.Perm js):Net ps' js' []:=by
 obtain ⟨a,b,c,d⟩:=h
 rw [List.append_nil] at a
 refine ⟨?_,(hp.map _).nodup_iff.mpr b,fun j hm=>c j (hj.mem_iff.mp hm),fun p hm=>d p (hp.mem_iff.mp hm)⟩
 rw [List.append_nil]
 exact ((hj.flatMap_right _).trans a).trans (hp.flatMap_right _).symm
theorem row_nm {k:Nat} (h:k < 63):isNm (rowN k) 63:=by
 refine ⟨"plain",0,k,by decide +kernel,h,?_⟩
 unfold nameBy rowN
 rw [if_pos (by decide)]
 rw [show (⟨#[("plain" : Str).cps.toList.getD 0 0]⟩:Str) = "p" by decide +kernel]
theorem long_nm {n:Nat} (hn:n ≤ 14):∀ p ∈ longP n,nmK p:=fun p hp=>by
 unfold longP at hp
 rcases List.mem_append.mp hp with z | z
 ·rcases List.mem_append.mp z with y | y
  ·rw [List.mem_singleton] at y; rw [y]; exact .inl rfl
  ·obtain ⟨k,hk,rfl⟩:=List.mem_map.mp y
   rw [List.mem_range] at hk
   exact .inr (.inr (.inl (row_nm (by omega))))
 ·rw [List.mem_singleton] at z; rw [z]; exact .inr (.inl rfl)
theorem long_len {n:Nat} (hn:n ≤ 14):(longP n).length ≤ 39:=by
 unfold longP
 rw [List.length_append,List.length_append,List.length_map,List.length_range]
 simp
 omega
theorem nm_up {s:Str} {n m:Nat} (h:isNm s n) (l:n ≤ m):isNm s m:=let ⟨kd,c,k,a,b,e⟩:=h; ⟨kd,c,k,a,by omega,e⟩
theorem nm_of {s:Str} {n:Nat} (h:nmD s n):isNm s n:=by
 obtain ⟨kd,hk,c,k,a,e⟩:=h
 refine ⟨kd,c,k,?_,a,e⟩
 have:∀ kd ∈ kinds,96 < kd.cps.toList.getD 0 0∧kd.cps.toList.getD 0 0 < 123:=by decide +kernel
 exact this kd hk
theorem pair_rev {α β:Type} {R:α→β→Prop} {l1:List α} {l2:List β} (h:Paired R l1 l2):Paired R l1.reverse l2.reverse:=by
 induction h with
 | nil=>exact .nil
 | cons r _ ih=>rw [List.reverse_cons,List.reverse_cons]; exact Paired.append ih (.cons r .nil)
theorem pair_drop {α β:Type} {R:α→β→Prop}:∀ (n:Nat) {l1:List α} {l2:List β},Paired R l1 l2→Paired R (l1.drop n) (l2.drop n)
 | 0,_,_,h=>h
 | _ + 1,_,_,.nil=>.nil
 | n + 1,_,_,.cons _ t=>pair_drop n t
theorem pair_take {α β:Type} {R:α→β→Prop}:∀ (n:Nat) {l1:List α} {l2:List β},Paired R l1 l2→Paired R (l1.take n) (l2.take n)
 | 0,_,_,_=>.nil
 | _ + 1,_,_,.nil=>.nil
 | n + 1,_,_,.cons r t=>.cons r (pair_take n t)
def spYard (K:PySem.W.Frag):Sp:=fun vs H Q _=>∃ (cl:Addr) (c:Int) (cs:List Int),vs=[.ref cl,.int c]∧SqL K H cl (cs.map V.int)∧(∀ c ∈ cs,0 ≤ c)∧cs.length ≤ 63 ∧
 ∀ (t pl jl sl:Addr) (H':Hp) (ps:List EndT) (js:List (EndT×EndT)) (sg:List (Str×Str×Str)),Same H H'→H' t=some (.tup [.ref pl,.ref jl,.ref sl])→PartsAt H' pl ps→JoinsAt H' jl js→SigsAt H' sl sg→YardOk ps js sg→Q (.ref t) H'
theorem ok__law_yard_by (T:Tx K mg):FnOk P w K mg base CX0 4 T.d__law_yard_by.f T.d__law_yard_by.fd ["_law_cells_here", "_law_cell"] (spYard K):=by
 refine T.d__law_yard_by.F.okW sc__law_yard_by (fun vs H Q E h=>?_) (fun cdv A outer s H vs Q E hr h=>?_)
 ·obtain ⟨cl,c,cs,rfl,_⟩:=h
  rfl
 ·obtain ⟨cl,c,cs,rfl,hS,hc0,hcl,q⟩:=h
  refine WSs.cut (fun σ H'=>σ=[some (.ref cl),some (.int c),none,none,none,none]∧H'=H) ?_ ?_
  ·refine WS.of (ps_if (pt_cmpR (r:=rEqX K) (oEqX hr) (pe_op op_mod (pv 1) pe_int) pe_int (nomark _)) pss_w pss_nil) ⟨_,rfl,_,_,rfl,rfl,(by show (0:Int) < 12; decide),.inl ⟨rfl,_,rfl,ite2 (fun _=>?_) (fun _=>⟨rfl,rfl⟩)⟩⟩
   refine WSs.last (ps_ret (pe_call (G__law_long T) hr rfl T.m__law_long T.d__law_long.F.kp T.d__law_long.b .nil pass0 (pa_c (pe_op op_fdiv (pv 1) pe_int) pa_nil))) ⟨_,rfl,_,_,rfl,rfl,⟨by decide,by decide⟩,_,rfl,fun t pl jl sl H' n m s1 hn h1 h3 e hP hJ hG _ _ _=>q t pl jl sl H' _ _ _ s1 e hP hJ hG ⟨long_net hn,long_len ?_,long_nm ?_,.inr ⟨n,m,hn,rfl,rfl⟩⟩⟩
   ·simp at hn; omega
   ·simp at hn; omega
  rintro σ H' ⟨rfl,hH'⟩
  rw [hH']
  refine WSs.step (ps_set (i:=2) sc__law_yard_by.nd rfl (by first | exact Or.inl rfl | exact Or.inr rfl) (pe_call (G__law_line T) hr rfl T.m__law_line T.d__law_line.F.kp T.d__law_line.b .nil pass0 (pa_c (pv 0) pa_nil))) ⟨_,rfl,cl,cs,rfl,hS,hc0,fun t H1 pl jl ps js s1 e1 hP hJ n1 n2 net len nm=>?_⟩
  refine WSs.cut (fun σ H'=>∃ t pl jl ps js,σ=[some (.ref cl),some (.int c),some (.ref t),none,none,none]∧Same H H'∧H' t=some (.tup [.ref pl,.ref jl])∧PartsAt H' pl ps∧JoinsAt H' jl js∧Net ps js []∧ps.length ≤ 39∧∀ p ∈ ps,nmK p) ?_ ?_
  ·refine WS.of (ps_if (pt_cmpR (r:=rEqX K) (oEqX hr) (pe_op op_mod (pv 1) pe_int) pe_int (nomark _)) pss_w pss_nil) ⟨_,rfl,_,_,rfl,rfl,(by show (0:Int) < 3; decide),.inl ⟨rfl,_,rfl,ite2 (fun _=>?_) (fun _=>⟨t,pl,jl,ps,js,rfl,s1,e1,hP,hJ,net,by omega,fun p hp=>?_⟩)⟩⟩
   ·refine WSs.last (ps_set (i:=2) sc__law_yard_by.nd rfl (by first | exact Or.inl rfl | exact Or.inr rfl) (pe_call (G__law_drawn T) hr rfl T.m__law_drawn T.d__law_drawn.F.kp T.d__law_drawn.b .nil pass0 (pa_c (pv 0) pa_nil))) ⟨_,rfl,cl,cs,rfl,s1.seq hS,hc0,hcl,fun t H2 pl jl ps js _ s2 e2 hP hJ _ _ net len nm=>⟨t,pl,jl,ps,js,rfl,s1.trans s2,e2,hP,hJ,net,len,fun p hp=>?_⟩⟩
    rcases nm p hp with z | z
    ·exact .inr (.inr (.inl (nm_of z)))
    ·exact .inr (.inr (.inr z))
   ·rcases nm p hp with z | z | z
    ·exact .inl z
    ·exact .inr (.inl z)
    ·exact .inr (.inr (.inl (nm_up z (by decide))))
  clear e1 hP hJ n1 n2 net len nm s1
  rintro σ H1 ⟨t,pl,jl,ps,js,rfl,s1,e1,hP,hJ,net,len,nm⟩
  refine WSs.step (ps_asg (pv 2) (pg_tup rfl (pgs_cons (pg_name (i:=3) sc__law_yard_by.nd rfl (by first | exact Or.inl rfl | exact Or.inr rfl)) (pgs_cons (pg_name (i:=4) sc__law_yard_by.nd rfl (by first | exact Or.inl rfl | exact Or.inr rfl)) pgs_nil)))) ⟨_,rfl,t,_,rfl,SqT.of e1,rfl,_,_,rfl,_,_,rfl,rfl,?_⟩
  obtain ⟨us,hu,hus⟩:=id hP
  have hul:us.length=ps.length:=Paired.length hus
  obtain ⟨mx,hmx,hm1⟩:∃ mx:Int,(if ((us.map V.ref).length:Int) > 1 then ((us.map V.ref).length:Int) else 1)=mx∧0 < mx:=by
   refine ⟨_,rfl,?_⟩
   split <;> omega
  have a0:=Int.emod_nonneg (c / 3) (show mx ≠ 0 by omega)
  obtain ⟨at',hat⟩:∃ k:Nat,c / 3 % mx=(k:Int):=⟨(c / 3 % mx).toNat,by omega⟩
  refine WSs.step (ps_set (i:=5) sc__law_yard_by.nd rfl (by first | exact Or.inl rfl | exact Or.inr rfl) (pe_op op_mod (pe_op op_fdiv (pv 1) pe_int) (pe_callB (call_max2 rfl) (by rfl) T.n_max PyProof.Rows.boot_max (pa_c pe_int (pa_c (pe_callB (r:=rLenX K) oLenX (by rfl) T.n_len PySem.boot_len (pa_c (pv 3) pa_nil)) pa_nil))))) ⟨_,rfl,_,_,rfl,rfl,⟨by decide,by decide⟩,_,rfl,.inl ⟨pl,_,rfl,.inl (SqL.of hu),_,_,rfl,_,_,rfl,rfl,?_,?_⟩⟩
  ·show (0:Int) < (if ((us.map V.ref).length:Int) > 1 then ((us.map V.ref).length:Int) else 1)
   rw [hmx]; exact hm1
  show WSs _ _ _ [some (.ref cl),some (.int c),some (.ref t),some (.ref pl),some (.ref jl),some (.int (c / 3 % (if ((us.map V.ref).length:Int) > 1 then ((us.map V.ref).length:Int) else 1)))] H1
  rw [hmx,hat]
  refine WSs.cut (fun σ H'=>∃ jl' js',σ=[some (.ref cl),some (.int c),some (.ref t),some (.ref pl),some (.ref jl'),some (.int (at':Int))]∧Same H1 H'∧JoinsAt H' jl' js'∧js'.Perm js) ?_ ?_
  ·obtain ⟨ws,hw,hws⟩:=id hJ
   refine WS.of (ps_if (pt_cmpR (r:=rEqX K) (oEqX hr) (pe_op op_mod (pe_op op_fdiv (pv 1) pe_int) pe_int) pe_int (nomark _)) pss_w pss_nil) ⟨_,rfl,_,_,rfl,rfl,⟨by decide,by decide⟩,_,_,rfl,rfl,(by show (0:Int) < 2; decide),.inl ⟨rfl,_,rfl,ite2 (fun _=>?_) (fun _=>⟨jl,js,rfl,Same.refl _,hJ,List.Perm.refl _⟩)⟩⟩
   refine WSs.last (ps_set (i:=4) sc__law_yard_by.nd rfl (by first | exact Or.inl rfl | exact Or.inr rfl) (pe_rev (ops:=fun l r=>[l,r]) (pv 4) (po_some (pe_un un_neg pe_int)) (fun _ _=>by with_unfolding_all rfl))) ⟨_,rfl,_,rfl,_,rfl,jl,_,rfl,rfl,SqL.of hw,fun jr H2 s2 n2 e2=>⟨jr,js.reverse,rfl,s2,⟨ws.reverse,by rw [e2,List.map_reverse],?_⟩,List.reverse_perm _⟩⟩
   exact pair_rev (Paired.mapP hws fun _ _ r=>r.mono s2)
  rintro σ H2 ⟨jl',js',rfl,s2,hJ',hjp⟩
  refine WSs.last (ps_ret (pe_tupS (pa_c (pe_op oAdd (pe_slice (r:=rSlX K) oSlX (pv 3) (po_some (pv 5)) po_none) (pe_slice (r:=rSlX K) oSlX (pv 3) po_none (po_some (pv 5)))) (pa_c (pv 4) (pa_c (pe_call (G__law_signals_by T) hr rfl T.m__law_signals_by T.d__law_signals_by.F.kp T.d__law_signals_by.b .nil pass0 (pa_c (pv 3) (pa_c (pe_op op_fdiv (pv 1) pe_int) pa_nil))) pa_nil))))) ⟨_,rfl,_,rfl,_,rfl,.inr (.inl ⟨pl,_,rfl,SqL.of (s2.at hu),fun la H3 s3 n3 e3=>⟨_,rfl,_,rfl,_,rfl,.inr (.inl ⟨pl,_,rfl,SqL.of (s3.at (s2.at hu)),fun lb H4 s4 n4 e4=>.inr (.inr ⟨la,lb,_,_,rfl,rfl,s4.at e3,e4,?_,fun lc H5 s5 n5 e5=>?_⟩)⟩)⟩⟩)⟩
  ·rw [cut_from,cut_to,List.length_drop,List.length_take,List.length_map]; exact sz (by omega)
  have s25:=s3.trans (s4.trans s5)
  have s15:=s2.trans s25
  refine ⟨_,rfl,_,rfl,_,rfl,_,_,rfl,rfl,⟨by decide,by decide⟩,pl,_,ps,rfl,hP.mono s15,by omega,fun n k e he _ _=>?_,fun sl H6 sg s6 n6 hG ok=>⟨sz (by simp),fun t' H7 s7 n7 e7=>?_⟩⟩
  ·obtain ⟨p,hp,e1⟩:=bear_sub he
   rw [e1]
   exact nmY.sig (nm p hp).nm
  rw [cut_from,cut_to,← List.map_drop,← List.map_take,← List.map_append] at e5
  have s57:=s6.trans s7
  have rot:(ps.drop at' ++ ps.take at').Perm ps:=by
   have:=List.perm_append_comm (l₁:=ps.drop at') (l₂:=ps.take at')
   rwa [List.take_append_drop] at this
  refine q t' lc jl' sl H7 (ps.drop at' ++ ps.take at') js' sg (s1.trans (s15.trans s57)) e7 ⟨us.drop at' ++ us.take at',s57.at e5,?_⟩ (hJ'.mono (s25.trans s57)) (hG.mono s7) ⟨Net.perm' net rot hjp,?_,fun p hp=>nm p (rot.mem_iff.mp hp),.inl ⟨ps,rot.symm,ok⟩⟩
  ·have:=Paired.mapP hus fun _ _ r=>PairAt.mono (s15.trans s57) r
   exact Paired.append (pair_drop _ this) (pair_take _ this)
  ·rw [rot.length_eq]; exact len
theorem G__law_yard_by (T:Tx K mg) {k:Nat} (h:4 ≤ k:=by decide):FnOk P w K mg base CX0 k T.d__law_yard_by.f T.d__law_yard_by.fd ["_law_cells_here", "_law_cell"] (spYard K):=(ok__law_yard_by T).mono h
end
end K13
end
section
namespace K13
open PySem L2 NM YM
section
variable {P:Program} {w:World} {K:PySem.W.Frag} {mg:Str→Option Value} {base:Heap}
seal PySem.wpAny
def lowC (c:Nat):Bool:=decide (97 ≤ c) && decide (c ≤ 122)
def anC (c:Nat):Bool:=lowC c || (decide (48 ≤ c) && decide (c ≤ 57))
def nameV (s:Str):Prop:=1 ≤ s.length∧s.length ≤ 6∧lowC (s.cps.toList.headD 0)=true∧s.cps.toList.all anC=true
theorem fig_an:∀ k < 100,(figS k).cps.toList.all anC=true:=by decide +kernel
theorem let_low:∀ i < 26,lowC (letL.getD i 0)=true:=by decide
theorem low_an {c:Nat} (h:lowC c=true):anC c=true:=by unfold anC; rw [h]; rfl
theorem all_app {x y:Str} (hx:x.cps.toList.all anC=true) (hy:y.cps.toList.all anC=true):(x ++ y).cps.toList.all anC=true:=by
 rw [PySem.W.KT.app_list,List.all_append,hx,hy]; rfl
theorem head_app {x y:Str} (h:0 < x.length):(x ++ y).cps.toList.headD 0=x.cps.toList.headD 0:=by
 rw [PySem.W.KT.app_list]
 cases e:x.cps.toList with
 | nil =>
  have:x.cps.size=0:=by rw [← Array.length_toList,e]; rfl
  exact absurd h (by show ¬ 0 < x.cps.size; omega)
 | cons a l=>rfl
theorem one_an {c:Nat} (h:lowC c=true):(⟨#[c]⟩:Str).cps.toList.all anC=true:=by
 show ([c]:List Nat).all anC=true
 simp [low_an h]
theorem endN_ok {j:Nat} (h:j < 100):nameV (endN j):=by
 have h1:=fig_len' j h
 have h2:=fig_some j h
 unfold endN
 refine ⟨?_,?_,?_,all_app (by decide +kernel) (fig_an j h)⟩
 ·rw [PySem.Str.length_append]; omega
 ·rw [PySem.Str.length_append,show ("e" : Str).length=1 by decide +kernel]; omega
 ·rw [head_app (by decide +kernel)]; decide +kernel
theorem sigN_ok {n k:Nat} (hn:n < 99) (hk:k < 600):nameV (sigN n k):=by
 have h1:=figs_le n hn
 have a1:=let_low (k / 26) (by omega)
 have a2:=let_low (k % 26) (by omega)
 have hs:("s" : Str).length=1:=by decide +kernel
 have h0:0 < (("s" : Str) ++ Str.ofString (toString (n:Int))).length:=by rw [PySem.Str.length_append,hs]; omega
 have hf:(Str.ofString (toString (n:Int))).cps.toList.all anC=true:=fig_an n (by omega)
 unfold sigN
 refine ⟨?_,?_,?_,all_app (all_app (all_app (by decide +kernel) hf) (one_an a1)) (one_an a2)⟩
 ·rw [PySem.Str.length_append,PySem.Str.length_append]; omega
 ·rw [PySem.Str.length_append,PySem.Str.length_append,PySem.Str.length_append,hs]
  show 1 + _ + 1 + 1 ≤ 6
  omega
 ·rw [head_app (by rw [PySem.Str.length_append]; omega),head_app h0,head_app (by rw [hs]; decide)]; decide +kernel
theorem g_ok:nameV "g" := ⟨by decide +kernel,by decide +kernel,by decide +kernel,by decide +kernel⟩
theorem h_ok:nameV "h" := ⟨by decide +kernel,by decide +kernel,by decide +kernel,by decide +kernel⟩
theorem letAt_low {i:Int} (h0:0 ≤ i) (h1:i < 26):lowC (letAt i)=true:=let_low i.toNat (by omega)
theorem rep_an:∀ m < 3,(repS "0" m).cps.toList.all anC=true:=by decide +kernel
theorem nameBy_ok {kd:Str} {c:Int} {k:Nat} (h0:96 < kd.cps.toList.getD 0 0∧kd.cps.toList.getD 0 0 < 123) (hk:k < 100):nameV (nameBy kd c k):=by
 have l2:=name_len2 (kind:=kd) (c:=c) hk
 refine ⟨by omega,name_len6 hk,?_,?_⟩
 ·unfold nameBy
  split
  ·rw [head_app (by show 0 < 1; decide)]
   show lowC (kd.cps.toList.getD 0 0)=true
   unfold lowC
   simp only [Bool.and_eq_true,decide_eq_true_eq]
   omega
  ·have a0:=Int.emod_nonneg (c / 3) (show (26:Int) ≠ 0 by decide)
   have a1:=Int.emod_lt_of_pos (c / 3) (show (0:Int) < 26 by decide)
   rw [head_app (by rw [PySem.Str.length_append,PySem.Str.length_append]; show 0 < 1 + 1 + _; omega),head_app (by rw [PySem.Str.length_append]; show 0 < 1 + 1; decide),head_app (by show 0 < 1; decide)]
   exact letAt_low a0 a1
 ·unfold nameBy
  split
  ·refine all_app (one_an ?_) (fig_an k hk)
   unfold lowC
   simp only [Bool.and_eq_true,decide_eq_true_eq]
   omega
  ·have a0:=Int.emod_nonneg (c / 3) (show (26:Int) ≠ 0 by decide)
   have a1:=Int.emod_lt_of_pos (c / 3) (show (0:Int) < 26 by decide)
   have b0:=Int.emod_nonneg (c / 78) (show (26:Int) ≠ 0 by decide)
   have b1:=Int.emod_lt_of_pos (c / 78) (show (0:Int) < 26 by decide)
   have c0:=Int.emod_nonneg (c / 2028) (show (3:Int) ≠ 0 by decide)
   have c1:=Int.emod_lt_of_pos (c / 2028) (show (0:Int) < 3 by decide)
   exact all_app (all_app (all_app (one_an (letAt_low a0 a1)) (one_an (letAt_low b0 b1))) (rep_an _ (by omega))) (fig_an k hk)
theorem nmY.ok {s:Str} (h:nmY s):nameV s:=by
 rcases h with rfl | rfl | ⟨kd,c,j,h0,hj,rfl⟩ | ⟨j,hj,rfl⟩
 ·exact g_ok
 ·exact h_ok
 ·exact nameBy_ok h0 (by omega)
 ·exact endN_ok (by omega)
end
end K13
end
section
namespace K13
open PySem L2 NM YM
section
variable {P:Program} {w:World} {K:PySem.W.Frag} {mg:Str→Option Value} {base:Heap}
seal PySem.wpAny
theorem bear_mem {ps:List EndT} {e:EndT} (h:e ∈ bearE ps):∃ p ∈ ps,e.1=p.2∧p.1 ∈ [("plain" : Str), "gate", "stop"]∧e.2 ∈ endsK p.1:=by
 unfold bearE at h
 obtain ⟨p,hp,he⟩:=List.mem_flatMap.mp h
 by_cases z:p.1 ∈ [("plain" : Str), "gate", "stop"]
 ·rw [if_pos z] at he
  obtain ⟨x,hx,rfl⟩:=List.mem_map.mp he
  exact ⟨p,hp,rfl,z,hx⟩
 ·rw [if_neg z] at he; cases he
theorem ends_nd (k:Str):(endsK k).Nodup:=by
 unfold endsK
 split
 ·decide
 ·split
  ·decide
  ·split <;> decide
theorem bear_nd:∀ {ps:List EndT},(ps.map Prod.snd).Nodup→(bearE ps).Nodup
 | [],_=>List.nodup_nil
 | p :: ps,h=>by
  rw [List.map_cons,List.nodup_cons] at h
  have ih:=bear_nd h.2
  show ((if p.1 ∈ [("plain" : Str), "gate", "stop"] then (endsK p.1).map (fun x=>((p.2,x):EndT)) else []) ++ bearE ps).Nodup
  refine List.nodup_append.mpr ⟨?_,ih,fun a ha b hb e=>?_⟩
  ·split
   ·exact List.Pairwise.map _ (fun a b h z=>h (Prod.mk.inj z).2) (ends_nd p.1)
   ·exact List.nodup_nil
  ·subst e
   obtain ⟨p',hp',e1,_⟩:=bear_mem hb
   split at ha
   ·obtain ⟨x,_,rfl⟩:=List.mem_map.mp ha
    exact h.1 (List.mem_map.mpr ⟨p',hp',e1.symm⟩)
   ·cases ha
structure SigsV (ps:List EndT) (sg:List (Str×Str×Str)):Prop where
 name:∀ q ∈ sg,nameV q.1
 nd:(sg.map Prod.fst).Nodup
 one:(sg.map Prod.snd).Nodup
 at_:∀ q ∈ sg,∃ p ∈ ps,p.2=q.2.1∧p.1 ∈ [("plain" : Str), "gate", "stop"]∧q.2.2 ∈ endsK p.1
 len:sg.length ≤ 40
theorem SigOk.sigs {ps:List EndT} {sg:List (Str×Str×Str)} (h:SigOk (bearE ps) (bearE ps).length sg) (nd:(ps.map Prod.snd).Nodup) (nm:∀ p ∈ ps,nmY p.2) (hl:ps.length ≤ 45):SigsV ps sg:=by
 have sub:=h.at_
 rw [List.take_length] at sub
 have hb:=bearE_le ps
 have mem:∀ q ∈ sg,((q.2.1,q.2.2):EndT) ∈ bearE ps:=fun q hq=>sub.subset (List.mem_map.mpr ⟨q,hq,rfl⟩)
 refine ⟨fun q hq=>?_,h.nd,List.Nodup.sublist sub (bear_nd nd),fun q hq=>?_,h.len⟩
 ·rcases h.name q hq with z | ⟨n,k,a,b,c⟩
  ·obtain ⟨p,hp,e,_⟩:=bear_mem (mem q hq)
   rw [z,show q.2.1=p.2 from e]
   exact nmY.ok (nm p hp)
  ·rw [c]; exact sigN_ok a (by omega)
 ·obtain ⟨p,hp,e,k,m⟩:=bear_mem (mem q hq)
  exact ⟨p,hp,e.symm,k,m⟩
theorem SigsV.perm {ps ps':List EndT} {sg:List (Str×Str×Str)} (h:SigsV ps' sg) (hp:ps'.Perm ps):SigsV ps sg :=
 ⟨h.name,h.nd,h.one,fun q hq=>let ⟨p,a,b⟩:=h.at_ q hq; ⟨p,hp.mem_iff.mp a,b⟩,h.len⟩
theorem long_sigs {n:Nat} (m:Nat) (hn:n ∈ [9,10,11,12,13,14]):SigsV (longP n) ((longS n).take m):=by
 have h1:9 ≤ n∧n ≤ 14:=by simp at hn; omega
 have nd:∀ n ∈ [9,10,11,12,13,14],((longS n).map Prod.snd).Nodup:=by decide +kernel
 have sub:=List.take_sublist m (longS n)
 have row:∀ q ∈ longS n,nameV q.1∧∃ p ∈ longP n,p.2=q.2.1∧p.1 ∈ [("plain" : Str), "gate", "stop"]∧q.2.2 ∈ endsK p.1:=by
  intro q hq
  unfold longS at hq
  simp only [List.mem_cons,List.mem_nil_iff,or_false] at hq
  rcases hq with rfl | rfl | rfl
  ·exact ⟨⟨by decide +kernel,by decide +kernel,by decide +kernel,by decide +kernel⟩,("gate", "g"),by unfold longP; simp,rfl,by decide,by decide⟩
  ·exact ⟨⟨by decide +kernel,by decide +kernel,by decide +kernel,by decide +kernel⟩,("gate", "h"),by unfold longP; simp,rfl,by decide,by decide⟩
  ·have e1:nameV "end" := ⟨by decide +kernel,by decide +kernel,by decide +kernel,by decide +kernel⟩
   have e2:("plain" : Str) ∈ [("plain" : Str), "gate", "stop"]:=by decide
   have e3:("b" : Str) ∈ endsK "plain" := by decide
   exact ⟨e1,("plain",rowN (n - 1)),by unfold longP; exact List.mem_append_left _ (List.mem_append_right _ (List.mem_map.mpr ⟨n - 1,List.mem_range.mpr (by omega),rfl⟩)),rfl,e2,e3⟩
 have nf:((longS n).map Prod.fst).Nodup:=by
  show ([("go" : Str), "back", "end"]:List Str).Nodup
  decide +kernel
 refine ⟨fun q hq=>(row q (sub.subset hq)).1,List.Nodup.sublist (sub.map _) nf,List.Nodup.sublist (sub.map _) (nd n hn),fun q hq=>(row q (sub.subset hq)).2,?_⟩
 have:=sub.length_le
 exact Nat.le_trans this (by show 3 ≤ 40; decide)
theorem YardOk.sigsV {ps:List EndT} {js:List (EndT×EndT)} {sg:List (Str×Str×Str)} (h:YardOk ps js sg):SigsV ps sg:=by
 rcases h.sigs with ⟨ps',hp,ok⟩ | ⟨n,m,hn,rfl,rfl⟩
 ·exact (ok.sigs ((hp.map _).nodup_iff.mpr h.net.nd) (fun p hm=>(h.name p (hp.mem_iff.mp hm)).nm) (by rw [hp.length_eq]; have:=h.len; omega)).perm hp
 ·exact long_sigs m hn
end
end K13
end
section
namespace K13
open PySem L2 NM YM
section
variable {P:Program} {w:World} {K:PySem.W.Frag} {mg:Str→Option Value} {base:Heap}
seal PySem.wpAny
def spInit (K:PySem.W.Frag):Sp:=fun vs H Q _=>∃ (x C dx:Addr) (nm:Str),vs=[.ref x,.str nm]∧H x=some (.ins C dx [])∧Cls K C∧NoAttr K C "name" ∧ Q .non (upd H x (.ins C dx [("name",.str nm)]))
theorem ok_Part___init__ (T:Tx K mg):FnOk P w K mg base CX0 1 T.d_Part___init__.f T.d_Part___init__.fd ["self", "name"] (spInit K):=by
 refine T.d_Part___init__.F.okW sc_Part___init__ (fun vs H Q E h=>?_) (fun cdv A outer s H vs Q E hr h=>?_)
 ·obtain ⟨x,C,dx,nm,rfl,_⟩:=h
  rfl
 ·obtain ⟨x,C,dx,nm,rfl,hx,c,n1,q⟩:=h
  exact WSs.last (ps_fld (pv 0) (pv 1) rfl) ⟨_,rfl,_,rfl,x,C,dx,[],rfl,hx,c,n1,by simp,q⟩
theorem G_Part___init__ (T:Tx K mg) {k:Nat} (h:1 ≤ k:=by decide):FnOk P w K mg base CX0 k T.d_Part___init__.f T.d_Part___init__.fd ["self", "name"] (spInit K):=(ok_Part___init__ T).mono h
def PObj (H:Hp) (C x:Addr) (nm:Str):Prop:=∃ dx,H x=some (.ins C dx [("name",.str nm)])
def mrP (C:Addr):List V→Hp→VK→Prop:=fun vs H Q=>∃ nm:Str,vs=[.str nm]∧∀ x H',Same H H'→H x=none→PObj H' C x nm→Q (.ref x) H'
theorem mkP {C:Addr} (c:Cls K C) (n:NoAttr K C "name"):∀ vs H Q,mrP C vs H Q→∀ x dx,H x=none→H dx=none→dx ≠ x→spInit K (.ref x :: (vs ++ [])) (upd (upd H dx (.own x)) x (.ins C dx [])) (fun v H2=>v=.non∧Q (.ref x) H2) E0:=by
 rintro vs H Q ⟨nm,rfl,q⟩ x dx h1 h2 ne
 refine ⟨x,C,dx,nm,rfl,upd_same,c,n,rfl,q x _ (fun b o e=>?_) h1 ⟨dx,upd_same⟩⟩
 rw [upd_ne (ne_of_none e h1),upd_ne (ne_of_none e h1),upd_ne (ne_of_none e h2)]
 exact e
abbrev mr_Part (T:Tx K mg):List V→Hp→VK→Prop:=mrP T.CPart
theorem mk_Part (T:Tx K mg):∀ vs H Q,mr_Part T vs H Q→∀ x dx,H x=none→H dx=none→dx ≠ x→spInit K (.ref x :: (vs ++ [])) (upd (upd H dx (.own x)) x (.ins T.CPart dx [])) (fun v H2=>v=.non∧Q (.ref x) H2) E0:=mkP T.clPart T.nPart_name
abbrev mr_Plain (T:Tx K mg):List V→Hp→VK→Prop:=mrP T.CPlain
theorem mk_Plain (T:Tx K mg):∀ vs H Q,mr_Plain T vs H Q→∀ x dx,H x=none→H dx=none→dx ≠ x→spInit K (.ref x :: (vs ++ [])) (upd (upd H dx (.own x)) x (.ins T.CPlain dx [])) (fun v H2=>v=.non∧Q (.ref x) H2) E0:=mkP T.clPlain T.nPlain_name
abbrev mr_Stop (T:Tx K mg):List V→Hp→VK→Prop:=mrP T.CStop
theorem mk_Stop (T:Tx K mg):∀ vs H Q,mr_Stop T vs H Q→∀ x dx,H x=none→H dx=none→dx ≠ x→spInit K (.ref x :: (vs ++ [])) (upd (upd H dx (.own x)) x (.ins T.CStop dx [])) (fun v H2=>v=.non∧Q (.ref x) H2) E0:=mkP T.clStop T.nStop_name
abbrev mr_Gate (T:Tx K mg):List V→Hp→VK→Prop:=mrP T.CGate
theorem mk_Gate (T:Tx K mg):∀ vs H Q,mr_Gate T vs H Q→∀ x dx,H x=none→H dx=none→dx ≠ x→spInit K (.ref x :: (vs ++ [])) (upd (upd H dx (.own x)) x (.ins T.CGate dx [])) (fun v H2=>v=.non∧Q (.ref x) H2) E0:=mkP T.clGate T.nGate_name
abbrev mr_Points (T:Tx K mg):List V→Hp→VK→Prop:=mrP T.CPoints
theorem mk_Points (T:Tx K mg):∀ vs H Q,mr_Points T vs H Q→∀ x dx,H x=none→H dx=none→dx ≠ x→spInit K (.ref x :: (vs ++ [])) (upd (upd H dx (.own x)) x (.ins T.CPoints dx [])) (fun v H2=>v=.non∧Q (.ref x) H2) E0:=mkP T.clPoints T.nPoints_name
abbrev mr_Cross (T:Tx K mg):List V→Hp→VK→Prop:=mrP T.CCross
theorem mk_Cross (T:Tx K mg):∀ vs H Q,mr_Cross T vs H Q→∀ x dx,H x=none→H dx=none→dx ≠ x→spInit K (.ref x :: (vs ++ [])) (upd (upd H dx (.own x)) x (.ins T.CCross dx [])) (fun v H2=>v=.non∧Q (.ref x) H2) E0:=mkP T.clCross T.nCross_name
def ClsOf (T:Tx K mg) (k:Str) (C:Addr):Prop:=(k = "points" ∧ C=T.CPoints)∨(k = "cross" ∧ C=T.CCross)∨(k = "gate" ∧ C=T.CGate)∨(k = "stop" ∧ C=T.CStop)∨(k = "plain" ∧ (C=T.CPart∨C=T.CPlain))
def spPart (T:Tx K mg):Sp:=fun vs H Q _=>∃ k nm:Str,vs=[.str k,.str nm]∧k ∈ kinds∧nm.length ≤ 6∧∀ (x C:Addr) (H':Hp),Same H H'→H x=none→ClsOf T k C→PObj H' C x nm→Q (.ref x) H'
theorem ok__law_part (T:Tx K mg):FnOk P w K mg base CX0 3 T.d__law_part.f T.d__law_part.fd ["_law_kind", "_law_name"] (spPart T):=by
 refine T.d__law_part.F.okW sc__law_part (fun vs H Q E h=>?_) (fun cdv A outer s H vs Q E hr h=>?_)
 ·obtain ⟨k,nm,rfl,_⟩:=h
  rfl
 ·obtain ⟨k,nm,rfl,hk,hl,q⟩:=h
  refine WSs.cut (fun σ H'=>σ=[some (.str k),some (.str nm)]∧H'=H∧k ≠ "points") ?_ ?_
  ·refine WS.of (ps_if (pt_cmpR (r:=rEqX K) (oEqX hr) (pv 0) pe_str (nomark _)) pss_w pss_nil) ⟨_,rfl,.inl ⟨rfl,_,rfl,ite2 (fun hc=>?_) (fun hc=>⟨rfl,rfl,fun z=>hc (by rw [z]; simp)⟩)⟩⟩
   have hc:k = "points" := V.str.inj (of_decide_eq_true hc)
   exact WSs.last (ps_ret (pe_makeR (mr_Points T) T.mkPoints (G_Part___init__ T) hr rfl T.mPoints T.d_Part___init__.b .nil pass0 (mk_Points T) (pa_c (pv 1) pa_nil))) ⟨_,rfl,nm,rfl,fun x H' s1 n1 o=>q x _ H' s1 n1 (.inl ⟨hc,rfl⟩) o⟩
  rintro σ H1 ⟨rfl,hH1,nk0⟩
  rw [hH1]
  refine WSs.cut (fun σ H'=>σ=[some (.str k),some (.str nm)]∧H'=H∧k ≠ "cross") ?_ ?_
  ·refine WS.of (ps_if (pt_cmpR (r:=rEqX K) (oEqX hr) (pv 0) pe_str (nomark _)) pss_w pss_nil) ⟨_,rfl,.inl ⟨rfl,_,rfl,ite2 (fun hc=>?_) (fun hc=>⟨rfl,rfl,fun z=>hc (by rw [z]; simp)⟩)⟩⟩
   have hc:k = "cross" := V.str.inj (of_decide_eq_true hc)
   exact WSs.last (ps_ret (pe_makeR (mr_Cross T) T.mkCross (G_Part___init__ T) hr rfl T.mCross T.d_Part___init__.b .nil pass0 (mk_Cross T) (pa_c (pv 1) pa_nil))) ⟨_,rfl,nm,rfl,fun x H' s1 n1 o=>q x _ H' s1 n1 (.inr (.inl ⟨hc,rfl⟩)) o⟩
  rintro σ H2 ⟨rfl,hH2,nk1⟩
  rw [hH2]
  refine WSs.cut (fun σ H'=>σ=[some (.str k),some (.str nm)]∧H'=H∧k ≠ "gate") ?_ ?_
  ·refine WS.of (ps_if (pt_cmpR (r:=rEqX K) (oEqX hr) (pv 0) pe_str (nomark _)) pss_w pss_nil) ⟨_,rfl,.inl ⟨rfl,_,rfl,ite2 (fun hc=>?_) (fun hc=>⟨rfl,rfl,fun z=>hc (by rw [z]; simp)⟩)⟩⟩
   have hc:k = "gate" := V.str.inj (of_decide_eq_true hc)
   exact WSs.last (ps_ret (pe_makeR (mr_Gate T) T.mkGate (G_Part___init__ T) hr rfl T.mGate T.d_Part___init__.b .nil pass0 (mk_Gate T) (pa_c (pv 1) pa_nil))) ⟨_,rfl,nm,rfl,fun x H' s1 n1 o=>q x _ H' s1 n1 (.inr (.inr (.inl ⟨hc,rfl⟩))) o⟩
  rintro σ H3 ⟨rfl,hH3,nk2⟩
  rw [hH3]
  refine WSs.cut (fun σ H'=>σ=[some (.str k),some (.str nm)]∧H'=H∧k ≠ "stop") ?_ ?_
  ·refine WS.of (ps_if (pt_cmpR (r:=rEqX K) (oEqX hr) (pv 0) pe_str (nomark _)) pss_w pss_nil) ⟨_,rfl,.inl ⟨rfl,_,rfl,ite2 (fun hc=>?_) (fun hc=>⟨rfl,rfl,fun z=>hc (by rw [z]; simp)⟩)⟩⟩
   have hc:k = "stop" := V.str.inj (of_decide_eq_true hc)
   exact WSs.last (ps_ret (pe_makeR (mr_Stop T) T.mkStop (G_Part___init__ T) hr rfl T.mStop T.d_Part___init__.b .nil pass0 (mk_Stop T) (pa_c (pv 1) pa_nil))) ⟨_,rfl,nm,rfl,fun x H' s1 n1 o=>q x _ H' s1 n1 (.inr (.inr (.inr (.inl ⟨hc,rfl⟩)))) o⟩
  rintro σ H4 ⟨rfl,hH4,nk3⟩
  rw [hH4]
  have hp:k = "plain" := by
   unfold kinds at hk
   simp only [List.mem_cons,List.mem_nil_iff,or_false] at hk
   rcases hk with z | z | z | z | z
   ·exact z
   ·exact absurd z nk0
   ·exact absurd z nk1
   ·exact absurd z nk2
   ·exact absurd z nk3
  refine WSs.cut (fun σ H'=>σ=[some (.str k),some (.str nm)]∧Same H H') ?_ ?_
  ·refine WS.of (ps_if (pt_cmpR (r:=rInY K) (oInY hr) (pe_slice (r:=rSlX K) oSlX (pv 1) (po_some (pe_un un_neg pe_int)) po_none) (pe_lstS (pa_c pe_str (pa_c pe_str pa_nil))) (by with_unfolding_all rfl)) pss_w pss_nil) ⟨_,rfl,_,rfl,_,rfl,.inr (.inr ⟨nm,rfl,sz (by omega),sz (by simp),fun l H5 s5 n5 e5=>.inl ⟨l,_,rfl,.inl (SqL.of e5),rfl,rfl,_,rfl,ite2 (fun _=>?_) (fun _=>⟨rfl,s5⟩)⟩⟩)⟩
   exact WSs.last (ps_ret (pe_makeR (mr_Part T) T.mkPart (G_Part___init__ T) hr rfl T.mPart T.d_Part___init__.b .nil pass0 (mk_Part T) (pa_c (pv 1) pa_nil))) ⟨_,rfl,nm,rfl,fun x H' s1 n1 o=>q x _ H' (s5.trans s1) (s5.free n1) (.inr (.inr (.inr (.inr ⟨hp,.inl rfl⟩)))) o⟩
  rintro σ H5 ⟨rfl,s5⟩
  exact WSs.last (ps_ret (pe_makeR (mr_Plain T) T.mkPlain (G_Part___init__ T) hr rfl T.mPlain T.d_Part___init__.b .nil pass0 (mk_Plain T) (pa_c (pv 1) pa_nil))) ⟨_,rfl,nm,rfl,fun x H' s1 n1 o=>q x _ H' (s5.trans s1) (s5.free n1) (.inr (.inr (.inr (.inr ⟨hp,.inr rfl⟩)))) o⟩
theorem G__law_part (T:Tx K mg) {k:Nat} (h:3 ≤ k:=by decide):FnOk P w K mg base CX0 k T.d__law_part.f T.d__law_part.fd ["_law_kind", "_law_name"] (spPart T):=(ok__law_part T).mono h
end
end K13
end
section
namespace K13
open PySem L2 NM YM
section
variable {P:Program} {w:World} {K:PySem.W.Frag} {mg:Str→Option Value} {base:Heap}
seal PySem.wpAny
section
variable {α β κ:Type} [DecidableEq κ] {f:α→κ} {R R':α→β→V→Prop} {kvs:List (κ×V)} {qs:List (α×β)}
def DP (f:α→κ) (R:α→β→V→Prop) (kvs:List (κ×V)) (qs:List (α×β)):Prop:=Paired (fun (kv:κ×V) (q:α×β)=>kv.1=f q.1∧R q.1 q.2 kv.2) kvs qs
theorem DP.none (h:DP f R kvs qs) (inj:∀ a b,f a=f b→a=b) {a:α} (n:a ∉ qs.map Prod.fst):valV kvs (f a)=none:=by
 unfold DP at h
 induction h with
 | nil=>rfl
 | cons r t ih =>
  rw [List.map_cons,List.mem_cons,not_or] at n
  rw [valV_neg (fun z=>n.1 (inj _ _ (r.1.symm.trans z)).symm)]
  exact ih n.2
theorem DP.get (h:DP f R kvs qs) (inj:∀ a b,f a=f b→a=b) (nd:(qs.map Prod.fst).Nodup) {a:α} {b:β} (m:(a,b) ∈ qs):∃ v,valV kvs (f a)=some v∧R a b v:=by
 unfold DP at h
 induction h with
 | nil=>cases m
 | @cons kv q _ _ r t ih =>
  rw [List.map_cons,List.nodup_cons] at nd
  rcases List.mem_cons.mp m with z | z
  ·rw [← z] at r
   exact ⟨_,valV_pos r.1,r.2⟩
  ·have:a ≠ q.1:=fun e=>nd.1 (by rw [← e]; exact List.mem_map.mpr ⟨_,z,rfl⟩)
   rw [valV_neg (fun e=>this (inj _ _ (r.1.symm.trans e)).symm)]
   exact ih nd.2 z
theorem DP.put (h:DP f R kvs qs) {a:α} {b:β} {v:V} (n:valV kvs (f a)=Option.none) (r:R a b v):DP f R (putK kvs (f a) v) (qs ++ [(a,b)]):=by
 rw [putK_new v n]
 exact Paired.snoc h ⟨rfl,r⟩
theorem DP.len (h:DP f R kvs qs):kvs.length=qs.length:=Paired.length h
theorem DP.mapR (h:DP f R kvs qs) (m:∀ a b v,R a b v→R' a b v):DP f R' kvs qs:=Paired.mapP h fun _ _ z=>⟨z.1,m _ _ _ z.2⟩
theorem DP.keys (h:DP f R kvs qs):kvs.map Prod.fst=qs.map fun q=>f q.1:=by
 unfold DP at h
 induction h with
 | nil=>rfl
 | cons r t ih=>rw [List.map_cons,List.map_cons,ih,r.1]
end
def keyE (e:EndT):List Key:=[.inr e.1,.inr e.2]
theorem keyE_inj (a b:EndT) (h:keyE a=keyE b):a=b:=by
 obtain ⟨a1,a2⟩:=a
 obtain ⟨b1,b2⟩:=b
 unfold keyE at h
 simp only [List.cons.injEq,Sum.inr.injEq,and_true] at h
 rw [h.1,h.2]
def keyN (s:Str):Key:=.inr s
theorem keyN_inj (a b:Str) (h:keyN a=keyN b):a=b:=Sum.inr.inj h
def qP (ps:List EndT):List (Str×Str):=ps.map fun p=>(p.2,p.1)
def qA (ps:List EndT):List (EndT×Str):=ps.flatMap fun p=>(endsK p.1).map fun e=>((p.2,e),p.1)
def qJ (js:List (EndT×EndT)):List (EndT×EndT):=js.flatMap fun j=>[(j.1,j.2),(j.2,j.1)]
def qS (sg:List (Str×Str×Str)):List (Str×EndT):=sg.map fun q=>(q.1,(q.2.1,q.2.2))
def qO (sg:List (Str×Str×Str)):List (EndT×Str):=sg.map fun q=>((q.2.1,q.2.2),q.1)
theorem qP_fst (ps:List EndT):(qP ps).map Prod.fst=ps.map Prod.snd:=by unfold qP; rw [List.map_map]; rfl
theorem qA_fst (ps:List EndT):(qA ps).map Prod.fst=endsOf ps:=by
 unfold qA endsOf
 rw [List.map_flatMap]
 simp only [List.map_map]
 rfl
theorem qJ_fst (js:List (EndT×EndT)):(qJ js).map Prod.fst=flatJ js:=by
 unfold qJ flatJ
 rw [List.map_flatMap]
 rfl
theorem qS_fst (sg:List (Str×Str×Str)):(qS sg).map Prod.fst=sg.map Prod.fst:=by unfold qS; rw [List.map_map]; rfl
theorem qO_fst (sg:List (Str×Str×Str)):(qO sg).map Prod.fst=sg.map Prod.snd:=by unfold qO; rw [List.map_map]; rfl
def RP (T:Tx K mg) (H:Hp):Str→Str→V→Prop:=fun nm k v=>∃ x C,v=.ref x∧ClsOf T k C∧PObj H C x nm
def RA (T:Tx K mg) (H:Hp):EndT→Str→V→Prop:=fun e k v=>∃ x C,v=.ref x∧ClsOf T k C∧PObj H C x e.1
def RJ (H:Hp):EndT→EndT→V→Prop:=fun _ e v=>∃ t,v=.ref t∧PairAt H t e
def RS (H:Hp):Str→EndT→V→Prop:=fun _ e v=>∃ t,v=.ref t∧PairAt H t e
def RO:EndT→Str→V→Prop:=fun _ s v=>v=.str s
theorem PObj.mono {H H':Hp} {C x:Addr} {nm:Str} (e:Same H H') (h:PObj H C x nm):PObj H' C x nm:=let ⟨dx,z⟩:=h; ⟨dx,e.at z⟩
theorem RP.mono {T:Tx K mg} {H H':Hp} (e:Same H H') (a b:Str) (v:V) (h:RP T H a b v):RP T H' a b v:=let ⟨x,C,h1,h2,h3⟩:=h; ⟨x,C,h1,h2,h3.mono e⟩
theorem RJ.mono {H H':Hp} (e:Same H H') (a b:EndT) (v:V) (h:RJ H a b v):RJ H' a b v:=let ⟨t,h1,h2⟩:=h; ⟨t,h1,h2.mono e⟩
theorem RS.mono {H H':Hp} (e:Same H H') (a:Str) (b:EndT) (v:V) (h:RS H a b v):RS H' a b v:=let ⟨t,h1,h2⟩:=h; ⟨t,h1,h2.mono e⟩
theorem key_tup {H:Hp} {t:Addr} {e:EndT} (h:PairAt H t e):H t=some (.tup ((keyE e).map kV)):=h
abbrev LETS:Str := "abcdefghijklmnopqrstuvwxyz"
abbrev FIGS:Str := "0123456789"
theorem in_lets:∀ c,c < 128→(!(Builtin.Str.occurrences LETS ⟨#[c]⟩ 0 LETS.length 1).isEmpty)=lowC c:=by decide +kernel
theorem in_an:∀ c,c < 128→(!(Builtin.Str.occurrences (LETS ++ FIGS) ⟨#[c]⟩ 0 (LETS ++ FIGS).length 1).isEmpty)=anC c:=by decide +kernel
theorem lets_figs:LETS.length + FIGS.length ≤ sizeLine:=by rw [sizeLine_eq]; decide +kernel
theorem an_lt {c:Nat} (h:anC c=true):c < 128:=by
 unfold anC lowC at h
 simp at h
 omega
def nameB (x:Str):Bool:=(decide (1 ≤ x.length) && decide (x.length ≤ 6)) && (lowC (x.cps.toList.headD 0) && x.cps.toList.all anC)
theorem nameV.b {x:Str} (h:nameV x):nameB x=true:=by
 obtain ⟨h1,h2,h3,h4⟩:=h
 unfold nameB
 rw [decide_eq_true h1,decide_eq_true h2,h3,h4]
 rfl
theorem nameV.low {x:Str} (h:nameV x):∀ c ∈ x.cps.toList,c < 128:=fun c hc=>an_lt (List.all_eq_true.mp h.2.2.2 c hc)
def Asked (K:PySem.W.Frag) (H:Hp) (v:V) (b:Bool):Prop:=(∃ x:Str,v=.str x∧(∀ c ∈ x.cps.toList,c < 128)∧x.length ≤ 100∧nameB x=b)∨(b=false∧∃ t,TyOf K H v t∧PySem.W.kitOne K t (.type "str")=some false)
theorem nameV.asked {K:PySem.W.Frag} {H:Hp} {x:Str} (h:nameV x):Asked K H (.str x) true:=.inl ⟨x,rfl,h.low,by have:=h.2.1; omega,h.b⟩
def spIsName (K:PySem.W.Frag):Sp:=fun vs H Q _=>∃ (v:V) (b:Bool),vs=[v]∧Asked K H v b∧∀ H',Same H H'→Q (.bl b) H'
theorem ok_is_name (T:Tx K mg):FnOk P w K mg base CX0 1 T.d_is_name.f T.d_is_name.fd ["thing"] (spIsName K):=by
 refine T.d_is_name.F.okW sc_is_name (fun vs H Q E h=>?_) (fun cdv A outer s H vs Q E hr h=>?_)
 ·obtain ⟨x,b,rfl,_⟩:=h
  rfl
 ·obtain ⟨v,b,rfl,hA,q⟩:=h
  rcases hA with ⟨x,rfl,hasc,hlen,hb⟩ | ⟨rfl,t,ty,k⟩
  ·have hx:x.cps.toList.length=x.length:=Array.length_toList
   refine WSs.step (ps_if (pt_not (pt_val (pe_callB (r:=rIsi K) call_isiX (by rfl) T.n_isinstance PyProof.Rows.boot_isinstance (pa_c (pv 0) (pa_c (pe_bltn (v:=.ty "str") (by rfl) T.n_str PyProof.Rows.boot_str rfl) pa_nil))))) pss_w pss_nil) ⟨_,rfl,_,_,true,_,rfl,TyOf.str x,.inl ⟨_,rfl,T.kSS⟩,_,rfl,ite2 (fun z=>absurd z (by decide)) (fun _=>?_)⟩
   refine WSs.step (ps_if (PW.pt (pw_or (pt_cmpR (r:=rEqX K) (oEqX hr) (pv 0) pe_str (nomark _)) (pw_or1 (pt_cmpR op_gt (pe_callB (r:=rLenX K) oLenX (by rfl) T.n_len PySem.boot_len (pa_c (pv 0) pa_nil)) (pe_constI (by rfl) T.c_LONGEST_NAME) (nomark _))))) pss_w pss_nil) ⟨_,rfl,.inl ⟨rfl,_,rfl,ite2 (fun z=>?_) (fun z0=>⟨_,rfl,.inr (.inl ⟨x,rfl,sz (by omega),_,_,rfl,rfl,_,rfl,ite2 (fun z=>?_) (fun z1=>?_)⟩)⟩)⟩⟩
   ·have e:x=("" : Str):=V.str.inj (of_decide_eq_true z)
    have:b=false:=by rw [← hb,e]; decide +kernel
    rw [this] at q
    exact WSs.last (ps_ret pe_bl) (q H (Same.refl _))
   ·have z:(6:Int) < (x.length:Int):=of_decide_eq_true z
    have:b=false:=by
     rw [← hb]
     unfold nameB
     rw [decide_eq_false (show ¬ x.length ≤ 6 by omega),Bool.and_false]
     rfl
    rw [this] at q
    exact WSs.last (ps_ret pe_bl) (q H (Same.refl _))
   have h6:¬ (6:Int) < (x.length:Int):=fun z=>z1 (decide_eq_true z)
   have hne:x.cps.toList ≠ []:=fun z=>z0 (decide_eq_true (by
    have:x=("" : Str):=PyProof.Rows.ext_toList (z.trans (by decide +kernel))
    rw [this]))
   obtain ⟨c,cs,hcs⟩:∃ c cs,x.cps.toList=c :: cs:=by
    cases e:x.cps.toList with
    | nil=>exact absurd e hne
    | cons c cs=>exact ⟨c,cs,rfl⟩
   have hl1:1 ≤ x.length:=by rw [← hx,hcs,List.length_cons]; omega
   refine WSs.last (ps_ret (pe_and (pe_cmpR (r:=rInY K) (oInY hr) (pe_ix (r:=rIx K) ix_seq (pv 0) pe_int (fun _ _=>rfl)) (pe_const (by rfl) T.c_LETTERS) (by with_unfolding_all rfl)) (pe_one (pe_callB (r:=rAll K) (call_allX rfl) (by rfl) T.n_all PyProof.Rows.boot_all (pa_c (pe_comp (N':=["sign"]) rfl (CompScope.std 1 [] rfl (by decide +kernel) (by decide +kernel) rfl trivial rfl rfl trivial) (pi_str (pv 0)) (fun _ _ _ _=>(pg_name (i:=0) (by show (["sign"]:List Str).Nodup; decide +kernel) rfl (Or.inl (lookup_relabel_local rfl)) (Or.inr (lookup_relabel_local rfl)))) (fun _ _ _ _=>pf_nil) (fun _ _ _ _=>(pe_cmpR (r:=rInY K) (oInY hr) (pv 0) (pe_op oAdd (pe_const (by rfl) T.c_LETTERS) (pe_const (by rfl) T.c_FIGURES)) (by with_unfolding_all rfl)))) pa_nil))))) ⟨_,rfl,.inr (.inr ⟨x,0,c,rfl,rfl,sz (by omega),by rw [hcs]; exact atI_nat (j:=0) rfl,.inr (.inr (.inl ⟨_,_,rfl,rfl,_,rfl,?_⟩))⟩)⟩
   rw [in_lets c (hasc c (by rw [hcs]; exact List.mem_cons_self))]
   have hb2:b=(lowC c && x.cps.toList.all anC):=by
    rw [← hb]
    unfold nameB
    rw [decide_eq_true hl1,decide_eq_true (show x.length ≤ 6 by omega),hcs]
    rfl
   cases hL:lowC c with
   | false =>
    refine iteF ?_
    rw [hb2,hL] at q
    exact q H (Same.refl _)
   | true =>
    rw [hL,Bool.true_and] at hb2
    refine iteT ⟨_,rfl,x,rfl,?_,fun D hD=>?_⟩
    ·rw [Array.all_eq_true']
     exact fun c hc=>decide_eq_true (hasc c (Array.mem_toList_iff.mpr hc))
    refine comp_str (fun i ys H'=>ys=(x.cps.toList.take i).map (fun c=>V.bl (anC c))∧H' D=some (.lst ys)∧Same H H') ⟨rfl,upd_same,fun b' o e=>by rw [upd_ne (ne_of_none e hD)]; exact e⟩ ?_ ?_
    ·rintro i c' ys H' hi ⟨rfl,hD',sm⟩
     have hi':x.cps.toList[i]? = some c':=by simpa using hi
     have hc':c' < 128:=hasc c' (List.mem_of_getElem? hi')
     refine ⟨Keep.set rfl,_,rfl,.inr (.inl ⟨_,_,rfl,rfl,lets_figs,.inr (.inr (.inl ⟨_,_,rfl,rfl,hD',?_,?_⟩))⟩)⟩
     ·rw [List.length_map,List.length_take,sizeLine_eq]; omega
     ·rw [in_an c' hc']
      refine ⟨?_,upd_same,fun b' o e=>?_⟩
      ·rw [List.take_add_one,hi']
       simp
      ·rw [upd_ne (ne_of_none e hD)]
       exact sm b' o e
    ·rintro ys H' ⟨rfl,hD',sm⟩
     refine ⟨D,(x.cps.toList.map anC),rfl,?_,?_⟩
     ·have e:(List.map anC x.cps.toList).map V.bl=List.map (fun c=>V.bl (anC c)) (List.take x.cps.size x.cps.toList):=by
       rw [List.map_map,List.take_of_length_le (by simp)]
       rfl
      rw [e]
      exact SqL.of hD'
     ·have e:(List.map anC x.cps.toList).all id=b:=by rw [List.all_map,hb2]; rfl
      rw [e]
      exact q H' sm
  ·refine WSs.step (ps_if (pt_not (pt_val (pe_callB (r:=rIsi K) call_isiX (by rfl) T.n_isinstance PyProof.Rows.boot_isinstance (pa_c (pv 0) (pa_c (pe_bltn (v:=.ty "str") (by rfl) T.n_str PyProof.Rows.boot_str rfl) pa_nil))))) pss_w pss_nil) ⟨_,rfl,_,_,false,t,rfl,ty,.inl ⟨_,rfl,k⟩,_,rfl,ite2 (fun _=>?_) (fun z=>absurd rfl z)⟩
   exact WSs.last (ps_ret pe_bl) (q H (Same.refl _))
theorem G_is_name (T:Tx K mg) {k:Nat} (h:1 ≤ k:=by decide):FnOk P w K mg base CX0 k T.d_is_name.f T.d_is_name.fd ["thing"] (spIsName K):=(ok_is_name T).mono h
def spRefN:Sp:=fun vs H Q _=>∃ (s:Str) (d:Addr) (kvs:List (Key×V)),vs=[.str s,.ref d]∧nameV s∧H d=some (.dK kvs)∧valV kvs (keyN s)=none∧∀ H',Same H H'→Q .non H'
theorem ok_refuse_name (T:Tx K mg):FnOk P w K mg base CX0 2 T.d_refuse_name.f T.d_refuse_name.fd ["name", "known"] spRefN:=by
 refine T.d_refuse_name.F.okW sc_refuse_name (fun vs H Q E h=>?_) (fun cdv A outer s H vs Q E hr h=>?_)
 ·obtain ⟨x,d,kvs,rfl,_⟩:=h
  rfl
 ·obtain ⟨x,d,kvs,rfl,hn,hd,hv,q⟩:=h
  refine WSs.step (ps_if (pt_not (pt_val (pe_call (G_is_name T) hr rfl T.m_is_name T.d_is_name.F.kp T.d_is_name.b .nil pass0 (pa_c (pv 0) pa_nil)))) pss_w pss_nil) ⟨_,rfl,_,true,rfl,hn.asked,fun H1 s1=>⟨_,rfl,ite2 (fun z=>absurd z (by decide)) (fun _=>?_)⟩⟩
  refine WSs.last (ps_if (pt_cmpR (r:=rInY K) (oInY hr) (pv 0) (pv 1) (by with_unfolding_all rfl)) pss_w pss_nil) ⟨_,rfl,_,rfl,.inr (.inl ⟨d,_,rfl,DGet.k (k:=keyN x) (s1.at hd),_,rfl,ite2 (fun z=>?_) (fun _=>q H1 s1)⟩)⟩
  rw [hv] at z
  exact absurd z (by decide)
theorem G_refuse_name (T:Tx K mg) {k:Nat} (h:2 ≤ k:=by decide):FnOk P w K mg base CX0 k T.d_refuse_name.f T.d_refuse_name.fd ["name", "known"] spRefN:=(ok_refuse_name T).mono h
end
end K13
end
section
namespace K13
open PySem L2 NM YM
section
variable {P:Program} {w:World} {K:PySem.W.Frag} {mg:Str→Option Value} {base:Heap}
seal PySem.wpAny
def liesS (k:Str):List Str:=if k = "points" then ["left", "right"] else [""]
def bearsS (k:Str):Bool:=decide (k ∈ [("plain" : Str), "gate", "stop"])
def spL (xs:List V):Sp:=fun vs H Q _=>∃ v,vs=[v]∧∀ p H',Same H H'→H p=none→H' p=some (.lst xs)→Q (.ref p) H'
def spB (b:Bool):Sp:=fun vs H Q _=>∃ v,vs=[v]∧Q (.bl b) H
theorem ok_Part_ends (T:Tx K mg):FnOk P w K mg base CX0 1 T.d_Part_ends.f T.d_Part_ends.fd ["self"] (spL ((["a", "b"]:List Str).map V.str)):=by
 refine T.d_Part_ends.F.okW sc_Part_ends (fun vs H Q E h=>?_) (fun cdv A outer s H vs Q E hr h=>?_)
 ·obtain ⟨v,rfl,_⟩:=h
  rfl
 ·obtain ⟨v,rfl,k⟩:=h
  exact WSs.last (ps_ret (pe_lstS (pa_c pe_str (pa_c pe_str pa_nil)))) ⟨sz (by simp),k⟩
theorem ok_Part_lies (T:Tx K mg):FnOk P w K mg base CX0 1 T.d_Part_lies.f T.d_Part_lies.fd ["self"] (spL (([""]:List Str).map V.str)):=by
 refine T.d_Part_lies.F.okW sc_Part_lies (fun vs H Q E h=>?_) (fun cdv A outer s H vs Q E hr h=>?_)
 ·obtain ⟨v,rfl,_⟩:=h
  rfl
 ·obtain ⟨v,rfl,k⟩:=h
  exact WSs.last (ps_ret (pe_lstS (pa_c pe_str pa_nil))) ⟨sz (by simp),k⟩
theorem ok_Part_bears (T:Tx K mg):FnOk P w K mg base CX0 1 T.d_Part_bears.f T.d_Part_bears.fd ["self"] (spB true):=by
 refine T.d_Part_bears.F.okW sc_Part_bears (fun vs H Q E h=>?_) (fun cdv A outer s H vs Q E hr h=>?_)
 ·obtain ⟨v,rfl,_⟩:=h
  rfl
 ·obtain ⟨v,rfl,k⟩:=h
  exact WSs.last (ps_ret pe_bl) k
theorem ok_Stop_ends (T:Tx K mg):FnOk P w K mg base CX0 1 T.d_Stop_ends.f T.d_Stop_ends.fd ["self"] (spL ((["a"]:List Str).map V.str)):=by
 refine T.d_Stop_ends.F.okW sc_Stop_ends (fun vs H Q E h=>?_) (fun cdv A outer s H vs Q E hr h=>?_)
 ·obtain ⟨v,rfl,_⟩:=h
  rfl
 ·obtain ⟨v,rfl,k⟩:=h
  exact WSs.last (ps_ret (pe_lstS (pa_c pe_str pa_nil))) ⟨sz (by simp),k⟩
theorem ok_Points_ends (T:Tx K mg):FnOk P w K mg base CX0 1 T.d_Points_ends.f T.d_Points_ends.fd ["self"] (spL ((["stem", "left", "right"]:List Str).map V.str)):=by
 refine T.d_Points_ends.F.okW sc_Points_ends (fun vs H Q E h=>?_) (fun cdv A outer s H vs Q E hr h=>?_)
 ·obtain ⟨v,rfl,_⟩:=h
  rfl
 ·obtain ⟨v,rfl,k⟩:=h
  exact WSs.last (ps_ret (pe_lstS (pa_c pe_str (pa_c pe_str (pa_c pe_str pa_nil))))) ⟨sz (by simp),k⟩
theorem ok_Points_lies (T:Tx K mg):FnOk P w K mg base CX0 1 T.d_Points_lies.f T.d_Points_lies.fd ["self"] (spL ((["left", "right"]:List Str).map V.str)):=by
 refine T.d_Points_lies.F.okW sc_Points_lies (fun vs H Q E h=>?_) (fun cdv A outer s H vs Q E hr h=>?_)
 ·obtain ⟨v,rfl,_⟩:=h
  rfl
 ·obtain ⟨v,rfl,k⟩:=h
  exact WSs.last (ps_ret (pe_lstS (pa_c pe_str (pa_c pe_str pa_nil)))) ⟨sz (by simp),k⟩
theorem ok_Points_bears (T:Tx K mg):FnOk P w K mg base CX0 1 T.d_Points_bears.f T.d_Points_bears.fd ["self"] (spB false):=by
 refine T.d_Points_bears.F.okW sc_Points_bears (fun vs H Q E h=>?_) (fun cdv A outer s H vs Q E hr h=>?_)
 ·obtain ⟨v,rfl,_⟩:=h
  rfl
 ·obtain ⟨v,rfl,k⟩:=h
  exact WSs.last (ps_ret pe_bl) k
theorem ok_Cross_ends (T:Tx K mg):FnOk P w K mg base CX0 1 T.d_Cross_ends.f T.d_Cross_ends.fd ["self"] (spL ((["a", "b", "c", "d"]:List Str).map V.str)):=by
 refine T.d_Cross_ends.F.okW sc_Cross_ends (fun vs H Q E h=>?_) (fun cdv A outer s H vs Q E hr h=>?_)
 ·obtain ⟨v,rfl,_⟩:=h
  rfl
 ·obtain ⟨v,rfl,k⟩:=h
  exact WSs.last (ps_ret (pe_lstS (pa_c pe_str (pa_c pe_str (pa_c pe_str (pa_c pe_str pa_nil)))))) ⟨sz (by simp),k⟩
theorem ok_Cross_bears (T:Tx K mg):FnOk P w K mg base CX0 1 T.d_Cross_bears.f T.d_Cross_bears.fd ["self"] (spB false):=by
 refine T.d_Cross_bears.F.okW sc_Cross_bears (fun vs H Q E h=>?_) (fun cdv A outer s H vs Q E hr h=>?_)
 ·obtain ⟨v,rfl,_⟩:=h
  rfl
 ·obtain ⟨v,rfl,k⟩:=h
  exact WSs.last (ps_ret pe_bl) k
theorem ClsOf.ends {T:Tx K mg} {k:Str} {C:Addr} (h:ClsOf T k C):∃ f fd,Meth K C "ends" f∧Binds K fd ["self"] []∧∀ (P:Program) (w:World) (base:Heap) (j:Nat),1 ≤ j→FnOk P w K mg base CX0 j f fd ["self"] (spL ((endsK k).map V.str)):=by
 rcases h with ⟨rfl,rfl⟩ | ⟨rfl,rfl⟩ | ⟨rfl,rfl⟩ | ⟨rfl,rfl⟩ | ⟨rfl,rfl | rfl⟩
 ·exact ⟨_,_,T.mtPoints_ends,T.d_Points_ends.b,fun P w base j hj=>(ok_Points_ends T).mono hj⟩
 ·exact ⟨_,_,T.mtCross_ends,T.d_Cross_ends.b,fun P w base j hj=>(ok_Cross_ends T).mono hj⟩
 ·exact ⟨_,_,T.mtGate_ends,T.d_Stop_ends.b,fun P w base j hj=>(ok_Stop_ends T).mono hj⟩
 ·exact ⟨_,_,T.mtStop_ends,T.d_Stop_ends.b,fun P w base j hj=>(ok_Stop_ends T).mono hj⟩
 ·exact ⟨_,_,T.mtPart_ends,T.d_Part_ends.b,fun P w base j hj=>(ok_Part_ends T).mono hj⟩
 ·exact ⟨_,_,T.mtPlain_ends,T.d_Part_ends.b,fun P w base j hj=>(ok_Part_ends T).mono hj⟩
theorem ClsOf.lies {T:Tx K mg} {k:Str} {C:Addr} (h:ClsOf T k C):∃ f fd,Meth K C "lies" f∧Binds K fd ["self"] []∧∀ (P:Program) (w:World) (base:Heap) (j:Nat),1 ≤ j→FnOk P w K mg base CX0 j f fd ["self"] (spL ((liesS k).map V.str)):=by
 rcases h with ⟨rfl,rfl⟩ | ⟨rfl,rfl⟩ | ⟨rfl,rfl⟩ | ⟨rfl,rfl⟩ | ⟨rfl,rfl | rfl⟩
 ·exact ⟨_,_,T.mtPoints_lies,T.d_Points_lies.b,fun P w base j hj=>(ok_Points_lies T).mono hj⟩
 ·exact ⟨_,_,T.mtCross_lies,T.d_Part_lies.b,fun P w base j hj=>(ok_Part_lies T).mono hj⟩
 ·exact ⟨_,_,T.mtGate_lies,T.d_Part_lies.b,fun P w base j hj=>(ok_Part_lies T).mono hj⟩
 ·exact ⟨_,_,T.mtStop_lies,T.d_Part_lies.b,fun P w base j hj=>(ok_Part_lies T).mono hj⟩
 ·exact ⟨_,_,T.mtPart_lies,T.d_Part_lies.b,fun P w base j hj=>(ok_Part_lies T).mono hj⟩
 ·exact ⟨_,_,T.mtPlain_lies,T.d_Part_lies.b,fun P w base j hj=>(ok_Part_lies T).mono hj⟩
theorem ClsOf.bears {T:Tx K mg} {k:Str} {C:Addr} (h:ClsOf T k C):∃ f fd,Meth K C "bears" f∧Binds K fd ["self"] []∧∀ (P:Program) (w:World) (base:Heap) (j:Nat),1 ≤ j→FnOk P w K mg base CX0 j f fd ["self"] (spB (bearsS k)):=by
 rcases h with ⟨rfl,rfl⟩ | ⟨rfl,rfl⟩ | ⟨rfl,rfl⟩ | ⟨rfl,rfl⟩ | ⟨rfl,rfl | rfl⟩
 ·exact ⟨_,_,T.mtPoints_bears,T.d_Points_bears.b,fun P w base j hj=>(ok_Points_bears T).mono hj⟩
 ·exact ⟨_,_,T.mtCross_bears,T.d_Cross_bears.b,fun P w base j hj=>(ok_Cross_bears T).mono hj⟩
 ·exact ⟨_,_,T.mtGate_bears,T.d_Part_bears.b,fun P w base j hj=>(ok_Part_bears T).mono hj⟩
 ·exact ⟨_,_,T.mtStop_bears,T.d_Part_bears.b,fun P w base j hj=>(ok_Part_bears T).mono hj⟩
 ·exact ⟨_,_,T.mtPart_bears,T.d_Part_bears.b,fun P w base j hj=>(ok_Part_bears T).mono hj⟩
 ·exact ⟨_,_,T.mtPlain_bears,T.d_Part_bears.b,fun P w base j hj=>(ok_Part_bears T).mono hj⟩
theorem ClsOf.cls {T:Tx K mg} {k:Str} {C:Addr} (h:ClsOf T k C):Cls K C∧NoAttr K C "name" ∧ True:=by
 rcases h with ⟨rfl,rfl⟩ | ⟨rfl,rfl⟩ | ⟨rfl,rfl⟩ | ⟨rfl,rfl⟩ | ⟨rfl,rfl | rfl⟩
 ·exact ⟨T.clPoints,T.nPoints_name,trivial⟩
 ·exact ⟨T.clCross,T.nCross_name,trivial⟩
 ·exact ⟨T.clGate,T.nGate_name,trivial⟩
 ·exact ⟨T.clStop,T.nStop_name,trivial⟩
 ·exact ⟨T.clPart,T.nPart_name,trivial⟩
 ·exact ⟨T.clPlain,T.nPlain_name,trivial⟩
theorem ClsOf.gate {T:Tx K mg} {k:Str} {C x:Addr} {nm:Str} {H:Hp} (h:ClsOf T k C) (o:PObj H C x nm):∃ t,TyOf K H (.ref x) t∧PySem.W.kitOne K t (.ref T.CGate)=some (decide (k = "gate")):=by
 obtain ⟨dx,o⟩:=o
 rcases h with ⟨rfl,rfl⟩ | ⟨rfl,rfl⟩ | ⟨rfl,rfl⟩ | ⟨rfl,rfl⟩ | ⟨rfl,rfl | rfl⟩
 ·exact ⟨_,TyOf.ins o T.clPoints T.tcPoints T.tG T.tK T.tmPoints,T.gPoints⟩
 ·exact ⟨_,TyOf.ins o T.clCross T.tcCross T.tG T.tK T.tmCross,T.gCross⟩
 ·exact ⟨_,TyOf.ins o T.clGate T.tcGate T.tG T.tK T.tmGate,T.gGate⟩
 ·exact ⟨_,TyOf.ins o T.clStop T.tcStop T.tG T.tK T.tmStop,T.gStop⟩
 ·exact ⟨_,TyOf.ins o T.clPart T.tcPart T.tG T.tK T.tmPart,T.gPart⟩
 ·exact ⟨_,TyOf.ins o T.clPlain T.tcPlain T.tG T.tK T.tmPlain,T.gPlain⟩
theorem ClsOf.points {T:Tx K mg} {k:Str} {C x:Addr} {nm:Str} {H:Hp} (h:ClsOf T k C) (o:PObj H C x nm):∃ t,TyOf K H (.ref x) t∧PySem.W.kitOne K t (.ref T.CPoints)=some (decide (k = "points")):=by
 obtain ⟨dx,o⟩:=o
 rcases h with ⟨rfl,rfl⟩ | ⟨rfl,rfl⟩ | ⟨rfl,rfl⟩ | ⟨rfl,rfl⟩ | ⟨rfl,rfl | rfl⟩
 ·exact ⟨_,TyOf.ins o T.clPoints T.tcPoints T.tG T.tK T.tmPoints,T.pPoints⟩
 ·exact ⟨_,TyOf.ins o T.clCross T.tcCross T.tG T.tK T.tmCross,T.pCross⟩
 ·exact ⟨_,TyOf.ins o T.clGate T.tcGate T.tG T.tK T.tmGate,T.pGate⟩
 ·exact ⟨_,TyOf.ins o T.clStop T.tcStop T.tG T.tK T.tmStop,T.pStop⟩
 ·exact ⟨_,TyOf.ins o T.clPart T.tcPart T.tG T.tK T.tmPart,T.pPart⟩
 ·exact ⟨_,TyOf.ins o T.clPlain T.tcPlain T.tG T.tK T.tmPlain,T.pPlain⟩
end
end K13
end
section
namespace K13
open PySem L2 NM YM
section
variable {P:Program} {w:World} {K:PySem.W.Frag} {mg:Str→Option Value} {base:Heap}
seal PySem.wpAny
theorem _root_.L2.Same.upd0 {H H':Hp} {d:Addr} {o:HO} (s:Same H H') (n:H d=none):Same H (upd H' d o):=fun b u e=>by rw [upd_ne (ne_of_none e n)]; exact s.at e
def PO (T:Tx K mg) (H:Hp) (x:Addr) (p:EndT):Prop:=∃ C,ClsOf T p.1 C∧PObj H C x p.2
theorem PO.mono {T:Tx K mg} {H H':Hp} {x:Addr} {p:EndT} (e:Same H H') (h:PO T H x p):PO T H' x p:=let ⟨C,h1,h2⟩:=h; ⟨C,h1,h2.mono e⟩
def spPbn (T:Tx K mg):Sp:=fun vs H Q _=>∃ (l:Addr) (xs:List Addr) (ps:List EndT),vs=[.ref l]∧H l=some (.lst (xs.map V.ref))∧Paired (PO T H) xs ps∧(ps.map Prod.snd).Nodup∧(∀ p ∈ ps,nameV p.2)∧ps.length ≤ 100 ∧
 ∀ (d:Addr) (kvs:List (Key×V)) (H':Hp),Same H H'→H d=none→H' d=some (.dK kvs)→DP keyN (RP T H) kvs (qP ps)→Q (.ref d) H'
theorem ok_parts_by_name (T:Tx K mg):FnOk P w K mg base CX0 3 T.d_parts_by_name.f T.d_parts_by_name.fd ["parts"] (spPbn T):=by
 refine T.d_parts_by_name.F.okW sc_parts_by_name (fun vs H Q E h=>?_) (fun cdv A outer s H vs Q E hr h=>?_)
 ·obtain ⟨l,xs,ps,rfl,_⟩:=h
  rfl
 ·obtain ⟨l,xs,ps,rfl,hl,hx,nd,nm,len,q⟩:=h
  have hxl:=Paired.length hx
  refine WSs.step (ps_set (i:=1) sc_parts_by_name.nd rfl (by first | exact Or.inl rfl | exact Or.inr rfl) pe_dnewKS) fun d H1 s1 n1 e1=>?_
  refine WSs.step (ps_for PassesOwn.never rfl (pi_list (pv 0)) (pg_name (i:=2) sc_parts_by_name.nd rfl (by first | exact Or.inl rfl | exact Or.inr rfl)) pss_w) ⟨_,rfl,l,rfl,⟨_,SqL.of (s1.at hl)⟩,for_list (K:=K) (xs:=xs.map V.ref) (fun i σ H'=>(∃ o,σ=[some (.ref l),some (.ref d),o])∧Same H H'∧∃ kvs,H' d=some (.dK kvs)∧DP keyN (RP T H) kvs (qP (ps.take i))) ⟨⟨none,rfl⟩,s1,[],e1,.nil⟩ ?_ ?_ ?_⟩
  ·rintro i σ H' _ ⟨_,s2,_⟩
   exact SqL.of (s2.at hl)
  ·rintro i v σ H2 hi ⟨⟨o,rfl⟩,s2,kvs,hd,hD⟩
   rw [List.getElem?_map] at hi
   obtain ⟨x,hxi,rfl⟩:=Option.map_eq_some_iff.mp hi
   obtain ⟨p,hp,C,hC,dx,hO⟩:=Paired.get hx hxi
   have hm:p ∈ ps:=List.mem_of_getElem? hp
   have hil:=(List.getElem?_eq_some_iff.mp hp).1
   have hn:valV kvs (keyN p.2)=none:=hD.none keyN_inj (by
    rw [qP_fst,List.map_take]
    exact nd_take nd (by rw [List.getElem?_map,hp]; rfl))
   have hkl:kvs.length ≤ 100:=by
    have:=hD.len
    unfold qP at this
    rw [List.length_map,List.length_take] at this
    omega
   refine WSs.step (ps_expr (pe_call (G_refuse_name T) hr rfl T.m_refuse_name T.d_refuse_name.F.kp T.d_refuse_name.b .nil pass0 (pa_c (pe_fld (pv 2) rfl) (pa_c (pv 1) pa_nil)))) ⟨_,rfl,x,C,dx,_,_,rfl,s2.at hO,hC.cls.1,hC.cls.2.1,rfl,_,rfl,p.2,d,kvs,rfl,nm p hm,hd,hn,fun H3 s3=>?_⟩
   have s13:=s2.trans s3
   refine WSs.last (ps_dput (hu_of hr) (pv 1) (pe_fld (pv 2) rfl) (pv 2) rfl) ⟨_,rfl,_,rfl,_,rfl,x,C,dx,_,_,rfl,s13.at hO,hC.cls.1,hC.cls.2.1,rfl,d,_,rfl,DPut.k (k:=keyN p.2) (s3.at hd) (small1000 (by omega)),⟨_,rfl⟩,s13.upd0 n1,_,upd_same,?_⟩
   have:qP (ps.take (i + 1))=qP (ps.take i) ++ [(p.2,p.1)]:=by
    unfold qP
    rw [List.take_add_one,hp,List.map_append]
    rfl
   rw [this]
   exact hD.put hn ⟨x,C,rfl,hC,dx,hO⟩
  ·rintro σ H2 ⟨⟨o,rfl⟩,s2,kvs,hd,hD⟩
   rw [List.length_map,hxl,List.take_length] at hD
   exact WSs.last (ps_ret (pv 1)) ⟨_,rfl,q d kvs H2 s2 n1 hd hD⟩
theorem G_parts_by_name (T:Tx K mg) {k:Nat} (h:3 ≤ k:=by decide):FnOk P w K mg base CX0 k T.d_parts_by_name.f T.d_parts_by_name.fd ["parts"] (spPbn T):=(ok_parts_by_name T).mono h
theorem _root_.L2.Same.frz {H H1:Hp} {d:Addr} {u:HO} (s:Same H H1):Same (upd H d u) (upd H1 d u):=fun b o e=>by
 by_cases z:b=d
 ·rw [z,upd_same] at e ⊢; exact e
 ·rw [upd_ne z] at e ⊢; exact s.at e
def spEtp (T:Tx K mg):Sp:=fun vs H Q _=>∃ (d:Addr) (kvs:List (Key×V)) (ps:List EndT),vs=[.ref d]∧H d=some (.dK kvs)∧DP keyN (RP T H) kvs (qP ps)∧(ps.map Prod.snd).Nodup∧ps.length ≤ 100 ∧
 ∀ (a:Addr) (ka:List (List Key×V)) (H':Hp),Same H H'→H a=none→H' a=some (.dT ka)→DP keyE (RA T H) ka (qA ps)→Q (.ref a) H'
theorem qA_len (ps:List EndT):(qA ps).length ≤ 4 * ps.length:=by
 induction ps with
 | nil=>decide
 | cons p ps ih =>
  have:=ends_le p.1
  have e:qA (p :: ps)=(endsK p.1).map (fun e=>((p.2,e),p.1)) ++ qA ps:=rfl
  rw [e,List.length_append,List.length_map,List.length_cons]
  omega
theorem qA_snoc {ps:List EndT} {i:Nat} {p:EndT} (h:ps[i]? = some p):qA (ps.take (i + 1))=qA (ps.take i) ++ (endsK p.1).map fun e=>((p.2,e),p.1):=by
 unfold qA
 rw [List.take_add_one,h,List.flatMap_append]
 simp
theorem ok_ends_to_parts (T:Tx K mg):FnOk P w K mg base CX0 2 T.d_ends_to_parts.f T.d_ends_to_parts.fd ["part_of"] (spEtp T):=by
 refine T.d_ends_to_parts.F.okW sc_ends_to_parts (fun vs H Q E h=>?_) (fun cdv A outer s H vs Q E hr h=>?_)
 ·obtain ⟨d,kvs,ps,rfl,_⟩:=h
  rfl
 ·obtain ⟨d,kvs,ps,rfl,hd,hD,nd,len,q⟩:=h
  have hkl:kvs.length=ps.length:=by have:=hD.len; unfold qP at this; rw [List.length_map] at this; exact this
  refine WSs.step (ps_set (i:=1) sc_ends_to_parts.nd rfl (by first | exact Or.inl rfl | exact Or.inr rfl) pe_dnewTS) fun a H1 s1 n1 e1=>?_
  have had:a ≠ d:=fun z=>by rw [z,hd] at n1; cases n1
  refine WSs.step (ps_thaw (ps_for PassesOwn.never rfl (pi_items (pv 0)) (pg_tup rfl (pgs_cons (pg_name (i:=2) sc_ends_to_parts.nd rfl (by first | exact Or.inl rfl | exact Or.inr rfl)) (pgs_cons (pg_name (i:=3) sc_ends_to_parts.nd rfl (by first | exact Or.inl rfl | exact Or.inr rfl)) pgs_nil))) pss_w)) ⟨_,rfl,d,_,rfl,s1.at hd,fun o nf=>for_items (fun i σ H'=>(∃ o2 o3 o4,σ=[some (.ref d),some (.ref a),o2,o3,o4])∧Same (upd H d (.frz o (.dK kvs))) H'∧∃ ka,H' a=some (.dT ka)∧DP keyE (RA T H) ka (qA (ps.take i))) ⟨⟨none,none,none,rfl⟩,s1.frz,[],by rw [upd_ne had]; exact e1,.nil⟩ ?_ ?_ ?_⟩
  ·rintro i σ H' _ ⟨_,s2,_⟩
   exact s2.at upd_same
  ·rintro i kv σ H2 hi ⟨⟨o2,o3,o4,rfl⟩,s2,ka,ha,hA⟩ tp H3 s3 n3 e3
   obtain ⟨⟨nm,kd⟩,hq,hk,x,C,hv,hC,dx,hO⟩:=Paired.get hD hi
   have hp:ps[i]? = some (kd,nm):=by
    unfold qP at hq
    rw [List.getElem?_map] at hq
    obtain ⟨⟨p1,p2⟩,hp,e⟩:=Option.map_eq_some_iff.mp hq
    rw [hp]
    simp only [Prod.mk.injEq] at e
    rw [e.1,e.2]
   have hil:=(List.getElem?_eq_some_iff.mp hp).1
   have hxd:x ≠ d:=fun z=>by rw [z,hd] at hO; cases hO
   have hOF:upd H d (.frz o (.dK kvs)) x=some (.ins C dx [("name",.str nm)]):=by rw [upd_ne hxd]; exact hO
   obtain ⟨f1,d1,m1,b1,g1⟩:=hC.ends
   have hk:kv.1=Sum.inr nm:=hk
   rw [hk,hv] at e3
   have hFa:upd H d (.frz o (.dK kvs)) a=none:=by rw [upd_ne had]; exact n1
   refine ⟨tp,_,rfl,SqT.of e3,rfl,_,_,rfl,_,_,rfl,rfl,?_⟩
   have s23:=s2.trans s3
   refine WSs.last (ps_for PassesOwn.never rfl (pi_list pe_w) (pg_name (i:=4) sc_ends_to_parts.nd rfl (by first | exact Or.inl rfl | exact Or.inr rfl)) pss_w) (WE.of (pe_meth0 (pv 3) hC.cls.1 m1 (g1 _ _ _ 1 (by decide)) hr b1 .nil pass0) ⟨_,rfl,x,dx,_,rfl,s23.at hOF,rfl,_,rfl,fun p H4 s4 n4 e4=>⟨p,rfl,⟨_,SqL.of e4⟩,for_list (K:=K) (xs:=(endsK kd).map V.str) (fun j σ H'=>(∃ o4,σ=[some (.ref d),some (.ref a),some (.str nm),some (.ref x),o4])∧Same (upd H d (.frz o (.dK kvs))) H'∧H' p=some (.lst ((endsK kd).map V.str))∧∃ ka,H' a=some (.dT ka)∧DP keyE (RA T H) ka (qA (ps.take i) ++ ((endsK kd).take j).map fun e=>((nm,e),kd))) ⟨⟨_,rfl⟩,s23.trans s4,e4,ka,s4.at (s3.at ha),by rw [List.take_zero,List.map_nil,List.append_nil]; exact hA⟩ ?_ ?_ ?_⟩⟩)
   ·rintro j σ H' _ ⟨_,_,z,_⟩
    exact SqL.of z
   ·rintro j v σ H5 hj ⟨⟨o4,rfl⟩,s5,hp5,ka5,ha5,hA5⟩
    rw [List.getElem?_map] at hj
    obtain ⟨e,he,rfl⟩:=Option.map_eq_some_iff.mp hj
    have hlen5:ka5.length ≤ 500:=by
     have h1:=hA5.len
     have h2:=qA_len (ps.take i)
     have h3:=ends_le kd
     rw [List.length_append,List.length_map,List.length_take] at h1
     rw [List.length_take] at h2
     omega
    have hnew:valV ka5 (keyE (nm,e))=none:=hA5.none keyE_inj (by
     have h1:(endsOf (ps.take (i + 1))).Nodup:=endsOf_nd (by rw [List.map_take]; exact nd.sublist (List.take_sublist _ _))
     rw [← qA_fst,qA_snoc hp,List.map_append] at h1
     rw [List.map_append]
     have ed:endsK kd=(endsK kd).take j ++ (e :: (endsK kd).drop (j + 1)):=by rw [← drop_get he,List.take_append_drop]
     rw [show ((kd,nm):EndT).1=kd from rfl,ed,List.map_append,List.map_append,List.map_cons,List.map_cons,← List.append_assoc,List.nodup_append] at h1
     intro m
     exact h1.2.2 _ m _ List.mem_cons_self rfl)
    refine WSs.last (ps_dput (hu_of hr) (pv 1) (pe_tupS (pa_c (pv 2) (pa_c (pv 4) pa_nil))) (pv 3) rfl) ⟨_,rfl,_,rfl,_,rfl,_,rfl,sz (by simp),fun t H6 s6 n6 e6=>⟨a,_,rfl,DPut.t (k:=keyE (nm,e)) (s6.at ha5) e6 (small1000 (by omega)),⟨_,rfl⟩,(s5.trans s6).upd0 hFa,?_,_,upd_same,?_⟩⟩
    ·rw [upd_ne (ne_of hp5 ha5 (fun z=>nomatch z))]
     exact s6.at hp5
    ·have:((endsK kd).take (j + 1)).map (fun e=>((nm,e),kd))=((endsK kd).take j).map (fun e=>((nm,e),kd)) ++ [((nm,e),kd)]:=by
      rw [List.take_add_one,he,List.map_append]
      rfl
     rw [this,← List.append_assoc]
     exact hA5.put hnew ⟨x,C,rfl,hC,dx,hO⟩
   ·rintro σ H5 ⟨⟨o4,rfl⟩,s5,hp5,ka5,ha5,hA5⟩
    rw [List.length_map,List.take_length] at hA5
    refine ⟨⟨_,_,_,rfl⟩,s5,ka5,ha5,?_⟩
    rw [qA_snoc hp]
    exact hA5
  ·rintro σ H2 ⟨⟨o2,o3,o4,rfl⟩,s2,ka,ha,hA⟩
   rw [hkl,List.take_length] at hA
   refine ⟨d,o,_,s2.at upd_same,nf,WSs.last (ps_ret (pv 1)) ⟨_,rfl,q a ka _ (s2.thaw hd) n1 ?_ hA⟩⟩
   rw [upd_ne had]
   exact ha
theorem G_ends_to_parts (T:Tx K mg) {k:Nat} (h:2 ≤ k:=by decide):FnOk P w K mg base CX0 k T.d_ends_to_parts.f T.d_ends_to_parts.fd ["part_of"] (spEtp T):=(ok_ends_to_parts T).mono h
def spPair:Sp:=fun vs H Q _=>∃ (t:Addr) (u v:V),vs=[.ref t]∧H t=some (.tup [u,v])∧Q (.bl true) H
theorem ok_is_pair (T:Tx K mg):FnOk P w K mg base CX0 1 T.d_is_pair.f T.d_is_pair.fd ["thing"] spPair:=by
 refine T.d_is_pair.F.okW sc_is_pair (fun vs H Q E h=>?_) (fun cdv A outer s H vs Q E hr h=>?_)
 ·obtain ⟨t,u,v,rfl,_⟩:=h
  rfl
 ·obtain ⟨t,u,v,rfl,ht,q⟩:=h
  exact WSs.last (ps_ret (pe_and (pe_callB (r:=rIsi K) call_isiX (by rfl) T.n_isinstance PyProof.Rows.boot_isinstance (pa_c (pv 0) (pa_c (pe_bltn (v:=.ty "tuple") (by rfl) T.n_tuple PyProof.Rows.boot_tuple rfl) pa_nil))) (pe_one (pe_cmpR (r:=rEqX K) (oEqX hr) (pe_callB (r:=rLenX K) oLenX (by rfl) T.n_len PySem.boot_len (pa_c (pv 0) pa_nil)) pe_int (nomark _))))) ⟨_,rfl,_,_,true,_,rfl,TyOf.tup ht,.inl ⟨_,rfl,T.kTT⟩,_,rfl,iteT ⟨_,rfl,.inl ⟨t,_,rfl,.inr (SqT.of ht),.inl ⟨rfl,q⟩⟩⟩⟩
theorem G_is_pair (T:Tx K mg) {k:Nat} (h:1 ≤ k:=by decide):FnOk P w K mg base CX0 k T.d_is_pair.f T.d_is_pair.fd ["thing"] spPair:=(ok_is_pair T).mono h
def spKn:Sp:=fun vs H Q _=>∃ (t d:Addr) (e:EndT) (kvs:List (List Key×V)),vs=[.ref t,.ref d]∧PairAt H t e∧H d=some (.dT kvs)∧Q (.bl (valV kvs (keyE e)).isSome) H
theorem ok_is_known (T:Tx K mg):FnOk P w K mg base CX0 2 T.d_is_known.f T.d_is_known.fd ["end", "ends"] spKn:=by
 refine T.d_is_known.F.okW sc_is_known (fun vs H Q E h=>?_) (fun cdv A outer s H vs Q E hr h=>?_)
 ·obtain ⟨t,d,e,kvs,rfl,_⟩:=h
  rfl
 ·obtain ⟨t,d,e,kvs,rfl,ht,hd,q⟩:=h
  exact WSs.last (ps_ret (pe_and (pe_call (G_is_pair T) hr rfl T.m_is_pair T.d_is_pair.F.kp T.d_is_pair.b .nil pass0 (pa_c (pv 0) pa_nil)) (pe_and (pe_callB (r:=rIsi K) call_isiX (by rfl) T.n_isinstance PyProof.Rows.boot_isinstance (pa_c (pe_ix (r:=rIx K) ix_seq (pv 0) pe_int (fun _ _=>rfl)) (pa_c (pe_bltn (v:=.ty "str") (by rfl) T.n_str PyProof.Rows.boot_str rfl) pa_nil))) (pe_and (pe_callB (r:=rIsi K) call_isiX (by rfl) T.n_isinstance PyProof.Rows.boot_isinstance (pa_c (pe_ix (r:=rIx K) ix_seq (pv 0) pe_int (fun _ _=>rfl)) (pa_c (pe_bltn (v:=.ty "str") (by rfl) T.n_str PyProof.Rows.boot_str rfl) pa_nil))) (pe_one (pe_cmpR (r:=rInY K) (oInY hr) (pv 0) (pv 1) (by with_unfolding_all rfl))))))) ⟨_,rfl,t,_,_,rfl,ht,_,rfl,iteT ⟨_,rfl,.inr (.inl ⟨t,_,0,_,rfl,rfl,SqT.of ht,atI_nat (j:=0) rfl,_,_,true,_,rfl,TyOf.str _,.inl ⟨_,rfl,T.kSS⟩,_,rfl,iteT ⟨_,rfl,.inr (.inl ⟨t,_,1,_,rfl,rfl,SqT.of ht,atI_nat (j:=1) rfl,_,_,true,_,rfl,TyOf.str _,.inl ⟨_,rfl,T.kSS⟩,_,rfl,iteT ⟨_,rfl,_,rfl,.inr (.inl ⟨d,_,rfl,DGet.t (k:=keyE e) hd ht,q⟩)⟩⟩)⟩⟩)⟩⟩
theorem G_is_known (T:Tx K mg) {k:Nat} (h:2 ≤ k:=by decide):FnOk P w K mg base CX0 k T.d_is_known.f T.d_is_known.fd ["end", "ends"] spKn:=(ok_is_known T).mono h
end
end K13
end
section
namespace K13
open PySem L2 NM YM
section
variable {P:Program} {w:World} {K:PySem.W.Frag} {mg:Str→Option Value} {base:Heap}
seal PySem.wpAny
def spRj:Sp:=fun vs H Q _=>∃ (t pa d a b:Addr) (e1 e2:EndT) (ka kd:List (List Key×V)),vs=[.ref t,.ref pa,.ref d]∧H t=some (.tup [.ref a,.ref b])∧PairAt H a e1∧PairAt H b e2∧H pa=some (.dT ka)∧H d=some (.dT kd) ∧
 (valV ka (keyE e1)).isSome=true∧(valV ka (keyE e2)).isSome=true∧valV kd (keyE e1)=none∧valV kd (keyE e2)=none∧e1.1 ≠ e2.1∧Q .non H
theorem ok_refuse_join (T:Tx K mg):FnOk P w K mg base CX0 3 T.d_refuse_join.f T.d_refuse_join.fd ["join", "part_at", "joined"] spRj:=by
 refine T.d_refuse_join.F.okW sc_refuse_join (fun vs H Q E h=>?_) (fun cdv A outer s H vs Q E hr h=>?_)
 ·obtain ⟨t,pa,d,a,b,e1,e2,ka,kd,rfl,_⟩:=h
  rfl
 ·obtain ⟨t,pa,d,a,b,e1,e2,ka,kd,rfl,ht,ha,hb,hpa,hd,k1,k2,n1,n2,ne,q⟩:=h
  refine WSs.step (ps_if (pt_not (pt_val (pe_call (G_is_pair T) hr rfl T.m_is_pair T.d_is_pair.F.kp T.d_is_pair.b .nil pass0 (pa_c (pv 0) pa_nil)))) pss_w pss_nil) ⟨_,rfl,t,_,_,rfl,ht,_,rfl,ite2 (fun z=>absurd z (by decide)) (fun _=>?_)⟩
  refine WSs.step (ps_for PassesOwn.never rfl (pi_tup (pv 0)) (pg_name (i:=3) sc_refuse_join.nd rfl (by first | exact Or.inl rfl | exact Or.inr rfl)) pss_w) ⟨_,rfl,t,rfl,⟨_,SqT.of ht⟩,for_tup (K:=K) (xs:=[.ref a,.ref b]) (fun i σ H'=>(∃ o,σ=[some (.ref t),some (.ref pa),some (.ref d),o])∧H'=H) ⟨⟨none,rfl⟩,rfl⟩ ?_ ?_ ?_⟩
  ·rintro i σ H' _ ⟨_,rfl⟩
   exact SqT.of ht
  ·rintro i v σ H' hi ⟨⟨o,rfl⟩,hH⟩
   rw [hH]
   obtain ⟨x,e,rfl,hx,h1,h2⟩:∃ x e,v=V.ref x∧PairAt H x e∧(valV ka (keyE e)).isSome=true∧valV kd (keyE e)=none:=by
    match i,hi with
    | 0,hi=>cases hi; exact ⟨a,e1,rfl,ha,k1,n1⟩
    | 1,hi=>cases hi; exact ⟨b,e2,rfl,hb,k2,n2⟩
   refine WSs.step (ps_if (pt_not (pt_val (pe_call (G_is_known T) hr rfl T.m_is_known T.d_is_known.F.kp T.d_is_known.b .nil pass0 (pa_c (pv 3) (pa_c (pv 1) pa_nil))))) pss_w pss_nil) ⟨_,rfl,_,rfl,x,pa,e,ka,rfl,hx,hpa,_,rfl,ite2 (fun z=>?_) (fun _=>?_)⟩
   ·rw [h1] at z
    exact absurd z (by decide)
   refine WSs.last (ps_if (pt_cmpR (r:=rInY K) (oInY hr) (pv 3) (pv 2) (by with_unfolding_all rfl)) pss_w pss_nil) ⟨_,rfl,_,rfl,.inr (.inl ⟨d,_,rfl,DGet.t (k:=keyE e) hd hx,_,rfl,ite2 (fun z=>?_) (fun _=>⟨⟨_,rfl⟩,rfl⟩)⟩)⟩
   rw [h2] at z
   exact absurd z (by decide)
  ·rintro σ H' ⟨⟨o,rfl⟩,hH⟩
   rw [hH]
   refine WSs.last (ps_if (pt_cmpR (r:=rEqX K) (oEqX hr) (pe_ix (r:=rIx K) ix_seq (pe_ix (r:=rIx K) ix_seq (pv 0) pe_int (fun _ _=>rfl)) pe_int (fun _ _=>rfl)) (pe_ix (r:=rIx K) ix_seq (pe_ix (r:=rIx K) ix_seq (pv 0) pe_int (fun _ _=>rfl)) pe_int (fun _ _=>rfl)) (nomark _)) pss_w pss_nil) ⟨_,rfl,.inr (.inl ⟨t,_,0,_,rfl,rfl,SqT.of ht,atI_nat (j:=0) rfl,.inr (.inl ⟨a,_,0,_,rfl,rfl,SqT.of ha,atI_nat (j:=0) rfl,_,rfl,.inr (.inl ⟨t,_,1,_,rfl,rfl,SqT.of ht,atI_nat (j:=1) rfl,.inr (.inl ⟨b,_,0,_,rfl,rfl,SqT.of hb,atI_nat (j:=0) rfl,.inl ⟨rfl,_,rfl,ite2 (fun z=>?_) (fun _=>q)⟩⟩)⟩)⟩)⟩)⟩
   exact absurd (V.str.inj (of_decide_eq_true z)) ne
theorem G_refuse_join (T:Tx K mg) {k:Nat} (h:3 ≤ k:=by decide):FnOk P w K mg base CX0 k T.d_refuse_join.f T.d_refuse_join.fd ["join", "part_at", "joined"] spRj:=(ok_refuse_join T).mono h
def spJe:Sp:=fun vs H Q _=>∃ (jl pa:Addr) (js:List (EndT×EndT)) (ka:List (List Key×V)),vs=[.ref jl,.ref pa]∧JoinsAt H jl js∧H pa=some (.dT ka)∧(∀ e ∈ flatJ js,(valV ka (keyE e)).isSome=true)∧ka.length=(flatJ js).length∧(flatJ js).Nodup∧(∀ j ∈ js,j.1.1 ≠ j.2.1)∧js.length ≤ 300 ∧
 ∀ (d:Addr) (kj:List (List Key×V)) (H':Hp),Same H H'→H d=none→H' d=some (.dT kj)→DP keyE (RJ H) kj (qJ js)→Q (.ref d) H'
theorem qJ_snoc {js:List (EndT×EndT)} {i:Nat} {j:EndT×EndT} (h:js[i]? = some j):qJ (js.take (i + 1))=qJ (js.take i) ++ [(j.1,j.2)] ++ [(j.2,j.1)]:=by
 unfold qJ
 rw [List.take_add_one,h,List.flatMap_append]
 simp
theorem qJ_len (js:List (EndT×EndT)):(qJ js).length=2 * js.length:=by
 induction js with
 | nil=>rfl
 | cons j js ih =>
  have e:qJ (j :: js)=[(j.1,j.2),(j.2,j.1)] ++ qJ js:=rfl
  rw [e,List.length_append,ih]
  simp only [List.length_cons,List.length_nil]
  omega
theorem ok_joined_ends (T:Tx K mg):FnOk P w K mg base CX0 4 T.d_joined_ends.f T.d_joined_ends.fd ["joins", "part_at"] spJe:=by
 refine T.d_joined_ends.F.okW sc_joined_ends (fun vs H Q E h=>?_) (fun cdv A outer s H vs Q E hr h=>?_)
 ·obtain ⟨jl,pa,js,ka,rfl,_⟩:=h
  rfl
 ·obtain ⟨jl,pa,js,ka,rfl,hJ,hpa,hk,hkl,nd,apart,len,q⟩:=h
  obtain ⟨ts,hl,hts⟩:=hJ
  have htl:=Paired.length hts
  refine WSs.step (ps_set (i:=2) sc_joined_ends.nd rfl (by first | exact Or.inl rfl | exact Or.inr rfl) pe_dnewTS) fun d H1 s1 n1 e1=>?_
  refine WSs.step (ps_for PassesOwn.never rfl (pi_list (pv 0)) (pg_name (i:=3) sc_joined_ends.nd rfl (by first | exact Or.inl rfl | exact Or.inr rfl)) pss_w) ⟨_,rfl,jl,rfl,⟨_,SqL.of (s1.at hl)⟩,for_list (K:=K) (xs:=ts.map V.ref) (fun i σ H'=>(∃ o,σ=[some (.ref jl),some (.ref pa),some (.ref d),o])∧Same H H'∧∃ kj,H' d=some (.dT kj)∧DP keyE (RJ H) kj (qJ (js.take i))) ⟨⟨none,rfl⟩,s1,[],e1,.nil⟩ ?_ ?_ ?_⟩
  ·rintro i σ H' _ ⟨_,s2,_⟩
   exact SqL.of (s2.at hl)
  ·rintro i v σ H2 hi ⟨⟨o,rfl⟩,s2,kj,hd,hD⟩
   rw [List.getElem?_map] at hi
   obtain ⟨t,hti,rfl⟩:=Option.map_eq_some_iff.mp hi
   obtain ⟨j,hj,a,b,ht,ha,hb⟩:=Paired.get hts hti
   have hm:j ∈ js:=List.mem_of_getElem? hj
   have hil:=(List.getElem?_eq_some_iff.mp hj).1
   have m1:j.1 ∈ flatJ js:=List.mem_flatMap.mpr ⟨j,hm,by simp⟩
   have m2:j.2 ∈ flatJ js:=List.mem_flatMap.mpr ⟨j,hm,by simp⟩
   have hlen:kj.length ≤ 600:=by
    have h1:=hD.len
    rw [qJ_len,List.length_take] at h1
    omega
   have hnd:(flatJ (js.take i) ++ [j.1] ++ [j.2]).Nodup:=by
    have h1:(flatJ (js.take (i + 1))).Nodup:=nd.sublist (by
     have:flatJ js=flatJ (js.take (i + 1)) ++ flatJ (js.drop (i + 1)):=by rw [← flatJ_app,List.take_append_drop]
     rw [this]
     exact List.sublist_append_left _ _)
    rw [← qJ_fst,qJ_snoc hj,List.map_append,List.map_append,qJ_fst] at h1
    exact h1
   have nd1:j.1 ∉ flatJ (js.take i):=fun z=>(List.nodup_append.mp (List.nodup_append.mp hnd).1).2.2 _ z _ List.mem_cons_self rfl
   have nd2:j.2 ∉ flatJ (js.take i) ++ [j.1]:=fun z=>(List.nodup_append.mp hnd).2.2 _ z _ List.mem_cons_self rfl
   have v1:valV kj (keyE j.1)=none:=hD.none keyE_inj (by rw [qJ_fst]; exact nd1)
   have v2:valV kj (keyE j.2)=none:=hD.none keyE_inj (by rw [qJ_fst]; exact fun z=>nd2 (List.mem_append_left _ z))
   refine WSs.step (ps_expr (pe_call (G_refuse_join T) hr rfl T.m_refuse_join T.d_refuse_join.F.kp T.d_refuse_join.b .nil pass0 (pa_c (pv 3) (pa_c (pv 1) (pa_c (pv 2) pa_nil))))) ⟨_,rfl,_,rfl,_,rfl,t,pa,d,a,b,j.1,j.2,ka,kj,rfl,s2.at ht,ha.mono s2,hb.mono s2,s2.at hpa,hd,hk _ m1,hk _ m2,v1,v2,apart j hm,?_⟩
   have hD1:DP keyE (RJ H) (putK kj (keyE j.1) (.ref b)) (qJ (js.take i) ++ [(j.1,j.2)]):=hD.put v1 ⟨b,rfl,hb⟩
   have hl1:=length_putK kj (keyE j.1) (.ref b)
   have v3:valV (putK kj (keyE j.1) (.ref b)) (keyE j.2)=none:=hD1.none keyE_inj (by rw [List.map_append,qJ_fst]; exact nd2)
   refine WSs.step (ps_dput (hu_of hr) (pv 2) (pe_ix (r:=rIx K) ix_seq (pv 3) pe_int (fun _ _=>rfl)) (pe_ix (r:=rIx K) ix_seq (pv 3) pe_int (fun _ _=>rfl)) rfl) ⟨_,rfl,.inr (.inl ⟨t,_,1,_,rfl,rfl,SqT.of (s2.at ht),atI_nat (j:=1) rfl,_,rfl,_,rfl,.inr (.inl ⟨t,_,0,_,rfl,rfl,SqT.of (s2.at ht),atI_nat (j:=0) rfl,d,_,rfl,DPut.t (k:=keyE j.1) hd (key_tup (ha.mono s2)) (small1000 (by omega)),?_⟩)⟩)⟩
   have s3:Same H (upd H2 d (.dT (putK kj (keyE j.1) (.ref b)))):=s2.upd0 n1
   refine WSs.last (ps_dput (hu_of hr) (pv 2) (pe_ix (r:=rIx K) ix_seq (pv 3) pe_int (fun _ _=>rfl)) (pe_ix (r:=rIx K) ix_seq (pv 3) pe_int (fun _ _=>rfl)) rfl) ⟨_,rfl,.inr (.inl ⟨t,_,0,_,rfl,rfl,SqT.of (s3.at ht),atI_nat (j:=0) rfl,_,rfl,_,rfl,.inr (.inl ⟨t,_,1,_,rfl,rfl,SqT.of (s3.at ht),atI_nat (j:=1) rfl,d,_,rfl,DPut.t (k:=keyE j.2) upd_same (key_tup (hb.mono s3)) (small1000 (by omega)),⟨_,rfl⟩,s3.upd0 n1,_,upd_same,?_⟩)⟩)⟩
   rw [qJ_snoc hj]
   exact hD1.put v3 ⟨a,rfl,ha⟩
  ·rintro σ H2 ⟨⟨o,rfl⟩,s2,kj,hd,hD⟩
   rw [List.length_map,htl,List.take_length] at hD
   have hlj:kj.length=ka.length:=by
    have h1:=hD.len
    rw [hkl,h1,← qJ_fst,List.length_map]
   refine WSs.step (ps_if (pt_cmpR op_lt (pe_callB (r:=rLenT) call_lenT (by rfl) T.n_len PySem.boot_len (pa_c (pv 2) pa_nil)) (pe_callB (r:=rLenT) call_lenT (by rfl) T.n_len PySem.boot_len (pa_c (pv 1) pa_nil)) (nomark _)) pss_w pss_nil) ⟨_,rfl,d,kj,rfl,hd,_,rfl,pa,ka,rfl,s2.at hpa,_,_,rfl,rfl,_,rfl,ite2 (fun z=>?_) (fun _=>?_)⟩
   ·have:(kj.length:Int) < (ka.length:Int):=of_decide_eq_true z
    exact absurd this (by omega)
   exact WSs.last (ps_ret (pv 2)) ⟨_,rfl,q d kj H2 s2 n1 hd hD⟩
theorem G_joined_ends (T:Tx K mg) {k:Nat} (h:4 ≤ k:=by decide):FnOk P w K mg base CX0 k T.d_joined_ends.f T.d_joined_ends.fd ["joins", "part_at"] spJe:=(ok_joined_ends T).mono h
end
end K13
end
section
namespace K13
open PySem L2 NM YM
section
variable {P:Program} {w:World} {K:PySem.W.Frag} {mg:Str→Option Value} {base:Heap}
seal PySem.wpAny
def spRp (T:Tx K mg):Sp:=fun vs H Q _=>∃ (t pa l x C:Addr) (e:EndT) (k nm:Str) (ka:List (List Key×V)) (us:List Addr) (es:List EndT),vs=[.ref t,.ref pa,.ref l]∧PairAt H t e∧H pa=some (.dT ka)∧valV ka (keyE e)=some (.ref x)∧ClsOf T k C∧PObj H C x nm∧bearsS k=true ∧
 H l=some (.lst (us.map V.ref))∧Paired (PairAt H) us es∧e ∉ es∧Q .non H
theorem trP_inj {a b:EndT} (h:trP a=trP b):a=b:=by
 obtain ⟨a1,a2⟩:=a
 obtain ⟨b1,b2⟩:=b
 unfold trP at h
 simp only [Tr.tup.injEq,List.cons.injEq,Tr.str.injEq,and_true] at h
 rw [h.1,h.2]
theorem ok_refuse_post (T:Tx K mg):FnOk P w K mg base CX0 3 T.d_refuse_post.f T.d_refuse_post.fd ["end", "part_at", "ends_with_signals"] (spRp T):=by
 refine T.d_refuse_post.F.okW sc_refuse_post (fun vs H Q E h=>?_) (fun cdv A outer s H vs Q E hr h=>?_)
 ·obtain ⟨t,pa,l,x,C,e,k,nm,ka,us,es,rfl,_⟩:=h
  rfl
 ·obtain ⟨t,pa,l,x,C,e,k,nm,ka,us,es,rfl,ht,hpa,hv,hC,⟨dx,hO⟩,hb,hl,hu,hne,q⟩:=h
  obtain ⟨f1,d1,m1,b1,g1⟩:=hC.bears
  refine WSs.step (ps_if (pt_not (pt_val (pe_call (G_is_known T) hr rfl T.m_is_known T.d_is_known.F.kp T.d_is_known.b .nil pass0 (pa_c (pv 0) (pa_c (pv 1) pa_nil))))) pss_w pss_nil) ⟨_,rfl,_,rfl,t,pa,e,ka,rfl,ht,hpa,_,rfl,ite2 (fun z=>?_) (fun _=>?_)⟩
  ·rw [hv] at z
   exact absurd z (by simp)
  refine WSs.step (ps_if (pt_not (pt_val pe_w)) pss_w pss_nil) (WE.of (pe_meth0 (pe_dget (hu_of hr) (pv 1) (pv 0) (fun _ _=>rfl)) hC.cls.1 m1 (g1 _ _ _ 2 (by decide)) hr b1 .nil pass0) ⟨_,rfl,_,rfl,pa,_,rfl,by rw [← hv]; exact DGet.t (k:=keyE e) hpa ht,x,dx,_,rfl,hO,rfl,_,rfl,_,rfl,ite2 (fun z=>?_) (fun _=>?_)⟩)
  ·rw [hb] at z
   exact absurd z (by decide)
  refine WSs.last (ps_if (pt_cmpR (r:=rInY K) (oInY hr) (pv 0) (pv 2) (by with_unfolding_all rfl)) pss_w pss_nil) ⟨_,rfl,_,rfl,.inr (.inr (.inr ⟨l,1,trP e,es.map trP,us,rfl,SqL.of hl,by decide,Im.tup (n:=0) (SqT.of ht) (.cons (.str _) (.cons (.str _) .nil)),pairs_im hu,_,rfl,ite2 (fun z=>?_) (fun _=>q)⟩))⟩
  have z:trP e ∈ es.map trP:=of_decide_eq_true z
  obtain ⟨e',he',h'⟩:=List.mem_map.mp z
  rw [trP_inj h'] at he'
  exact absurd he' hne
theorem G_refuse_post (T:Tx K mg) {k:Nat} (h:3 ≤ k:=by decide):FnOk P w K mg base CX0 k T.d_refuse_post.f T.d_refuse_post.fd ["end", "part_at", "ends_with_signals"] (spRp T):=(ok_refuse_post T).mono h
theorem PairAt.offD {H:Hp} {c t:Addr} {o:HO} {xs:List (Key×V)} {q:EndT} (h:PairAt H t q) (hc:H c=some (.dK xs)):PairAt (upd H c o) t q:=by
 unfold PairAt at h ⊢
 exact (upd_ne fun z=>by rw [z,hc] at h; cases h).trans h
def spPo (T:Tx K mg):Sp:=fun vs H Q _=>∃ (sl pa:Addr) (ts:List Addr) (sg:List (Str×Str×Str)) (ka:List (List Key×V)),vs=[.ref sl,.ref pa]∧H sl=some (.lst (ts.map V.ref))∧Paired (SigAt H) ts sg∧H pa=some (.dT ka)∧(∀ q ∈ sg,nameV q.1)∧(sg.map Prod.fst).Nodup∧(sg.map Prod.snd).Nodup∧sg.length ≤ 100 ∧
 (∀ q ∈ sg,∃ x C k,valV ka (keyE (q.2.1,q.2.2))=some (.ref x)∧ClsOf T k C∧PObj H C x q.2.1∧bearsS k=true) ∧
 ∀ (d:Addr) (ks:List (Key×V)) (H':Hp),Same H H'→H d=none→H' d=some (.dK ks)→DP keyN (RS H') ks (qS sg)→Q (.ref d) H'
theorem RS_vals {H:Hp} {ks:List (Key×V)} {qs:List (Str×EndT)} (h:DP keyN (RS H) ks qs):∃ us:List Addr,ks.map (fun kv=>kv.2)=us.map V.ref∧Paired (PairAt H) us (qs.map Prod.snd):=by
 unfold DP at h
 induction h with
 | nil=>exact ⟨[],rfl,.nil⟩
 | cons r _ ih =>
  obtain ⟨us,h1,h2⟩:=ih
  obtain ⟨_,t,hv,ht⟩:=r
  exact ⟨t :: us,by rw [List.map_cons,List.map_cons,h1,hv],.cons ht h2⟩
theorem ok_posts_of (T:Tx K mg):FnOk P w K mg base CX0 4 T.d_posts_of.f T.d_posts_of.fd ["signals", "part_at"] (spPo T):=by
 refine T.d_posts_of.F.okW sc_posts_of (fun vs H Q E h=>?_) (fun cdv A outer s H vs Q E hr h=>?_)
 ·obtain ⟨sl,pa,ts,sg,ka,rfl,_⟩:=h
  rfl
 ·obtain ⟨sl,pa,ts,sg,ka,rfl,hl,hts,hpa,hnm,nd,one,len,hk,q⟩:=h
  have htl:=Paired.length hts
  refine WSs.step (ps_set (i:=2) sc_posts_of.nd rfl (by first | exact Or.inl rfl | exact Or.inr rfl) pe_dnewKS) fun d H1 s1 n1 e1=>?_
  refine WSs.step (ps_for PassesOwn.never rfl (pi_list (pv 0)) (pg_name (i:=3) sc_posts_of.nd rfl (by first | exact Or.inl rfl | exact Or.inr rfl)) pss_w) ⟨_,rfl,sl,rfl,⟨_,SqL.of (s1.at hl)⟩,for_list (K:=K) (xs:=ts.map V.ref) (fun i σ H'=>(∃ o3 o4 o5,σ=[some (.ref sl),some (.ref pa),some (.ref d),o3,o4,o5])∧Same H H'∧∃ ks,H' d=some (.dK ks)∧DP keyN (RS H') ks (qS (sg.take i))) ⟨⟨none,none,none,rfl⟩,s1,[],e1,.nil⟩ ?_ ?_ ?_⟩
  ·rintro i σ H' _ ⟨_,s2,_⟩
   exact SqL.of (s2.at hl)
  ·rintro i v σ H2 hi ⟨⟨o3,o4,o5,rfl⟩,s2,ks,hd,hD⟩
   rw [List.getElem?_map] at hi
   obtain ⟨t,hti,rfl⟩:=Option.map_eq_some_iff.mp hi
   obtain ⟨⟨nm,pn,en⟩,hg,ht⟩:=Paired.get hts hti
   have ht:H t=some (.tup [.str nm,.str pn,.str en]):=ht
   have hm:((nm,pn,en):Str×Str×Str) ∈ sg:=List.mem_of_getElem? hg
   have hil:=(List.getElem?_eq_some_iff.mp hg).1
   obtain ⟨x,C,k,hv,hC,hO,hb⟩:=hk _ hm
   have hlen:ks.length ≤ 100:=by
    have h1:=hD.len
    unfold qS at h1
    rw [List.length_map,List.length_take] at h1
    omega
   have hn:valV ks (keyN nm)=none:=hD.none keyN_inj (by
    rw [qS_fst,List.map_take]
    exact nd_take nd (by rw [List.getElem?_map,hg]; rfl))
   have he:((pn,en):EndT) ∉ (qS (sg.take i)).map Prod.snd:=by
    have:(qS (sg.take i)).map Prod.snd=(sg.map Prod.snd).take i:=by
     unfold qS
     rw [List.map_map,List.map_take]
     rfl
    rw [this]
    exact nd_take one (by rw [List.getElem?_map,hg]; rfl)
   refine WSs.step (ps_set (i:=4) sc_posts_of.nd rfl (by first | exact Or.inl rfl | exact Or.inr rfl) (pe_ix (r:=rIx K) ix_seq (pv 3) pe_int (fun _ _=>rfl))) ⟨_,rfl,.inr (.inl ⟨t,_,0,_,rfl,rfl,SqT.of (s2.at ht),atI_nat (j:=0) rfl,?_⟩)⟩
   refine WSs.step (ps_set (i:=5) sc_posts_of.nd rfl (by first | exact Or.inl rfl | exact Or.inr rfl) (pe_slice (r:=rSlX K) oSlX (pv 3) (po_some pe_int) po_none)) ⟨_,rfl,_,rfl,.inl ⟨t,_,rfl,SqT.of (s2.at ht),(show ¬ (HT.sIx 3 0 (some 1)=0∧HT.sIx 3 3 none=3) by decide),fun te H3 s3 n3 e3=>?_⟩⟩
   have s13:=s2.trans s3
   have hte:PairAt H3 te (pn,en):=e3
   refine WSs.step (ps_expr (pe_call (G_refuse_name T) hr rfl T.m_refuse_name T.d_refuse_name.F.kp T.d_refuse_name.b .nil pass0 (pa_c (pv 4) (pa_c (pv 2) pa_nil)))) ⟨_,rfl,_,rfl,nm,d,ks,rfl,hnm _ hm,s3.at hd,hn,fun H4 s4=>?_⟩
   have s14:=s13.trans s4
   have hD4:DP keyN (RS H4) ks (qS (sg.take i)):=hD.mapR fun _ _ _ z=>RS.mono (s3.trans s4) _ _ _ z
   obtain ⟨us,hus,hup⟩:=RS_vals hD4
   refine WSs.step (ps_expr (pe_call (G_refuse_post T) hr rfl T.m_refuse_post T.d_refuse_post.F.kp T.d_refuse_post.b .nil pass0 (pa_c (pv 5) (pa_c (pv 1) (pa_c (pe_listVals rfl (by rfl) T.n_list (pv 2)) pa_nil))))) ⟨_,rfl,_,rfl,_,rfl,d,ks,rfl,.inl (s4.at (s3.at hd)),fun l H5 s5 n5 e5=>⟨te,pa,l,x,C,(pn,en),k,pn,ka,us,_,rfl,(hte.mono s4).mono s5,(s14.trans s5).at hpa,hv,hC,hO.mono (s14.trans s5),hb,by rw [← hus]; exact e5,Paired.mapP hup fun _ _ r=>r.mono s5,he,?_⟩⟩
   have s15:=s14.trans s5
   have hd5:H5 d=some (.dK ks):=s5.at (s4.at (s3.at hd))
   refine WSs.last (ps_dput (hu_of hr) (pv 2) (pv 4) (pv 5) rfl) ⟨_,rfl,_,rfl,_,rfl,d,_,rfl,DPut.k (k:=keyN nm) hd5 (small1000 (by omega)),⟨_,_,_,rfl⟩,s15.upd0 n1,_,upd_same,?_⟩
   have:qS (sg.take (i + 1))=qS (sg.take i) ++ [(nm,(pn,en))]:=by
    unfold qS
    rw [List.take_add_one,hg,List.map_append]
    rfl
   rw [this]
   have hD6:DP keyN (RS (upd H5 d (.dK (putK ks (keyN nm) (.ref te))))) ks (qS (sg.take i)):=hD4.mapR fun _ _ _ ⟨u,z1,z2⟩=>⟨u,z1,(z2.mono s5).offD hd5⟩
   exact hD6.put hn ⟨te,rfl,((hte.mono s4).mono s5).offD hd5⟩
  ·rintro σ H2 ⟨⟨o3,o4,o5,rfl⟩,s2,ks,hd,hD⟩
   rw [List.length_map,htl,List.take_length] at hD
   exact WSs.last (ps_ret (pv 2)) ⟨_,rfl,q d ks H2 s2 n1 hd hD⟩
theorem G_posts_of (T:Tx K mg) {k:Nat} (h:4 ≤ k:=by decide):FnOk P w K mg base CX0 k T.d_posts_of.f T.d_posts_of.fd ["signals", "part_at"] (spPo T):=(ok_posts_of T).mono h
end
end K13
end
section
namespace K13
open PySem L2 NM YM
section
variable {P:Program} {w:World} {K:PySem.W.Frag} {mg:Str→Option Value} {base:Heap}
seal PySem.wpAny
structure TracksAt (T:Tx K mg) (H:Hp) (x:Addr) (ps:List EndT) (js:List (EndT×EndT)) (sg:List (Str×Str×Str)):Prop where
 ex:∃ (dx po jo so si:Addr) (kp ks:List (Key×V)) (kj ko:List (List Key×V)),H x=some (.ins T.CTracks dx [("part_of",.ref po),("joined",.ref jo),("post_of",.ref so),("signal_on",.ref si)]) ∧
  H po=some (.dK kp)∧DP keyN (RP T H) kp (qP ps)∧H jo=some (.dT kj)∧DP keyE (RJ H) kj (qJ js)∧H so=some (.dK ks)∧DP keyN (RS H) ks (qS sg)∧H si=some (.dT ko)∧DP keyE RO ko (qO sg)
theorem TracksAt.mono {T:Tx K mg} {H H':Hp} {x:Addr} {ps:List EndT} {js:List (EndT×EndT)} {sg:List (Str×Str×Str)} (e:Same H H') (h:TracksAt T H x ps js sg):TracksAt T H' x ps js sg:=by
 obtain ⟨dx,po,jo,so,si,kp,ks,kj,ko,h1,h2,h3,h4,h5,h6,h7,h8,h9⟩:=h.ex
 exact ⟨dx,po,jo,so,si,kp,ks,kj,ko,e.at h1,e.at h2,h3.mapR (RP.mono e),e.at h4,h5.mapR (RJ.mono e),e.at h6,h7.mapR (RS.mono e),e.at h8,h9⟩
def del (H:Hp) (x:Addr):Hp:=fun b=>if b=x then none else H b
theorem del_none {H:Hp} {x:Addr}:del H x x=none:=if_pos rfl
theorem del_at {H:Hp} {x b:Addr} {o:HO} (h:H b=some o) (n:b ≠ x):del H x b=some o:=(if_neg n).trans h
theorem del_up {H:Hp} {x:Addr} {o:HO}:Same (del H x) (upd H x o):=fun b u e=>by
 unfold del at e
 by_cases z:b=x
 ·rw [if_pos z] at e; cases e
 ·rw [if_neg z] at e; rw [upd_ne z]; exact e
theorem same_del {G H:Hp} {x:Addr} (s:Same G H) (n:G x=none):Same G (del H x):=fun b u e=>del_at (s.at e) (ne_of_none e n)
structure YardV (ps:List EndT) (js:List (EndT×EndT)) (sg:List (Str×Str×Str)):Prop where
 net:Net ps js []
 len:ps.length ≤ 40
 name:∀ p ∈ ps,nameV p.2
 sigs:SigsV ps sg
theorem YardOk.v {ps:List EndT} {js:List (EndT×EndT)} {sg:List (Str×Str×Str)} (h:YardOk ps js sg):YardV ps js sg:=⟨h.net,by have:=h.len; omega,fun p hp=>(h.name p hp).nm.ok,h.sigsV⟩
theorem endsOf_len (ps:List EndT):(endsOf ps).length ≤ 4 * ps.length:=by rw [← qA_fst,List.length_map]; exact qA_len ps
theorem _root_.YM.Net.flat {ps:List EndT} {js:List (EndT×EndT)} (h:Net ps js []):(flatJ js).Perm (endsOf ps):=by
 have:=h.perm
 rw [List.append_nil] at this
 exact this
theorem _root_.YM.Net.jlen {ps:List EndT} {js:List (EndT×EndT)} (h:Net ps js []) (l:ps.length ≤ 40):js.length ≤ 300:=by
 have h1:=h.flat.length_eq
 have h2:=endsOf_len ps
 rw [← qJ_fst,List.length_map,qJ_len] at h1
 omega
theorem mem_qA {ps:List EndT} {p:EndT} {e:Str} (hp:p ∈ ps) (he:e ∈ endsK p.1):((p.2,e),p.1) ∈ qA ps:=List.mem_flatMap.mpr ⟨p,hp,List.mem_map.mpr ⟨e,he,rfl⟩⟩
def spTr (T:Tx K mg):Sp:=fun vs H Q _=>∃ (G:Hp) (x dx pl jl sl:Addr) (xs:List Addr) (ps:List EndT) (js:List (EndT×EndT)) (sg:List (Str×Str×Str)),vs=[.ref x,.ref pl,.ref jl,.ref sl]∧G x=none∧Same G H∧H x=some (.ins T.CTracks dx []) ∧
 G pl=some (.lst (xs.map V.ref))∧Paired (PO T G) xs ps∧JoinsAt G jl js∧SigsAt G sl sg∧YardV ps js sg∧∀ H',Same G H'→TracksAt T H' x ps js sg→Q .non H'
theorem ok_Tracks___init__ (T:Tx K mg):FnOk P w K mg base CX0 5 T.d_Tracks___init__.f T.d_Tracks___init__.fd ["self", "parts", "joins", "signals"] (spTr T):=by
 refine T.d_Tracks___init__.F.okW sc_Tracks___init__ (fun vs H Q E h=>?_) (fun cdv A outer s H vs Q E hr h=>?_)
 ·obtain ⟨G,x,dx,pl,jl,sl,xs,ps,js,sg,rfl,_⟩:=h
  rfl
 ·obtain ⟨G,x,dx,pl,jl,sl,xs,ps,js,sg,rfl,hGx,s0,hx,hpl,hxs,hjl,⟨ts,hsl,hts⟩,yv,q⟩:=h
  have hxl:=Paired.length hxs
  have htl:=Paired.length hts
  have ylen:=yv.len
  have slen:=yv.sigs.len
  refine WSs.step (ps_set (i:=4) sc_Tracks___init__.nd rfl (by first | exact Or.inl rfl | exact Or.inr rfl) (pe_ifExp (pt_cmpR op_isN (pv 3) pe_non (nomark _)) (pe_lstS pa_nil) (pv 3))) ⟨_,rfl,rfl,_,rfl,iteF ⟨_,rfl,?_⟩⟩
  refine WSs.step (ps_if (PW.pt (pw_or (pt_cmpR op_gt (pe_callB (r:=rLenX K) oLenX (by rfl) T.n_len PySem.boot_len (pa_c (pv 1) pa_nil)) (pe_constI (by rfl) T.c_MOST_PARTS) (nomark _)) (pw_or1 (pt_cmpR op_gt (pe_callB (r:=rLenX K) oLenX (by rfl) T.n_len PySem.boot_len (pa_c (pv 4) pa_nil)) (pe_constI (by rfl) T.c_MOST_SIGNALS) (nomark _))))) pss_w pss_nil) ⟨_,rfl,.inl ⟨pl,_,rfl,.inl (SqL.of (s0.at hpl)),_,_,rfl,rfl,_,rfl,ite2 (fun z=>?_) (fun _=>⟨_,rfl,.inl ⟨sl,_,rfl,.inl (SqL.of (s0.at hsl)),_,_,rfl,rfl,_,rfl,ite2 (fun z=>?_) (fun _=>?_)⟩⟩)⟩⟩
  ·have z:=of_decide_eq_true z
   rw [List.length_map] at z
   exact absurd z (by omega)
  ·have z:=of_decide_eq_true z
   rw [List.length_map] at z
   exact absurd z (by omega)
  refine WSs.step (ps_fld (pv 0) (pe_call (G_parts_by_name T) hr rfl T.m_parts_by_name T.d_parts_by_name.F.kp T.d_parts_by_name.b .nil pass0 (pa_c (pv 1) pa_nil)) rfl) ⟨_,rfl,pl,xs,ps,rfl,s0.at hpl,Paired.mapP hxs fun _ _ r=>r.mono s0,yv.net.nd,yv.name,by omega,fun po kp H1 s1 m1 e1 dp=>⟨_,rfl,x,_,dx,_,rfl,s1.at hx,T.clTracks,T.nTracks_part_of,by simp,?_⟩⟩
  have hpx:po ≠ x:=fun z=>by rw [z,hx] at m1; cases m1
  have g1:Same G (del H1 x):=same_del (s0.trans s1) hGx
  have dp1:DP keyN (RP T (del H1 x)) kp (qP ps):=dp.mapR fun a b v ⟨y,C,z1,z2,dy,z3⟩=>⟨y,C,z1,z2,dy,del_at (s1.at z3) fun z=>by rw [z,hx] at z3; cases z3⟩
  have ep1:del H1 x po=some (.dK kp):=del_at e1 hpx
  refine WSs.step (ps_set (i:=5) sc_Tracks___init__.nd rfl (by first | exact Or.inl rfl | exact Or.inr rfl) (pe_call (G_ends_to_parts T) hr rfl T.m_ends_to_parts T.d_ends_to_parts.F.kp T.d_ends_to_parts.b .nil pass0 (pa_c (pe_fld (pv 0) rfl) pa_nil))) ⟨_,rfl,x,_,dx,_,_,rfl,upd_same,T.clTracks,T.nTracks_part_of,rfl,po,kp,ps,rfl,del_up.at ep1,dp1.mapR (RP.mono del_up),yv.net.nd,by omega,fun pa ka H2 s2 m2 e2 da=>?_⟩
  have hx2:=s2.at upd_same
  have ep2:Same G H2:=(g1.trans del_up).trans s2
  have kaq:∀ p ∈ ps,∀ e ∈ endsK p.1,∃ v,valV ka (keyE (p.2,e))=some v∧RA T _ (p.2,e) p.1 v:=fun p hp e he=>da.get keyE_inj (by rw [qA_fst]; exact endsOf_nd yv.net.nd) (mem_qA hp he)
  refine WSs.step (ps_fld (pv 0) (pe_call (G_joined_ends T) hr rfl T.m_joined_ends T.d_joined_ends.F.kp T.d_joined_ends.b .nil pass0 (pa_c (pv 2) (pa_c (pv 5) pa_nil))) rfl) ⟨_,rfl,_,rfl,jl,pa,js,ka,rfl,hjl.mono ep2,e2,fun e he=>?_,?_,?_,yv.net.apart,yv.net.jlen ylen,fun jo kj H3 s3 m3 e3 dj=>⟨_,rfl,x,_,dx,_,rfl,s3.at hx2,T.clTracks,T.nTracks_joined,(by show 1 < 1000; decide),?_⟩⟩
  ·have:=yv.net.flat.mem_iff.mp he
   obtain ⟨p,hp,hm⟩:=List.mem_flatMap.mp this
   obtain ⟨e',he',rfl⟩:=List.mem_map.mp hm
   obtain ⟨v,hv,_⟩:=kaq p hp e' he'
   rw [hv]; rfl
  ·rw [yv.net.flat.length_eq,← qA_fst,List.length_map]; exact da.len
  ·exact yv.net.flat.nodup_iff.mpr (endsOf_nd yv.net.nd)
  have hjx:jo ≠ x:=fun z=>by rw [z,hx2] at m3; cases m3
  have s13:Same (del H1 x) (del H3 x):=same_del ((del_up.trans s2).trans s3) del_none
  have ej3:del H3 x jo=some (.dT kj):=del_at e3 hjx
  have hpax:pa ≠ x:=fun z=>by rw [z,hx2] at e2; cases e2
  have epa:del H3 x pa=some (.dT ka):=del_at (s3.at e2) hpax
  have dj3:DP keyE (RJ (del H3 x)) kj (qJ js):=dj.mapR fun a b v ⟨u,z1,z2⟩=>⟨u,z1,del_at (s3.at z2) fun z=>by rw [z] at z2; exact nomatch hx2.symm.trans z2⟩
  have g3:Same G (del H3 x):=g1.trans s13
  refine WSs.step (ps_fld (pv 0) (pe_call (G_posts_of T) hr rfl T.m_posts_of T.d_posts_of.F.kp T.d_posts_of.b .nil pass0 (pa_c (pv 4) (pa_c (pv 5) pa_nil))) rfl) ⟨_,rfl,_,rfl,sl,pa,ts,sg,ka,rfl,del_up.at (g3.at hsl),Paired.mapP hts fun _ _ r=>(g3.trans del_up).at r,del_up.at epa,yv.sigs.name,yv.sigs.nd,yv.sigs.one,by omega,fun g hg=>?_,fun so ks H4 s4 m4 e4 ds=>⟨_,rfl,x,_,dx,_,rfl,s4.at upd_same,T.clTracks,T.nTracks_post_of,(by show 2 < 1000; decide),?_⟩⟩
  ·obtain ⟨p,hp,h1,h2,h3⟩:=yv.sigs.at_ g hg
   obtain ⟨v,hv,y,C,rfl,hC,dy,hO⟩:=kaq p hp g.2.2 h3
   refine ⟨y,C,p.1,by rw [← h1]; exact hv,hC,⟨dy,?_⟩,decide_eq_true h2⟩
   have hyx:y ≠ x:=fun z=>by rw [z,upd_same] at hO; cases hO
   rw [upd_ne hyx,← h1]
   exact s3.at (s2.at hO)
  have hsx:so ≠ x:=fun z=>by rw [z,upd_same] at m4; cases m4
  have hx4:=s4.at (upd_same (H:=H3) (a:=x))
  have s34:Same (del H3 x) (del H4 x):=same_del (del_up.trans s4) del_none
  have es4:del H4 x so=some (.dK ks):=del_at e4 hsx
  have ds4:DP keyN (RS (del H4 x)) ks (qS sg):=ds.mapR fun a b v ⟨u,z1,z2⟩=>⟨u,z1,del_at z2 fun z=>by rw [z] at z2; exact nomatch hx4.symm.trans z2⟩
  refine WSs.last (ps_fld (pv 0) (pe_callTy (r:=rDictT) (call_dictT rfl hr.units) (by rfl) T.n_dict PyProof.Rows.boot_dict (pa_c (pe_thaw (pe_comp (N':=["name", "end"]) rfl (CompScope.std 2 [] rfl (by decide +kernel) (by decide +kernel) rfl trivial rfl rfl trivial) (pi_items (pe_fld (pv 0) rfl)) (fun _ _ _ _=>(pg_tupC (K:=K) (n:=2) rfl rfl (pgs_cons (pg_name (i:=0) (by show (["name", "end"]:List Str).Nodup; decide +kernel) rfl (Or.inl (lookup_relabel_local rfl)) (Or.inr (lookup_relabel_local rfl))) (pgs_cons (pg_name (i:=1) (by show (["name", "end"]:List Str).Nodup; decide +kernel) rfl (Or.inl (lookup_relabel_local rfl)) (Or.inr (lookup_relabel_local rfl))) pgs_nil)))) (fun _ _ _ _=>pf_nil) (fun _ _ _ _=>(pe_tupS (pa_c (pv 1) (pa_c (pv 0) pa_nil)))))) pa_nil)) rfl) ⟨_,rfl,x,_,dx,_,_,rfl,upd_same,T.clTracks,T.nTracks_post_of,rfl,so,ks,rfl,del_up.at es4,fun o nf D hD=>comp_items (fun i ys H'=>Same (upd (upd H4 x (.ins T.CTracks dx [("part_of",.ref po),("joined",.ref jo),("post_of",.ref so)])) so (.frz o (.dK ks))) H'∧H' D=some (.lst ys)∧∃ tps:List Addr,ys=tps.map V.ref∧Paired (fun t (q:List Key×V)=>∃ a,H' t=some (.tup [.ref a,q.2])∧H' a=some (.tup (q.1.map kV))) tps ((qO (sg.take i)).map fun q=>(keyE q.1,V.str q.2))) ⟨Same.new hD,upd_same,[],rfl,.nil⟩ ?_ ?_ ?_⟩
  ·rintro i ys H' _ ⟨z,_⟩
   exact z.at upd_same
  ·rintro i kv ys H5 hi ⟨s5,hD5,tps,rfl,htp⟩ tp H6 s6 n6 e6
   obtain ⟨⟨nm,e⟩,hq,hk,t,hv,ht⟩:=Paired.get ds4 hi
   have hk:kv.1=Sum.inr nm:=hk
   rw [hk,hv] at e6
   have hg:sg[i]? = some (nm,e.1,e.2):=by
    unfold qS at hq
    rw [List.getElem?_map] at hq
    obtain ⟨⟨g1,g2,g3⟩,hg,e'⟩:=Option.map_eq_some_iff.mp hq
    rw [hg]
    simp only [Prod.mk.injEq] at e'
    rw [← e'.1,← e'.2]
   have hil:=(List.getElem?_eq_some_iff.mp hg).1
   have hto:t ≠ so:=fun z=>by rw [z] at ht; exact nomatch es4.symm.trans ht
   have htF:upd (upd H4 x (.ins T.CTracks dx [("part_of",.ref po),("joined",.ref jo),("post_of",.ref so)])) so (.frz o (.dK ks)) t=some (.tup ((keyE e).map kV)):=by
    rw [upd_ne hto]
    exact del_up.at ht
   have htl':tps.length ≤ 100:=by
    have:=Paired.length htp
    unfold qO at this
    rw [List.length_map,List.length_map,List.length_take] at this
    omega
   refine ⟨tp,_,rfl,SqT.of e6,rfl,_,_,rfl,_,_,rfl,rfl,(Keep.set rfl).trans (Keep.set rfl),_,rfl,_,rfl,sz (by simp),fun t' H7 s7 n7 e7=>⟨s7.at (s6.at hD5),by rw [List.length_map]; exact small1000 (by omega),?_,upd_same,tps ++ [t'],by rw [List.map_append]; rfl,?_⟩⟩
   ·intro c u z
    rw [upd_ne (ne_of_none z hD)]
    exact s7.at (s6.at (s5.at z))
   ·have hD7:=s7.at (s6.at hD5)
    have off:∀ {c:Addr} {xs:List V} {u:HO},H7 c=some (.tup xs)→upd H7 D u c=some (.tup xs):=fun {c xs u} z=>(upd_ne fun y=>by rw [y,hD7] at z; cases z).trans z
    have:(qO (sg.take (i + 1))).map (fun q=>(keyE q.1,V.str q.2))=(qO (sg.take i)).map (fun q=>(keyE q.1,V.str q.2)) ++ [(keyE e,V.str nm)]:=by
     unfold qO
     rw [List.take_add_one,hg,List.map_append,List.map_append]
     rfl
    rw [this]
    exact Paired.snoc (Paired.mapP htp fun _ _ ⟨a,z1,z2⟩=>⟨a,off (s7.at (s6.at z1)),off (s7.at (s6.at z2))⟩) ⟨t,off e7,off (s7.at (s6.at (s5.at htF)))⟩
  ·rintro ys H5 ⟨s5,hD5,tps,rfl,htp⟩
   have hks:ks.length=sg.length:=by
    have:=ds4.len
    unfold qS at this
    rw [List.length_map] at this
    exact this
   rw [hks,List.take_length] at htp
   have hso5:=s5.at upd_same
   have off:∀ {c:Addr} {xs:List V} {u:HO},H5 c=some (.tup xs)→upd H5 so u c=some (.tup xs):=fun {c xs u} z=>(upd_ne fun y=>by rw [y,hso5] at z; cases z).trans z
   have sT:Same (upd H4 x (.ins T.CTracks dx [("part_of",.ref po),("joined",.ref jo),("post_of",.ref so)])) (upd H5 so (.dK ks)):=s5.thaw (del_up.at es4)
   refine ⟨so,o,_,hso5,nf,D,tps,_,rfl,?_,Paired.mapP htp fun _ _ ⟨a,z1,z2⟩=>⟨a,off z1,off z2⟩,?_,fun si H8 s8 n8 e8=>⟨_,rfl,x,_,dx,_,rfl,s8.at (sT.at upd_same),T.clTracks,T.nTracks_signal_on,(by show 3 < 1000; decide),?_⟩⟩
   ·rw [upd_ne fun y=>by rw [y,hso5] at hD5; cases hD5]
    exact hD5
   ·rw [List.map_map]
    have e1:(qO sg).map (Prod.fst ∘ fun q=>(keyE q.1,V.str q.2))=((qO sg).map Prod.fst).map keyE:=by rw [List.map_map]; rfl
    rw [e1,qO_fst]
    exact yv.sigs.one.map keyE fun a b ne z=>ne (keyE_inj a b z)
   have hix:si ≠ x:=fun z=>by rw [z,sT.at upd_same] at n8; cases n8
   have s48:Same (del H4 x) (del H8 x):=same_del ((del_up.trans sT).trans s8) del_none
   have ei8:del H8 x si=some (.dT ((qO sg).map fun q=>(keyE q.1,V.str q.2))):=del_at e8 hix
   have f4:Same (del H4 x) (upd H8 x (.ins T.CTracks dx [("part_of",.ref po),("joined",.ref jo),("post_of",.ref so),("signal_on",.ref si)])):=s48.trans del_up
   have f3:=s34.trans f4
   have f1:=s13.trans f3
   refine q _ (g1.trans f1) ⟨dx,po,jo,so,si,kp,ks,kj,_,upd_same,f1.at ep1,dp1.mapR (RP.mono f1),f3.at ej3,dj3.mapR (RJ.mono f3),f4.at es4,ds4.mapR (RS.mono f4),del_up.at ei8,?_⟩
   have all:∀ l:List (EndT×Str),DP keyE RO (l.map fun q=>(keyE q.1,V.str q.2)) l:=fun l=>by
    induction l with
    | nil=>exact .nil
    | cons p l ih=>exact .cons ⟨rfl,rfl⟩ ih
   exact all _
theorem G_Tracks___init__ (T:Tx K mg) {k:Nat} (h:5 ≤ k:=by decide):FnOk P w K mg base CX0 k T.d_Tracks___init__.f T.d_Tracks___init__.fd ["self", "parts", "joins", "signals"] (spTr T):=(ok_Tracks___init__ T).mono h
def mr_Tracks (T:Tx K mg):List V→Hp→VK→Prop:=fun vs H Q=>∃ (pl jl sl:Addr) (xs:List Addr) (ps:List EndT) (js:List (EndT×EndT)) (sg:List (Str×Str×Str)),vs=[.ref pl,.ref jl,.ref sl]∧H pl=some (.lst (xs.map V.ref))∧Paired (PO T H) xs ps∧JoinsAt H jl js∧SigsAt H sl sg∧YardV ps js sg∧∀ x H',Same H H'→H x=none→TracksAt T H' x ps js sg→Q (.ref x) H'
theorem mk_Tracks (T:Tx K mg):∀ vs H Q,mr_Tracks T vs H Q →
  ∀ x dx,H x=none→H dx=none→dx ≠ x→spTr T (.ref x :: (vs ++ [])) (upd (upd H dx (.own x)) x (.ins T.CTracks dx [])) (fun v H2=>v=.non∧Q (.ref x) H2) E0:=by
 rintro vs H Q ⟨pl,jl,sl,xs,ps,js,sg,rfl,h1,h2,h3,h4,h5,q⟩ x dx hx hdx ne
 refine ⟨H,x,dx,pl,jl,sl,xs,ps,js,sg,rfl,hx,fun b o e=>?_,upd_same,h1,h2,h3,h4,h5,fun H' s t=>⟨rfl,q x H' s hx t⟩⟩
 rw [upd_ne (ne_of_none e hx),upd_ne (ne_of_none e hdx)]
 exact e
end
end K13
end
section
namespace K13
open PySem L2 NM YM
section
variable {P:Program} {w:World} {K:PySem.W.Frag} {mg:Str→Option Value} {base:Heap}
seal PySem.wpAny
def spBeyond (T:Tx K mg):Sp:=fun vs H Q _=>∃ (x t:Addr) (e:EndT) (ps:List EndT) (js:List (EndT×EndT)) (sg:List (Str×Str×Str)),vs=[.ref x,.ref t]∧TracksAt T H x ps js sg∧YardV ps js sg∧PairAt H t e ∧
 ((e ∈ endsOf ps∧∀ t' e',((e,e'):EndT×EndT) ∈ qJ js→PairAt H t' e'→Q (.ref t') H)∨(e ∉ endsOf ps∧∀ t' H',Same H H'→H t'=none→PairAt H' t' ("", "")→Q (.ref t') H'))
theorem ok_Tracks_beyond (T:Tx K mg):FnOk P w K mg base CX0 3 T.d_Tracks_beyond.f T.d_Tracks_beyond.fd ["self", "end"] (spBeyond T):=by
 refine T.d_Tracks_beyond.F.okW sc_Tracks_beyond (fun vs H Q E h=>?_) (fun cdv A outer s H vs Q E hr h=>?_)
 ·obtain ⟨x,t,e,ps,js,sg,rfl,_⟩:=h
  rfl
 ·obtain ⟨x,t,e,ps,js,sg,rfl,tr,yv,ht,q⟩:=h
  obtain ⟨dx,po,jo,so,si,kp,ks,kj,ko,h1,h2,h3,h4,h5,_⟩:=tr.ex
  have nd:((qJ js).map Prod.fst).Nodup:=by rw [qJ_fst]; exact yv.net.flat.nodup_iff.mpr (endsOf_nd yv.net.nd)
  rcases q with ⟨hm,q⟩ | ⟨hm,q⟩
  ·have:e ∈ (qJ js).map Prod.fst:=by rw [qJ_fst]; exact yv.net.flat.mem_iff.mpr hm
   obtain ⟨⟨e0,e'⟩,hq,rfl⟩:=List.mem_map.mp this
   obtain ⟨v,hv,t',rfl,ht'⟩:=h5.get keyE_inj nd hq
   refine WSs.last (ps_ret (pe_ifExp (pt_val (pe_call (G_is_known T) hr rfl T.m_is_known T.d_is_known.F.kp T.d_is_known.b .nil pass0 (pa_c (pv 1) (pa_c (pe_fld (pv 0) rfl) pa_nil)))) (pe_dget (hu_of hr) (pe_fld (pv 0) rfl) (pv 1) (fun _ _=>rfl)) (pe_tupS (pa_c pe_str (pa_c pe_str pa_nil))))) ⟨_,rfl,_,rfl,x,_,dx,_,_,rfl,h1,T.clTracks,T.nTracks_joined,rfl,t,jo,_,kj,rfl,ht,h4,_,rfl,?_⟩
   rw [hv]
   exact iteT ⟨_,rfl,x,_,dx,_,_,rfl,h1,T.clTracks,T.nTracks_joined,rfl,_,rfl,jo,_,rfl,by rw [← hv]; exact DGet.t (k:=keyE e0) h4 ht,q t' e' hq ht'⟩
  ·have hv:valV kj (keyE e)=none:=h5.none keyE_inj (by rw [qJ_fst]; exact fun z=>hm (yv.net.flat.mem_iff.mp z))
   refine WSs.last (ps_ret (pe_ifExp (pt_val (pe_call (G_is_known T) hr rfl T.m_is_known T.d_is_known.F.kp T.d_is_known.b .nil pass0 (pa_c (pv 1) (pa_c (pe_fld (pv 0) rfl) pa_nil)))) (pe_dget (hu_of hr) (pe_fld (pv 0) rfl) (pv 1) (fun _ _=>rfl)) (pe_tupS (pa_c pe_str (pa_c pe_str pa_nil))))) ⟨_,rfl,_,rfl,x,_,dx,_,_,rfl,h1,T.clTracks,T.nTracks_joined,rfl,t,jo,_,kj,rfl,ht,h4,_,rfl,?_⟩
   rw [hv]
   exact iteF ⟨sz (by simp),fun t' H' s' n' e'=>q t' H' s' n' e'⟩
theorem G_Tracks_beyond (T:Tx K mg) {k:Nat} (h:3 ≤ k:=by decide):FnOk P w K mg base CX0 k T.d_Tracks_beyond.f T.d_Tracks_beyond.fd ["self", "end"] (spBeyond T):=(ok_Tracks_beyond T).mono h
def sigAt (sg:List (Str×Str×Str)) (e:EndT):Bool:=decide (e ∈ sg.map Prod.snd)
def spSigAt (T:Tx K mg):Sp:=fun vs H Q _=>∃ (x t:Addr) (e:EndT) (ps:List EndT) (js:List (EndT×EndT)) (sg:List (Str×Str×Str)),vs=[.ref x,.ref t]∧TracksAt T H x ps js sg∧YardV ps js sg∧PairAt H t e ∧
 ∀ nm:Str,((nm,e) ∈ qS sg∧nameV nm∧e ∈ sg.map Prod.snd)∨(nm = "" ∧ e ∉ sg.map Prod.snd)→Q (.str nm) H
theorem ok_Tracks_signal_at (T:Tx K mg):FnOk P w K mg base CX0 3 T.d_Tracks_signal_at.f T.d_Tracks_signal_at.fd ["self", "end"] (spSigAt T):=by
 refine T.d_Tracks_signal_at.F.okW sc_Tracks_signal_at (fun vs H Q E h=>?_) (fun cdv A outer s H vs Q E hr h=>?_)
 ·obtain ⟨x,t,e,ps,js,sg,rfl,_⟩:=h
  rfl
 ·obtain ⟨x,t,e,ps,js,sg,rfl,tr,yv,ht,q⟩:=h
  obtain ⟨dx,po,jo,so,si,kp,ks,kj,ko,h1,_,_,_,_,_,_,h8,h9⟩:=tr.ex
  have nd:((qO sg).map Prod.fst).Nodup:=by rw [qO_fst]; exact yv.sigs.one
  by_cases hm:e ∈ sg.map Prod.snd
  ·obtain ⟨⟨nm,e1,e2⟩,hg,rfl⟩:=List.mem_map.mp hm
   obtain ⟨v,hv,rfl⟩:=h9.get keyE_inj nd (a:=(e1,e2)) (b:=nm) (List.mem_map.mpr ⟨_,hg,rfl⟩)
   refine WSs.last (ps_ret (pe_ifExp (pt_val (pe_call (G_is_known T) hr rfl T.m_is_known T.d_is_known.F.kp T.d_is_known.b .nil pass0 (pa_c (pv 1) (pa_c (pe_fld (pv 0) rfl) pa_nil)))) (pe_dget (hu_of hr) (pe_fld (pv 0) rfl) (pv 1) (fun _ _=>rfl)) pe_str)) ⟨_,rfl,_,rfl,x,_,dx,_,_,rfl,h1,T.clTracks,T.nTracks_signal_on,rfl,t,si,_,ko,rfl,ht,h8,_,rfl,?_⟩
   have hv':valV ko (keyE (e1,e2))=some (.str nm):=hv
   rw [show ((nm,e1,e2):Str×Str×Str).snd=(e1,e2) from rfl,hv']
   exact iteT ⟨_,rfl,x,_,dx,_,_,rfl,h1,T.clTracks,T.nTracks_signal_on,rfl,_,rfl,si,_,rfl,by rw [← hv']; exact DGet.t (k:=keyE (e1,e2)) h8 ht,q nm (.inl ⟨List.mem_map.mpr ⟨_,hg,rfl⟩,yv.sigs.name _ hg,hm⟩)⟩
  ·have hv:valV ko (keyE e)=none:=h9.none keyE_inj (by rw [qO_fst]; exact hm)
   refine WSs.last (ps_ret (pe_ifExp (pt_val (pe_call (G_is_known T) hr rfl T.m_is_known T.d_is_known.F.kp T.d_is_known.b .nil pass0 (pa_c (pv 1) (pa_c (pe_fld (pv 0) rfl) pa_nil)))) (pe_dget (hu_of hr) (pe_fld (pv 0) rfl) (pv 1) (fun _ _=>rfl)) pe_str)) ⟨_,rfl,_,rfl,x,_,dx,_,_,rfl,h1,T.clTracks,T.nTracks_signal_on,rfl,t,si,_,ko,rfl,ht,h8,_,rfl,?_⟩
   rw [hv]
   exact iteF (q _ (.inr ⟨rfl,hm⟩))
theorem G_Tracks_signal_at (T:Tx K mg) {k:Nat} (h:3 ≤ k:=by decide):FnOk P w K mg base CX0 k T.d_Tracks_signal_at.f T.d_Tracks_signal_at.fd ["self", "end"] (spSigAt T):=(ok_Tracks_signal_at T).mono h
theorem Asked.mono {H H':Hp} {v:V} {b:Bool} (s:Same H H') (h:Asked K H v b) (hs:∀ a,v=.ref a→∃ xs,H a=some (.lst xs)∨H a=some (.tup xs)):Asked K H' v b:=by
 rcases h with h | ⟨hb,t,ty,k⟩
 ·exact .inl h
 ·refine .inr ⟨hb,t,?_,k⟩
  cases ty with
  | non=>exact .non
  | bl x=>exact .bl x
  | int i=>exact .int i
  | str x=>exact .str x
  | flt x=>exact .flt x
  | lst z=>exact .lst (s.at z)
  | frz z =>
   obtain ⟨xs,e | e⟩:=hs _ rfl <;> rw [z] at e <;> cases e
  | tup z=>exact .tup (s.at z)
  | dK z=>exact .dK (s.at z)
  | dT z=>exact .dT (s.at z)
  | ins z c1 c2 c3 c4 c5=>exact .ins (s.at z) c1 c2 c3 c4 c5
def spNamed (T:Tx K mg):Sp:=fun vs H Q E=>∃ (x:Addr) (v:V) (ps:List EndT) (js:List (EndT×EndT)) (sg:List (Str×Str×Str)),vs=[.ref x,v]∧TracksAt T H x ps js sg∧YardV ps js sg ∧
  ((∃ k nm:Str,v=.str nm∧((k,nm):EndT) ∈ ps∧∀ (y C:Addr) (H':Hp),Same H H'→ClsOf T k C→PObj H' C y nm→Q (.ref y) H') ∨
   (∃ b,Asked K H v b∧(∀ nm,v=.str nm→nm ∉ ps.map Prod.snd)∧∀ H',Same H H'→E (.ref T.CBadName) none H'))
theorem ok_Tracks_named (T:Tx K mg):FnOk P w K mg base (CXF P w) 2 T.d_Tracks_named.f T.d_Tracks_named.fd ["self", "name"] (spNamed T):=by
 refine T.d_Tracks_named.F.okX sc_Tracks_named (fun vs H Q E h=>?_) (fun cdv A outer s H vs Q E hr h=>?_)
 ·obtain ⟨x,v,ps,js,sg,rfl,_⟩:=h
  rfl
 ·obtain ⟨x,v,ps,js,sg,rfl,tr,yv,h⟩:=h
  obtain ⟨dx,po,jo,so,si,kp,ks,kj,ko,h1,h2,h3,_⟩:=tr.ex
  rcases h with ⟨k,nm,rfl,hm,q⟩ | ⟨b,hA,hn,q⟩
  ·have hq:((nm,k):Str×Str) ∈ qP ps:=List.mem_map.mpr ⟨(k,nm),hm,rfl⟩
   obtain ⟨v,hv,y,C,rfl,hC,hO⟩:=h3.get keyN_inj (by rw [qP_fst]; exact yv.net.nd) hq
   refine WSs.step (ps_if (PW.pt (pw_or (pt_not (pt_val (pe_call (G_is_name T) hr rfl T.m_is_name T.d_is_name.F.kp T.d_is_name.b .nil pass0 (pa_c (pv 1) pa_nil)))) (pw_or1 (pt_cmpR (r:=rNotInY K) (oNotInY hr) (pv 1) (pe_fld (pv 0) rfl) (by with_unfolding_all rfl))))) pss_w pss_nil) ⟨_,rfl,_,true,rfl,(yv.name _ hm).asked,fun H1 s1=>⟨_,rfl,ite2 (fun z=>absurd z (by decide)) (fun _=>⟨_,rfl,_,rfl,x,_,dx,_,_,rfl,s1.at h1,T.clTracks,T.nTracks_part_of,rfl,.inr (.inl ⟨po,_,rfl,DGet.k (k:=keyN nm) (s1.at h2),_,rfl,ite2 (fun z=>?_) (fun _=>?_)⟩)⟩)⟩⟩
   ·rw [hv] at z
    exact absurd z (by simp)
   exact WSs.last (ps_ret (pe_dget (hu_of hr) (pe_fld (pv 0) rfl) (pv 1) (fun _ _=>rfl))) ⟨_,rfl,x,_,dx,_,_,rfl,s1.at h1,T.clTracks,T.nTracks_part_of,rfl,_,rfl,po,_,rfl,by rw [← hv]; exact DGet.k (k:=keyN nm) (s1.at h2),q y C H1 s1 hC (hO.mono s1)⟩
  ·refine WSs.step (ps_if (PW.pt (pw_or (pt_not (pt_val (pe_call (G_is_name T) hr rfl T.m_is_name T.d_is_name.F.kp T.d_is_name.b .nil pass0 (pa_c (pv 1) pa_nil)))) (pw_or1 (pt_cmpR (r:=rNotInY K) (oNotInY hr) (pv 1) (pe_fld (pv 0) rfl) (by with_unfolding_all rfl))))) pss_w pss_nil) ⟨_,rfl,_,b,rfl,hA,fun H1 s1=>⟨_,rfl,ite2 (fun _=>?_) (fun z=>?_)⟩⟩
   ·exact WSs.last (ps_raise T.x_BadName PySem.F.excBase_ValueError rfl (pa_c pe_str pa_nil)) ⟨sz (by simp),q H1 s1⟩
   ·obtain ⟨nm,rfl⟩:∃ nm:Str,v=.str nm:=by
     rcases hA with ⟨nm,e,_⟩ | ⟨e,_⟩
     ·exact ⟨nm,e⟩
     ·rw [e] at z; exact absurd rfl z
    have hv:valV kp (keyN nm)=none:=h3.none keyN_inj (by rw [qP_fst]; exact hn nm rfl)
    refine ⟨_,rfl,_,rfl,x,_,dx,_,_,rfl,s1.at h1,T.clTracks,T.nTracks_part_of,rfl,.inr (.inl ⟨po,_,rfl,DGet.k (k:=keyN nm) (s1.at h2),_,rfl,ite2 (fun _=>?_) (fun z=>?_)⟩)⟩
    ·exact WSs.last (ps_raise T.x_BadName PySem.F.excBase_ValueError rfl (pa_c pe_str pa_nil)) ⟨sz (by simp),q H1 s1⟩
    ·rw [hv] at z
     exact absurd rfl z
theorem G_Tracks_named (T:Tx K mg) {k:Nat} (h:2 ≤ k:=by decide):FnOk P w K mg base (CXF P w) k T.d_Tracks_named.f T.d_Tracks_named.fd ["self", "name"] (spNamed T):=(ok_Tracks_named T).mono h
def spEndOf (T:Tx K mg):Sp:=fun vs H Q E=>∃ (x:Addr) (v:V) (ps:List EndT) (js:List (EndT×EndT)) (sg:List (Str×Str×Str)),vs=[.ref x,v]∧TracksAt T H x ps js sg∧YardV ps js sg ∧
  ((∃ g:Str×Str×Str,v=.str g.1∧g ∈ sg∧∀ (t:Addr) (H':Hp),Same H H'→PairAt H' t g.2→Q (.ref t) H') ∨
   (∃ b,Asked K H v b∧(∀ nm,v=.str nm→nm ∉ sg.map Prod.fst)∧∀ H',Same H H'→E (.ref T.CBadName) none H'))
theorem ok_Tracks_end_of (T:Tx K mg):FnOk P w K mg base (CXF P w) 2 T.d_Tracks_end_of.f T.d_Tracks_end_of.fd ["self", "signal"] (spEndOf T):=by
 refine T.d_Tracks_end_of.F.okX sc_Tracks_end_of (fun vs H Q E h=>?_) (fun cdv A outer s H vs Q E hr h=>?_)
 ·obtain ⟨x,v,ps,js,sg,rfl,_⟩:=h
  rfl
 ·obtain ⟨x,v,ps,js,sg,rfl,tr,yv,h⟩:=h
  obtain ⟨dx,po,jo,so,si,kp,ks,kj,ko,h1,_,_,_,_,h2,h3,_⟩:=tr.ex
  rcases h with ⟨⟨nm,e⟩,rfl,hm,q⟩ | ⟨b,hA,hn,q⟩
  ·have hq:((nm,e):Str×EndT) ∈ qS sg:=List.mem_map.mpr ⟨(nm,e),hm,rfl⟩
   obtain ⟨v,hv,t,rfl,hO⟩:=h3.get keyN_inj (by rw [qS_fst]; exact yv.sigs.nd) hq
   refine WSs.step (ps_if (PW.pt (pw_or (pt_not (pt_val (pe_call (G_is_name T) hr rfl T.m_is_name T.d_is_name.F.kp T.d_is_name.b .nil pass0 (pa_c (pv 1) pa_nil)))) (pw_or1 (pt_cmpR (r:=rNotInY K) (oNotInY hr) (pv 1) (pe_fld (pv 0) rfl) (by with_unfolding_all rfl))))) pss_w pss_nil) ⟨_,rfl,_,true,rfl,(yv.sigs.name _ hm).asked,fun H1 s1=>⟨_,rfl,ite2 (fun z=>absurd z (by decide)) (fun _=>⟨_,rfl,_,rfl,x,_,dx,_,_,rfl,s1.at h1,T.clTracks,T.nTracks_post_of,rfl,.inr (.inl ⟨so,_,rfl,DGet.k (k:=keyN nm) (s1.at h2),_,rfl,ite2 (fun z=>?_) (fun _=>?_)⟩)⟩)⟩⟩
   ·rw [hv] at z
    exact absurd z (by simp)
   exact WSs.last (ps_ret (pe_dget (hu_of hr) (pe_fld (pv 0) rfl) (pv 1) (fun _ _=>rfl))) ⟨_,rfl,x,_,dx,_,_,rfl,s1.at h1,T.clTracks,T.nTracks_post_of,rfl,_,rfl,so,_,rfl,by rw [← hv]; exact DGet.k (k:=keyN nm) (s1.at h2),q t H1 s1 (hO.mono s1)⟩
  ·refine WSs.step (ps_if (PW.pt (pw_or (pt_not (pt_val (pe_call (G_is_name T) hr rfl T.m_is_name T.d_is_name.F.kp T.d_is_name.b .nil pass0 (pa_c (pv 1) pa_nil)))) (pw_or1 (pt_cmpR (r:=rNotInY K) (oNotInY hr) (pv 1) (pe_fld (pv 0) rfl) (by with_unfolding_all rfl))))) pss_w pss_nil) ⟨_,rfl,_,b,rfl,hA,fun H1 s1=>⟨_,rfl,ite2 (fun _=>?_) (fun z=>?_)⟩⟩
   ·exact WSs.last (ps_raise T.x_BadName PySem.F.excBase_ValueError rfl (pa_c pe_str pa_nil)) ⟨sz (by simp),q H1 s1⟩
   ·obtain ⟨nm,rfl⟩:∃ nm:Str,v=.str nm:=by
     rcases hA with ⟨nm,e,_⟩ | ⟨e,_⟩
     ·exact ⟨nm,e⟩
     ·rw [e] at z; exact absurd rfl z
    have hv:valV ks (keyN nm)=none:=h3.none keyN_inj (by rw [qS_fst]; exact hn nm rfl)
    refine ⟨_,rfl,_,rfl,x,_,dx,_,_,rfl,s1.at h1,T.clTracks,T.nTracks_post_of,rfl,.inr (.inl ⟨so,_,rfl,DGet.k (k:=keyN nm) (s1.at h2),_,rfl,ite2 (fun _=>?_) (fun z=>?_)⟩)⟩
    ·exact WSs.last (ps_raise T.x_BadName PySem.F.excBase_ValueError rfl (pa_c pe_str pa_nil)) ⟨sz (by simp),q H1 s1⟩
    ·rw [hv] at z
     exact absurd rfl z
theorem G_Tracks_end_of (T:Tx K mg) {k:Nat} (h:2 ≤ k:=by decide):FnOk P w K mg base (CXF P w) k T.d_Tracks_end_of.f T.d_Tracks_end_of.fd ["self", "signal"] (spEndOf T):=(ok_Tracks_end_of T).mono h
def spNames (T:Tx K mg):Sp:=fun vs H Q _=>∃ (x:Addr) (ps:List EndT) (js:List (EndT×EndT)) (sg:List (Str×Str×Str)),vs=[.ref x]∧TracksAt T H x ps js sg∧YardV ps js sg∧∀ ss:List Str,ss.Perm (ps.map Prod.snd)→PyProof.Rows.sortedS ss=true→New H (.lst (ss.map V.str)) Q
theorem ok_Tracks_names (T:Tx K mg):FnOk P w K mg base CX0 1 T.d_Tracks_names.f T.d_Tracks_names.fd ["self"] (spNames T):=by
 refine T.d_Tracks_names.F.okW sc_Tracks_names (fun vs H Q E h=>?_) (fun cdv A outer s H vs Q E hr h=>?_)
 ·obtain ⟨x,ps,js,sg,rfl,_⟩:=h
  rfl
 ·obtain ⟨x,ps,js,sg,rfl,tr,yv,q⟩:=h
  obtain ⟨dx,po,jo,so,si,kp,ks,kj,ko,h1,h2,h3,_⟩:=tr.ex
  refine WSs.last (ps_ret (pe_callB (r:=rSortD) (call_sortD rfl) (by rfl) T.n_sorted PyProof.Rows.boot_sorted (pa_c (pe_fld (pv 0) rfl) pa_nil))) ⟨_,rfl,x,_,dx,_,_,rfl,h1,T.clTracks,T.nTracks_part_of,rfl,po,kp,ps.map Prod.snd,rfl,.inl h2,?_,by rw [List.length_map]; have:=yv.len; omega,q⟩
  have:=congrArg (List.map kV) h3.keys
  rw [List.map_map,List.map_map] at this
  refine Eq.trans this ?_
  rw [← qP_fst,List.map_map]
  rfl
theorem G_Tracks_names (T:Tx K mg) {k:Nat} (h:1 ≤ k:=by decide):FnOk P w K mg base CX0 k T.d_Tracks_names.f T.d_Tracks_names.fd ["self"] (spNames T):=(ok_Tracks_names T).mono h
end
end K13
end
section
namespace K13
open PySem L2 NM YM
section
variable {P:Program} {w:World} {K:PySem.W.Frag} {mg:Str→Option Value} {base:Heap}
seal PySem.wpAny
abbrev G3:=Str×Str×Str
def tripAt (H:Hp) (a:Addr):G3:=match H a with
 | some (.tup [.str x,.str y,.str z])=>(x,y,z)
 | _=>("", "", "")
theorem SigAt.trip {H:Hp} {a:Addr} {g:G3} (h:SigAt H a g):tripAt H a=g:=by
 unfold tripAt
 rw [show H a=_ from h]
theorem trips {H:Hp} {ts:List Addr} {sg:List G3} (h:Paired (SigAt H) ts sg):sg=ts.map (tripAt H):=by
 induction h with
 | nil=>rfl
 | cons r t ih=>rw [List.map_cons,← ih,r.trip]
def ByFst (l:List G3):Prop:=(l.map Prod.fst).Pairwise fun x y=>¬ y.cps.toList < x.cps.toList
theorem sort_sigs {H:Hp} {p:Addr} {ts:List Addr} {sg:List G3} {Q:VK} (hp:H p=some (.lst (ts.map V.ref))) (h:Paired (SigAt H) ts sg) (nd:(sg.map Prod.fst).Nodup) (len:sg.length ≤ 40)
  (q:∀ (ts':List Addr) (sg':List G3),sg'.Perm sg→ByFst sg'→Paired (SigAt H) ts' sg'→New H (.lst (ts'.map V.ref)) Q):rSortF K [.ref p] H Q:=by
 have hl:=Paired.length h
 have e:=trips h
 have mem:∀ a ∈ ts,∃ g,SigAt H a g:=fun a ha=>by
  obtain ⟨i,hi⟩:=List.getElem?_of_mem ha
  obtain ⟨g,_,hg⟩:=Paired.get h hi
  exact ⟨g,hg⟩
 refine ⟨p,ts,fun a=>(tripAt H a).1,rfl,SqL.of hp,fun a ha=>?_,?_,by omega,fun as' hperm hpw=>?_⟩
 ·obtain ⟨g,hg⟩:=mem a ha
  show ∃ rest,H a=some (.tup (.str (tripAt H a).1 :: rest))
  rw [hg.trip]
  exact ⟨_,hg⟩
 ·rw [e,List.map_map] at nd
  exact nd
 ·refine q as' (as'.map (tripAt H)) ?_ ?_ ?_
  ·rw [e]; exact hperm.map _
  ·unfold ByFst
   rw [List.map_map]
   exact hpw
  ·have:∀ l:List Addr,(∀ a ∈ l,a ∈ ts)→Paired (SigAt H) l (l.map (tripAt H)):=fun l hl=>by
    induction l with
    | nil=>exact .nil
    | cons a l ih =>
     obtain ⟨g,hg⟩:=mem a (hl a List.mem_cons_self)
     exact .cons (by rw [hg.trip]; exact hg) (ih fun b hb=>hl b (List.mem_cons_of_mem _ hb))
   exact this as' fun a ha=>hperm.mem_iff.mp ha
theorem byFst_one {l l' sg:List G3} (h:ByFst l) (h':ByFst l') (p:l.Perm sg) (p':l'.Perm sg) (nd:(sg.map Prod.fst).Nodup):l=l':=by
 have pw:∀ {l:List G3},ByFst l→l.Pairwise fun a b=>¬ b.1.cps.toList < a.1.cps.toList:=fun {l} h=>by
  unfold ByFst at h
  rw [List.pairwise_map] at h
  exact h
 refine (p.trans p'.symm).eq_of_pairwise (fun a b ha hb h1 h2=>?_) (pw h) (pw h')
 have e:a.1.cps.toList=b.1.cps.toList:=List.le_antisymm (by exact h1) (by exact h2)
 have e1:a.1=b.1:=PyProof.Rows.ext_toList e
 have hb':b ∈ l:=(p.trans p'.symm).mem_iff.mpr hb
 have nd':(l.map Prod.fst).Nodup:=(p.map _).nodup_iff.mpr nd
 have inj:∀ (l:List G3),(l.map Prod.fst).Nodup→∀ a ∈ l,∀ b ∈ l,a.1=b.1→a=b:=fun l=>by
  induction l with
  | nil=>intro _ a ha; cases ha
  | cons c l ih =>
   intro nd a ha b hb e
   rw [List.map_cons,List.nodup_cons] at nd
   rcases List.mem_cons.mp ha with rfl | ya <;> rcases List.mem_cons.mp hb with rfl | yb
   ·rfl
   ·exact absurd (List.mem_map.mpr ⟨b,yb,e.symm⟩) nd.1
   ·exact absurd (List.mem_map.mpr ⟨a,ya,e⟩) nd.1
   ·exact ih nd.2 a ya b yb e
 exact inj l nd' a ha b hb' e1
def spSignals (T:Tx K mg):Sp:=fun vs H Q _=>∃ (x:Addr) (ps:List EndT) (js:List (EndT×EndT)) (sg:List G3),vs=[.ref x]∧TracksAt T H x ps js sg∧YardV ps js sg∧∀ (sg':List G3) (l:Addr) (H':Hp),sg'.Perm sg→ByFst sg'→Same H H'→H l=none→SigsAt H' l sg'→Q (.ref l) H'
theorem ok_Tracks_signals (T:Tx K mg):FnOk P w K mg base CX0 1 T.d_Tracks_signals.f T.d_Tracks_signals.fd ["self"] (spSignals T):=by
 refine T.d_Tracks_signals.F.okW sc_Tracks_signals (fun vs H Q E h=>?_) (fun cdv A outer s H vs Q E hr h=>?_)
 ·obtain ⟨x,ps,js,sg,rfl,_⟩:=h
  rfl
 ·obtain ⟨x,ps,js,sg,rfl,tr,yv,q⟩:=h
  obtain ⟨dx,po,jo,so,si,kp,ks,kj,ko,h1,_,_,_,_,h6,h7,_⟩:=tr.ex
  have hks:ks.length=sg.length:=by
   have:=h7.len
   unfold qS at this
   rw [List.length_map] at this
   exact this
  have slen:=yv.sigs.len
  refine WSs.last (ps_ret (pe_callB (r:=rSortF K) call_sortF (by rfl) T.n_sorted PyProof.Rows.boot_sorted (pa_c (pe_thaw (pe_comp (N':=["name", "end"]) rfl (CompScope.std 2 [] rfl (by decide +kernel) (by decide +kernel) rfl trivial rfl rfl trivial) (pi_items (pe_fld (pv 0) rfl)) (fun _ _ _ _=>(pg_tupC (K:=K) (n:=2) rfl rfl (pgs_cons (pg_name (i:=0) (by show (["name", "end"]:List Str).Nodup; decide +kernel) rfl (Or.inl (lookup_relabel_local rfl)) (Or.inr (lookup_relabel_local rfl))) (pgs_cons (pg_name (i:=1) (by show (["name", "end"]:List Str).Nodup; decide +kernel) rfl (Or.inl (lookup_relabel_local rfl)) (Or.inr (lookup_relabel_local rfl))) pgs_nil)))) (fun _ _ _ _=>pf_nil) (fun _ _ _ _=>(pe_tupS (pa_c (pv 0) (pa_c (pe_ix (r:=rIx K) ix_seq (pv 1) pe_int (fun _ _=>rfl)) (pa_c (pe_ix (r:=rIx K) ix_seq (pv 1) pe_int (fun _ _=>rfl)) pa_nil))))))) pa_nil))) ⟨_,rfl,x,_,dx,_,_,rfl,h1,T.clTracks,T.nTracks_post_of,rfl,so,ks,rfl,h6,fun o nf D hD=>comp_items (fun i ys H'=>Same (upd H so (.frz o (.dK ks))) H'∧H' D=some (.lst ys)∧∃ ts:List Addr,ys=ts.map V.ref∧Paired (SigAt H') ts (sg.take i)) ⟨Same.new hD,upd_same,[],rfl,.nil⟩ ?_ ?_ ?_⟩
  ·rintro i ys H' _ ⟨z,_⟩
   exact z.at upd_same
  ·rintro i kv ys H2 hi ⟨s2,hD2,ts,rfl,hts⟩ tp H3 s3 n3 e3
   obtain ⟨⟨nm,e⟩,hq,hk,t,hv,ht⟩:=Paired.get h7 hi
   have hk:kv.1=Sum.inr nm:=hk
   rw [hk,hv] at e3
   have hg:sg[i]? = some (nm,e.1,e.2):=by
    unfold qS at hq
    rw [List.getElem?_map] at hq
    obtain ⟨⟨g1,g2,g3⟩,hg,e'⟩:=Option.map_eq_some_iff.mp hq
    rw [hg]
    simp only [Prod.mk.injEq] at e'
    rw [← e'.1,← e'.2]
   have hil:=(List.getElem?_eq_some_iff.mp hg).1
   have hto:t ≠ so:=fun z=>by rw [z] at ht; exact nomatch h6.symm.trans ht
   have htF:upd H so (.frz o (.dK ks)) t=some (.tup [.str e.1,.str e.2]):=by
    rw [upd_ne hto]
    exact ht
   have htl:ts.length ≤ 100:=by
    have:=Paired.length hts
    rw [List.length_take] at this
    omega
   have ht3:=SqT.of (K:=K) (s3.at (s2.at htF))
   refine ⟨tp,_,rfl,SqT.of e3,rfl,_,_,rfl,_,_,rfl,rfl,(Keep.set rfl).trans (Keep.set rfl),_,rfl,_,rfl,.inr (.inl ⟨t,_,0,_,rfl,rfl,ht3,atI_nat (j:=0) rfl,_,rfl,.inr (.inl ⟨t,_,1,_,rfl,rfl,ht3,atI_nat (j:=1) rfl,sz (by simp),fun t' H4 s4 n4 e4=>⟨s4.at (s3.at hD2),by rw [List.length_map]; exact small1000 (by omega),?_,upd_same,ts ++ [t'],by rw [List.map_append]; rfl,?_⟩⟩)⟩)⟩
   ·intro c u z
    rw [upd_ne (ne_of_none z hD)]
    exact s4.at (s3.at (s2.at z))
   ·have hD4:=s4.at (s3.at hD2)
    have off:∀ {c:Addr} {xs:List V} {u:HO},H4 c=some (.tup xs)→upd H4 D u c=some (.tup xs):=fun {c xs u} z=>(upd_ne fun y=>by rw [y,hD4] at z; cases z).trans z
    rw [List.take_add_one,hg]
    exact Paired.snoc (Paired.mapP hts fun _ _ z=>off (s4.at (s3.at z))) (off e4)
  ·rintro ys H2 ⟨s2,hD2,ts,rfl,hts⟩
   rw [hks,List.take_length] at hts
   have hso2:=s2.at upd_same
   have off:∀ {c:Addr} {xs:List V} {u:HO},H2 c=some (.tup xs)→upd H2 so u c=some (.tup xs):=fun {c xs u} z=>(upd_ne fun y=>by rw [y,hso2] at z; cases z).trans z
   have sT:Same H (upd H2 so (.dK ks)):=s2.thaw h6
   have hDn:H D=none:=by
    by_cases z:D=so
    ·rw [z,upd_same] at hD; cases hD
    ·rw [upd_ne z] at hD; exact hD
   refine ⟨so,o,_,hso2,nf,?_⟩
   refine sort_sigs (ts:=ts) (sg:=sg) ?_ (Paired.mapP hts fun _ _ z=>off z) yv.sigs.nd slen fun ts' sg' hp hb hts' l H3 s3 n3 e3=>?_
   ·rw [upd_ne fun y=>by rw [y,hso2] at hD2; cases hD2]
    exact hD2
   ·exact q sg' l H3 hp hb (sT.trans s3) (sT.free n3) ⟨ts',e3,Paired.mapP hts' fun _ _ z=>s3.at z⟩
theorem G_Tracks_signals (T:Tx K mg) {k:Nat} (h:1 ≤ k:=by decide):FnOk P w K mg base CX0 k T.d_Tracks_signals.f T.d_Tracks_signals.fd ["self"] (spSignals T):=(ok_Tracks_signals T).mono h
end
end K13
end
section
namespace K13
open PySem L2 NM YM
section
variable {P:Program} {w:World} {K:PySem.W.Frag} {mg:Str→Option Value} {base:Heap}
seal PySem.wpAny
def spRefused (T:Tx K mg):Sp:=fun vs H Q _=>∃ (x:Addr) (v:V) (wh b:Bool) (ps:List EndT) (js:List (EndT×EndT)) (sg:List G3),vs=[.ref x,v,.bl wh]∧TracksAt T H x ps js sg∧YardV ps js sg∧Asked K H v b∧(∀ nm,v=.str nm→nm ∉ if wh then ps.map Prod.snd else sg.map Prod.fst)∧∀ H',Same H H'→Q (.bl true) H'
theorem ok__law_refused (T:Tx K mg):FnOk P w K mg base CX0 3 T.d__law_refused.f T.d__law_refused.fd ["_law_tracks_here", "_law_odd", "_law_whole"] (spRefused T):=by
 refine T.d__law_refused.F.okW sc__law_refused (fun vs H Q E h=>?_) (fun cdv A outer s H vs Q E hr h=>?_)
 ·obtain ⟨x,v,wh,b,ps,js,sg,rfl,_⟩:=h
  rfl
 ·obtain ⟨x,v,wh,b,ps,js,sg,rfl,tr,yv,hA,hn,q⟩:=h
  obtain ⟨dx,_,_,_,_,_,_,_,_,h1,_⟩:=id tr.ex
  refine WSs.cut (fun _ _=>False) (WS.try (x := "BadName") (Ex:=fun cls _ H'=>cls=.ref T.CBadName∧Same H H') (R:=fun H'=>Same H H') T.x_BadName rfl rfl rfl rfl rfl (fun _ _ _ h=>h) ?_ ?_) (fun _ _ h=>h.elim)
  ·intro pn xe hp
   refine WSs.last (ps_if (pt_val (pv 2)) pss_w pss_w) ⟨_,rfl,_,rfl,ite2 (fun z=>?_) (fun z=>?_)⟩
   ·have z:wh=true:=z
    subst z
    exact WSs.last (ps_expr (pe_meth (pv 0) T.clTracks T.mtTracks_named (G_Tracks_named T) hr T.d_Tracks_named.b .nil hp (pa_c (pv 1) pa_nil))) ⟨_,rfl,x,dx,_,rfl,h1,rfl,_,rfl,x,v,ps,js,sg,rfl,tr,yv,.inr ⟨b,hA,hn,fun H' s'=>⟨rfl,s'⟩⟩⟩
   ·have z:wh=false:=by simpa using z
    subst z
    exact WSs.last (ps_expr (pe_meth (pv 0) T.clTracks T.mtTracks_end_of (G_Tracks_end_of T) hr T.d_Tracks_end_of.b .nil hp (pa_c (pv 1) pa_nil))) ⟨_,rfl,x,dx,_,rfl,h1,rfl,_,rfl,x,v,ps,js,sg,rfl,tr,yv,.inr ⟨b,hA,hn,fun H' s'=>⟨rfl,s'⟩⟩⟩
  ·rintro ea σ' H' s1
   exact WSs.last (ps_ret pe_bl) (q H' s1)
theorem G__law_refused (T:Tx K mg) {k:Nat} (h:3 ≤ k:=by decide):FnOk P w K mg base CX0 k T.d__law_refused.f T.d__law_refused.fd ["_law_tracks_here", "_law_odd", "_law_whole"] (spRefused T):=(ok__law_refused T).mono h
def spAllRef (T:Tx K mg):Sp:=fun vs H Q _=>∃ (x l:Addr) (us:List V) (ps:List EndT) (js:List (EndT×EndT)) (sg:List G3),vs=[.ref x,.ref l]∧TracksAt T H x ps js sg∧YardV ps js sg∧H l=some (.lst us)∧(∀ v ∈ us,(∃ b,Asked K H v b)∧(∀ a,v=.ref a→∃ xs,H a=some (.lst xs)∨H a=some (.tup xs))∧∀ nm,v=.str nm→nm ∉ ps.map Prod.snd∧nm ∉ sg.map Prod.fst)∧∀ H',Same H H'→Q (.bl true) H'
theorem ok__law_all_refused (T:Tx K mg):FnOk P w K mg base CX0 4 T.d__law_all_refused.f T.d__law_all_refused.fd ["_law_tracks_here", "_law_things"] (spAllRef T):=by
 refine T.d__law_all_refused.F.okW sc__law_all_refused (fun vs H Q E h=>?_) (fun cdv A outer s H vs Q E hr h=>?_)
 ·obtain ⟨x,l,us,ps,js,sg,rfl,_⟩:=h
  rfl
 ·obtain ⟨x,l,us,ps,js,sg,rfl,tr,yv,hl,hu,q⟩:=h
  refine WSs.step (ps_for PassesOwn.never rfl (pi_list (pv 1)) (pg_name (i:=2) sc__law_all_refused.nd rfl (by first | exact Or.inl rfl | exact Or.inr rfl)) pss_w) ⟨_,rfl,l,rfl,⟨_,SqL.of hl⟩,for_list (K:=K) (xs:=us) (fun i σ H'=>(∃ o,σ=[some (.ref x),some (.ref l),o])∧Same H H') ⟨⟨none,rfl⟩,Same.refl _⟩ ?_ ?_ ?_⟩
  ·rintro i σ H' _ ⟨_,s1⟩
   exact SqL.of (s1.at hl)
  ·rintro i v σ H1 hi ⟨⟨o,rfl⟩,s1⟩
   obtain ⟨⟨b,hA⟩,hr1,hn⟩:=hu v (List.mem_of_getElem? hi)
   refine WSs.last (ps_if (PW.pt (pw_or (pt_not (pt_val (pe_call (G__law_refused T) hr rfl T.m__law_refused T.d__law_refused.F.kp T.d__law_refused.b .nil pass0 (pa_c (pv 0) (pa_c (pv 2) (pa_c pe_bl pa_nil)))))) (pw_or1 (pt_not (pt_val (pe_call (G__law_refused T) hr rfl T.m__law_refused T.d__law_refused.F.kp T.d__law_refused.b .nil pass0 (pa_c (pv 0) (pa_c (pv 2) (pa_c pe_bl pa_nil))))))))) pss_w pss_nil) ⟨_,rfl,_,rfl,x,v,true,b,ps,js,sg,rfl,tr.mono s1,yv,hA.mono s1 hr1,fun nm e=>(hn nm e).1,fun H2 s2=>⟨_,rfl,ite2 (fun z=>absurd z (by decide)) (fun _=>⟨_,rfl,_,rfl,x,v,false,b,ps,js,sg,rfl,tr.mono (s1.trans s2),yv,hA.mono (s1.trans s2) hr1,fun nm e=>(hn nm e).2,fun H3 s3=>⟨_,rfl,ite2 (fun z=>absurd z (by decide)) (fun _=>⟨⟨_,rfl⟩,s1.trans (s2.trans s3)⟩)⟩⟩)⟩⟩
  ·rintro σ H1 ⟨_,s1⟩
   exact WSs.last (ps_ret pe_bl) (q H1 s1)
theorem G__law_all_refused (T:Tx K mg) {k:Nat} (h:4 ≤ k:=by decide):FnOk P w K mg base CX0 k T.d__law_all_refused.f T.d__law_all_refused.fd ["_law_tracks_here", "_law_things"] (spAllRef T):=(ok__law_all_refused T).mono h
def spApart (T:Tx K mg):Sp:=fun vs H Q _=>∃ (x l1 l2:Addr) (pn sn:List Str) (ps:List EndT) (js:List (EndT×EndT)) (sg:List G3),vs=[.ref x,.ref l1,.ref l2]∧TracksAt T H x ps js sg∧YardV ps js sg∧H l1=some (.lst (pn.map V.str))∧H l2=some (.lst (sn.map V.str))∧(∀ nm,nm ∈ pn↔nm ∈ ps.map Prod.snd)∧(∀ nm,nm ∈ sn↔nm ∈ sg.map Prod.fst)∧∀ H',Same H H'→Q (.bl true) H'
theorem ok__law_kept_apart (T:Tx K mg):FnOk P w K mg base CX0 4 T.d__law_kept_apart.f T.d__law_kept_apart.fd ["_law_tracks_here", "_law_parts", "_law_signals"] (spApart T):=by
 refine T.d__law_kept_apart.F.okW sc__law_kept_apart (fun vs H Q E h=>?_) (fun cdv A outer s H vs Q E hr h=>?_)
 ·obtain ⟨x,l1,l2,pn,sn,ps,js,sg,rfl,_⟩:=h
  rfl
 ·obtain ⟨x,l1,l2,pn,sn,ps,js,sg,rfl,tr,yv,hl1,hl2,hpn,hsn,q⟩:=h
  refine WSs.step (ps_for PassesOwn.never rfl (pi_list (pv 2)) (pg_name (i:=3) sc__law_kept_apart.nd rfl (by first | exact Or.inl rfl | exact Or.inr rfl)) pss_w) ⟨_,rfl,l2,rfl,⟨_,SqL.of hl2⟩,for_list (K:=K) (xs:=sn.map V.str) (fun i σ H'=>(∃ o,σ=[some (.ref x),some (.ref l1),some (.ref l2),o])∧Same H H') ⟨⟨none,rfl⟩,Same.refl _⟩ ?_ ?_ ?_⟩
  ·rintro i σ H' _ ⟨_,s1⟩
   exact SqL.of (s1.at hl2)
  ·rintro i v σ H1 hi ⟨⟨o,rfl⟩,s1⟩
   rw [List.getElem?_map] at hi
   obtain ⟨nm,hnm,rfl⟩:=Option.map_eq_some_iff.mp hi
   have hm:=(hsn nm).mp (List.mem_of_getElem? hnm)
   obtain ⟨g,hg,rfl⟩:=List.mem_map.mp hm
   refine WSs.last (ps_if (PW.pt (pw_and (pt_cmpR (r:=rNotInY K) (oNotInY hr) (pv 3) (pv 1) (by with_unfolding_all rfl)) (pw_and1 (pt_not (pt_val (pe_call (G__law_refused T) hr rfl T.m__law_refused T.d__law_refused.F.kp T.d__law_refused.b .nil pass0 (pa_c (pv 0) (pa_c (pv 3) (pa_c pe_bl pa_nil))))))))) pss_w pss_nil) ⟨_,rfl,_,rfl,.inl ⟨l1,_,rfl,.inl (SqL.of (s1.at hl1)),rfl,flat_strs _,_,rfl,?_⟩⟩
   rw [if_pos rfl,inV_strs]
   refine ite2 (fun z=>?_) (fun _=>⟨⟨_,rfl⟩,s1⟩)
   have z:¬ g.1 ∈ pn:=by simpa using z
   exact ⟨_,rfl,_,rfl,x,_,true,true,ps,js,sg,rfl,tr.mono s1,yv,(yv.sigs.name g hg).asked,fun nm e y=>z (by rw [V.str.inj e]; exact (hpn nm).mpr y),fun H2 s2=>⟨_,rfl,ite2 (fun z=>absurd z (by decide)) (fun _=>⟨⟨_,rfl⟩,s1.trans s2⟩)⟩⟩
  rintro σ H1 ⟨⟨o,rfl⟩,s1⟩
  refine WSs.step (ps_for PassesOwn.never rfl (pi_list (pv 1)) (pg_name (i:=3) sc__law_kept_apart.nd rfl (by first | exact Or.inl rfl | exact Or.inr rfl)) pss_w) ⟨_,rfl,l1,rfl,⟨_,SqL.of (s1.at hl1)⟩,for_list (K:=K) (xs:=pn.map V.str) (fun i σ H'=>(∃ o,σ=[some (.ref x),some (.ref l1),some (.ref l2),o])∧Same H H') ⟨⟨_,rfl⟩,s1⟩ ?_ ?_ ?_⟩
  ·rintro i σ H' _ ⟨_,s2⟩
   exact SqL.of (s2.at hl1)
  ·rintro i v σ H2 hi ⟨⟨o,rfl⟩,s2⟩
   rw [List.getElem?_map] at hi
   obtain ⟨nm,hnm,rfl⟩:=Option.map_eq_some_iff.mp hi
   have hm:=(hpn nm).mp (List.mem_of_getElem? hnm)
   obtain ⟨p,hp,rfl⟩:=List.mem_map.mp hm
   refine WSs.last (ps_if (PW.pt (pw_and (pt_cmpR (r:=rNotInY K) (oNotInY hr) (pv 3) (pv 2) (by with_unfolding_all rfl)) (pw_and1 (pt_not (pt_val (pe_call (G__law_refused T) hr rfl T.m__law_refused T.d__law_refused.F.kp T.d__law_refused.b .nil pass0 (pa_c (pv 0) (pa_c (pv 3) (pa_c pe_bl pa_nil))))))))) pss_w pss_nil) ⟨_,rfl,_,rfl,.inl ⟨l2,_,rfl,.inl (SqL.of (s2.at hl2)),rfl,flat_strs _,_,rfl,?_⟩⟩
   rw [if_pos rfl,inV_strs]
   refine ite2 (fun z=>?_) (fun _=>⟨⟨_,rfl⟩,s2⟩)
   have z:¬ p.2 ∈ sn:=by simpa using z
   exact ⟨_,rfl,_,rfl,x,_,false,true,ps,js,sg,rfl,tr.mono s2,yv,(yv.name p hp).asked,fun nm e y=>z (by rw [V.str.inj e]; exact (hsn nm).mpr y),fun H3 s3=>⟨_,rfl,ite2 (fun z=>absurd z (by decide)) (fun _=>⟨⟨_,rfl⟩,s2.trans s3⟩)⟩⟩
  ·rintro σ H2 ⟨_,s2⟩
   exact WSs.last (ps_ret pe_bl) (q H2 s2)
theorem G__law_kept_apart (T:Tx K mg) {k:Nat} (h:4 ≤ k:=by decide):FnOk P w K mg base CX0 k T.d__law_kept_apart.f T.d__law_kept_apart.fd ["_law_tracks_here", "_law_parts", "_law_signals"] (spApart T):=(ok__law_kept_apart T).mono h
end
end K13
end
section
namespace K13
open PySem L2 NM YM
section
variable {P:Program} {w:World} {K:PySem.W.Frag} {mg:Str→Option Value} {base:Heap}
seal PySem.wpAny
theorem PObj.offL {H:Hp} {c x C:Addr} {o:HO} {xs:List V} {nm:Str} (h:PObj H C x nm) (hc:H c=some (.lst xs)):PObj (upd H c o) C x nm:=by
 obtain ⟨dx,h⟩:=h
 exact ⟨dx,(upd_ne fun z=>by rw [z,hc] at h; cases h).trans h⟩
def YardAt (H:Hp) (t:Addr) (ps:List EndT) (js:List (EndT×EndT)) (sg:List (Str×Str×Str)):Prop:=∃ pl jl sl,H t=some (.tup [.ref pl,.ref jl,.ref sl])∧PartsAt H pl ps∧JoinsAt H jl js∧SigsAt H sl sg
theorem YardAt.mono {H H':Hp} {t:Addr} {ps:List EndT} {js:List (EndT×EndT)} {sg:List (Str×Str×Str)} (e:Same H H') (h:YardAt H t ps js sg):YardAt H' t ps js sg:=let ⟨pl,jl,sl,h1,h2,h3,h4⟩:=h; ⟨pl,jl,sl,e.at h1,h2.mono e,h3.mono e,h4.mono e⟩
theorem pass_none {X:Cx}:Passes (CXF X.prog X.w) X E0:=fun _ _ _ _ _ _ _ ⟨_,_,_,_,_,_,_,_,_,_,h⟩=>h.elim
theorem fst_inj {α β:Type} {l:List (α×β)} (nd:(l.map Prod.fst).Nodup) {a:α} {b c:β} (h1:(a,b) ∈ l) (h2:(a,c) ∈ l):b=c:=by
 induction l with
 | nil=>cases h1
 | cons d l ih =>
  rw [List.map_cons,List.nodup_cons] at nd
  rcases List.mem_cons.mp h1 with y1 | y1 <;> rcases List.mem_cons.mp h2 with y2 | y2
  ·rw [← y1] at y2; exact (Prod.mk.inj y2).2.symm
  ·exact absurd (List.mem_map.mpr ⟨_,y2,by rw [← y1]⟩) nd.1
  ·exact absurd (List.mem_map.mpr ⟨_,y1,by rw [← y2]⟩) nd.1
  ·exact ih nd.2 y1 y2
def swapJ (j:EndT×EndT):EndT×EndT:=(j.2,j.1)
theorem mem_swapJ {js:List (EndT×EndT)} {j:EndT×EndT} (h:j ∈ js ++ js.map swapJ):j ∈ qJ js:=by
 unfold qJ
 rw [List.mem_flatMap]
 rcases List.mem_append.mp h with h | h
 ·exact ⟨j,h,List.mem_cons_self⟩
 ·obtain ⟨i,hi,rfl⟩:=List.mem_map.mp h
  exact ⟨i,hi,List.mem_cons_of_mem _ List.mem_cons_self⟩
def StAt (H:Hp) (t:Addr) (g:G3):Prop:=∃ a,H t=some (.tup [.ref a,.str g.1])∧PairAt H a g.2
theorem StAt.mono {H H':Hp} {t:Addr} {g:G3} (e:Same H H') (h:StAt H t g):StAt H' t g:=let ⟨a,h1,h2⟩:=h; ⟨a,e.at h1,h2.mono e⟩
def atE (sg:List G3) (e:EndT):List Str:=(sg.filter fun g=>decide (g.2=e)).map Prod.fst
theorem atE_opt {e:EndT}:∀ {sg:List G3},(sg.map Prod.snd).Nodup→∃ o:Option Str,atE sg e=o.toList∧((∃ nm,o=some nm∧(nm,e) ∈ sg)∨(o=none∧e ∉ sg.map Prod.snd))
 | [],_=>⟨none,rfl,.inr ⟨rfl,by simp⟩⟩
 | g :: sg,nd=>by
  rw [List.map_cons,List.nodup_cons] at nd
  obtain ⟨o,h1,h2⟩:=atE_opt (e:=e) nd.2
  by_cases z:g.2=e
  ·have:o=none:=by
    rcases h2 with ⟨nm,_,h⟩ | ⟨h,_⟩
    ·exact absurd (List.mem_map.mpr ⟨_,h,z.symm⟩) nd.1
    ·exact h
   refine ⟨some g.1,?_,.inl ⟨g.1,rfl,by rw [← z]; exact List.mem_cons_self⟩⟩
   unfold atE at h1 ⊢
   rw [List.filter_cons_of_pos (p:=fun g:G3=>decide (g.2=e)) (a:=g) (decide_eq_true z),List.map_cons,h1,this]
   rfl
  ·refine ⟨o,?_,?_⟩
   ·unfold atE at h1 ⊢
    rw [List.filter_cons_of_neg (p:=fun g:G3=>decide (g.2=e)) (a:=g) (by simpa using z),h1]
   ·rcases h2 with ⟨nm,h,h'⟩ | ⟨h,h'⟩
    ·exact .inl ⟨nm,h,List.mem_cons_of_mem _ h'⟩
    ·refine .inr ⟨h,fun y=>?_⟩
     rw [List.map_cons] at y
     rcases List.mem_cons.mp y with y | y
     ·exact z y.symm
     ·exact h' y
theorem atE_snoc {sg:List G3} {i:Nat} {g:G3} {e:EndT} (h:sg[i]? = some g):atE (sg.take (i + 1)) e=if g.2=e then atE (sg.take i) e ++ [g.1] else atE (sg.take i) e:=by
 unfold atE
 rw [List.take_add_one,h]
 show ((sg.take i ++ [g]).filter _).map _=_
 rw [List.filter_append,List.map_append]
 by_cases z:g.2=e
 ·rw [if_pos z,List.filter_cons_of_pos (p:=fun g:G3=>decide (g.2=e)) (a:=g) (decide_eq_true z)]; rfl
 ·rw [if_neg z,List.filter_cons_of_neg (p:=fun g:G3=>decide (g.2=e)) (a:=g) (by simpa using z)]; simp
theorem imP {H:Hp} {u:Addr} {e:EndT} (h:PairAt H u e):Im K H 1 (trP e) (.ref u):=Im.tup (n:=0) (SqT.of h) (.cons (.str _) (.cons (.str _) .nil))
theorem noS {s:Str} (z:(!decide (V.str s=V.str s))=true):False:=by rw [decide_eq_true rfl] at z; exact absurd z (by decide)
theorem noT {u:Tr} (z:(if true=true then !decide (u=u) else decide (u=u))=true):False:=by rw [if_pos rfl,decide_eq_true rfl] at z; exact absurd z (by decide)
theorem noB {a b:Bool} (e:a=b) (z:(!decide (V.bl a=V.bl b))=true):False:=by rw [e,decide_eq_true rfl] at z; exact absurd z (by decide)
theorem lies_pts (k:Str):(if true=true then !decide (Tr.lst ((liesS k).map Tr.str)=Tr.lst [.str ""]) else decide (Tr.lst ((liesS k).map Tr.str)=Tr.lst [.str ""]))=decide (k = "points"):=by
 rw [if_pos rfl]
 by_cases h:k = "points"
 ·rw [h,decide_eq_true rfl,decide_eq_false (fun z=>by unfold liesS at z; rw [if_pos rfl] at z; simp at z)]; rfl
 ·unfold liesS
  rw [if_neg h,decide_eq_false h,decide_eq_true (by rfl)]; rfl
def spTold (T:Tx K mg):Sp:=fun vs H Q _=>∃ (x t:Addr) (ps:List EndT) (js:List (EndT×EndT)) (sg:List G3),vs=[.ref x,.ref t]∧TracksAt T H x ps js sg∧YardV ps js sg∧YardAt H t ps js sg∧∀ H',Same H H'→Q (.bl true) H'
theorem ok__law_ends_told (T:Tx K mg):FnOk P w K mg base CX0 4 T.d__law_ends_told.f T.d__law_ends_told.fd ["_law_tracks_here", "_law_yard"] (spTold T):=by
 refine T.d__law_ends_told.F.okW sc__law_ends_told (fun vs H Q E h=>?_) (fun cdv A outer s H vs Q E hr h=>?_)
 ·obtain ⟨x,t,ps,js,sg,rfl,_⟩:=h
  rfl
 ·obtain ⟨x,t,ps,js,sg,rfl,tr,yv,⟨pl,jl,sl,ht,⟨ts,hpl,hts⟩,⟨us,hjl,hus⟩,⟨gs,hsl,hgs⟩⟩,q⟩:=h
  obtain ⟨dx,_,_,_,_,_,_,_,_,h1,_⟩:=id tr.ex
  have htl:=Paired.length hts
  have hul:=Paired.length hus
  have hgl:=Paired.length hgs
  have ylen:=yv.len
  have jlen:=yv.net.jlen ylen
  have slen:=yv.sigs.len
  have jnd:((qJ js).map Prod.fst).Nodup:=by rw [qJ_fst]; exact yv.net.flat.nodup_iff.mpr (endsOf_nd yv.net.nd)
  refine WSs.step (ps_set (i:=2) sc__law_ends_told.nd rfl (by first | exact Or.inl rfl | exact Or.inr rfl) (pe_op oAdd (pe_ix (r:=rIx K) ix_seq (pv 1) pe_int (fun _ _=>rfl)) (pe_comp (N':=["_law_join"]) rfl (CompScope.std 1 [] rfl (by decide +kernel) (by decide +kernel) rfl trivial rfl rfl trivial) (pi_list (pe_ix (r:=rIx K) ix_seq (pv 1) pe_int (fun _ _=>rfl))) (fun _ _ _ _=>(pg_name (i:=0) (by show (["_law_join"]:List Str).Nodup; decide +kernel) rfl (Or.inl (lookup_relabel_local rfl)) (Or.inr (lookup_relabel_local rfl)))) (fun _ _ _ _=>pf_nil) (fun _ _ _ _=>(pe_tupS (pa_c (pe_ix (r:=rIx K) ix_seq (pv 0) pe_int (fun _ _=>rfl)) (pa_c (pe_ix (r:=rIx K) ix_seq (pv 0) pe_int (fun _ _=>rfl)) pa_nil))))))) ⟨_,rfl,.inr (.inl ⟨t,_,1,_,rfl,rfl,SqT.of ht,atI_nat (j:=1) rfl,_,rfl,.inr (.inl ⟨t,_,1,_,rfl,rfl,SqT.of ht,atI_nat (j:=1) rfl,jl,rfl,⟨_,SqL.of hjl⟩,fun D hD=>comp_list (K:=K) (xs:=us.map V.ref) (fun i ys H'=>(∃ vs:List Addr,ys=vs.map V.ref∧Paired (JoinAt H') vs ((js.take i).map swapJ))∧H' D=some (.lst ys)∧Same H H') ⟨⟨[],rfl,.nil⟩,upd_same,Same.new hD⟩ ?_ ?_ ?_⟩)⟩)⟩
  ·rintro i ys H' _ ⟨_,_,sm⟩
   exact SqL.of (sm.at hjl)
  ·rintro i v ys H1 hi ⟨⟨vs,rfl,hvs⟩,hD1,s1⟩
   rw [List.getElem?_map] at hi
   obtain ⟨u,hu,rfl⟩:=Option.map_eq_some_iff.mp hi
   obtain ⟨j,hj,a1,a2,hju,ha1,ha2⟩:=Paired.get hus hu
   have hvl:vs.length ≤ 300:=by
    have:=Paired.length hvs
    rw [List.length_map,List.length_take] at this
    omega
   have hsq:=SqT.of (K:=K) (s1.at hju)
   refine ⟨Keep.set rfl,_,rfl,.inr (.inl ⟨u,_,1,_,rfl,rfl,hsq,atI_nat (j:=1) rfl,_,rfl,.inr (.inl ⟨u,_,0,_,rfl,rfl,hsq,atI_nat (j:=0) rfl,sz (by simp),fun t' H2 s2 n2 e2=>⟨s2.at hD1,by rw [List.length_map]; exact small1000 (by omega),⟨vs ++ [t'],by rw [List.map_append]; rfl,?_⟩,upd_same,fun b o z=>?_⟩⟩)⟩)⟩
   ·have hD2:=s2.at hD1
    have off:∀ {c:Addr} {xs:List V} {o:HO},H2 c=some (.tup xs)→upd H2 D o c=some (.tup xs):=fun {c xs o} z=>(upd_ne fun y=>by rw [y,hD2] at z; cases z).trans z
    rw [List.take_add_one,hj,List.map_append]
    exact Paired.snoc (Paired.mapP hvs fun _ _ ⟨b1,b2,z1,z2,z3⟩=>⟨b1,b2,off (s2.at z1),off (s2.at z2),off (s2.at z3)⟩) ⟨a2,a1,off e2,off (s2.at (s1.at ha2)),off (s2.at (s1.at ha1))⟩
   ·rw [upd_ne (ne_of_none z hD)]; exact s2.at (s1.at z)
  rintro ys H1 ⟨⟨vs,rfl,hvs⟩,hD1,s1⟩
  rw [List.length_map,hul,List.take_length] at hvs
  have hvl:=Paired.length hvs
  rw [List.length_map] at hvl
  refine .inr (.inr ⟨jl,D,_,_,rfl,rfl,s1.at hjl,hD1,?_,fun jj H2 s2 n2 e2=>?_⟩)
  ·rw [List.length_map,List.length_map]; exact sz (by omega)
  rw [← List.map_append] at e2
  have s02:=s1.trans s2
  have hall:Paired (JoinAt H2) (us ++ vs) (js ++ js.map swapJ):=Paired.append (Paired.mapP hus fun _ _ r=>r.mono s02) (Paired.mapP hvs fun _ _ r=>r.mono s2)
  have tr2:=tr.mono s02
  have h12:=s02.at h1
  refine WSs.step (ps_for PassesOwn.never rfl (pi_list (pv 2)) (pg_tup rfl (pgs_cons (pg_name (i:=3) sc__law_ends_told.nd rfl (by first | exact Or.inl rfl | exact Or.inr rfl)) (pgs_cons (pg_name (i:=4) sc__law_ends_told.nd rfl (by first | exact Or.inl rfl | exact Or.inr rfl)) pgs_nil))) pss_w) ⟨_,rfl,jj,rfl,⟨_,SqL.of e2⟩,for_list (K:=K) (xs:=(us ++ vs).map V.ref) (fun i σ H'=>(∃ o3 o4,σ=[some (.ref x),some (.ref t),some (.ref jj),o3,o4,none,none,none,none,none,none])∧Same H2 H') ⟨⟨none,none,rfl⟩,Same.refl _⟩ ?_ ?_ ?_⟩
  ·rintro i σ H' _ ⟨_,s3⟩
   exact SqL.of (s3.at e2)
  ·rintro i v σ H3 hi ⟨⟨o3,o4,rfl⟩,s3⟩
   rw [List.getElem?_map] at hi
   obtain ⟨u,hu,rfl⟩:=Option.map_eq_some_iff.mp hi
   obtain ⟨j,hj,a1,a2,hju,ha1,ha2⟩:=Paired.get hall hu
   have hq:=mem_swapJ (List.mem_of_getElem? hj)
   have he:j.1 ∈ endsOf ps:=yv.net.flat.mem_iff.mp (by rw [← qJ_fst]; exact List.mem_map.mpr ⟨j,hq,rfl⟩)
   refine ⟨u,_,rfl,SqT.of (s3.at hju),rfl,_,_,rfl,_,_,rfl,rfl,?_⟩
   refine WSs.last (ps_if (PW.pt (pw_or (pt_cmpR (r:=rNeY K) (oNeY hr) (pe_meth (pv 0) T.clTracks T.mtTracks_beyond (G_Tracks_beyond T) hr T.d_Tracks_beyond.b .nil pass0 (pa_c (pv 3) pa_nil)) (pv 4) (nomark _)) (pw_or1 (pt_not (pt_val (pe_callB (r:=rIsi K) call_isiX (by rfl) T.n_isinstance PyProof.Rows.boot_isinstance (pa_c (pe_meth (pv 0) T.clTracks T.mtTracks_beyond (G_Tracks_beyond T) hr T.d_Tracks_beyond.b .nil pass0 (pa_c (pv 3) pa_nil)) (pa_c (pe_bltn (v:=.ty "tuple") (by rfl) T.n_tuple PyProof.Rows.boot_tuple rfl) pa_nil)))))))) pss_w pss_nil) ⟨_,rfl,x,dx,_,rfl,s3.at h12,rfl,_,rfl,x,a1,j.1,ps,js,sg,rfl,tr2.mono s3,yv,ha1.mono s3,.inl ⟨he,fun t' e' hq' ht'=>⟨_,rfl,.inr (.inl ⟨1,trP e',trP j.2,by decide,.inl ⟨_,_,rfl,rfl⟩,imP ht',imP (ha2.mono s3),_,rfl,?_⟩)⟩⟩⟩
   rw [fst_inj jnd hq' hq]
   refine ite2 (fun z=>(noT z).elim) (fun _=>?_)
   exact ⟨_,rfl,x,dx,_,rfl,s3.at h12,rfl,_,rfl,x,a1,j.1,ps,js,sg,rfl,tr2.mono s3,yv,ha1.mono s3,.inl ⟨he,fun t' e' hq' ht'=>⟨_,_,true,_,rfl,TyOf.tup ht',.inl ⟨_,rfl,T.kTT⟩,_,rfl,ite2 (fun z=>absurd z (by decide)) (fun _=>⟨⟨_,_,rfl⟩,s3⟩)⟩⟩⟩
  rintro σ H3 ⟨⟨o3,o4,rfl⟩,s3⟩
  have s03:=s02.trans s3
  refine WSs.step (ps_setComp (i:=5) (N':=["_law_row"]) sc__law_ends_told.nd rfl (Or.inl rfl) rfl (CompScope.std 1 [] rfl (by decide +kernel) (by decide +kernel) rfl trivial rfl rfl trivial) (pi_list (pe_ix (r:=rIx K) ix_seq (pv 1) pe_int (fun _ _=>rfl))) (fun _ _ _ _=>(pg_name (i:=0) (by show (["_law_row"]:List Str).Nodup; decide +kernel) rfl (Or.inl (lookup_relabel_local rfl)) (Or.inr (lookup_relabel_local rfl)))) (fun _ _ _ _=>pf_nil) (fun _ _ _ _=>(pe_tupS (pa_c (pe_tupS (pa_c (pe_ix (r:=rIx K) ix_seq (pv 0) pe_int (fun _ _=>rfl)) (pa_c (pe_ix (r:=rIx K) ix_seq (pv 0) pe_int (fun _ _=>rfl)) pa_nil))) (pa_c (pe_ix (r:=rIx K) ix_seq (pv 0) pe_int (fun _ _=>rfl)) pa_nil))))) ⟨_,rfl,.inr (.inl ⟨t,_,2,_,rfl,rfl,SqT.of (s03.at ht),atI_nat (j:=2) rfl,sl,rfl,⟨_,SqL.of (s03.at hsl)⟩,fun D2 hD2=>comp_list (K:=K) (xs:=gs.map V.ref) (fun i ys H'=>(∃ vs:List Addr,ys=vs.map V.ref∧Paired (StAt H') vs (sg.take i))∧H' D2=some (.lst ys)∧Same H3 H') ⟨⟨[],rfl,.nil⟩,upd_same,Same.new hD2⟩ ?_ ?_ ?_⟩)⟩
  ·rintro i ys H' _ ⟨_,_,sm⟩
   exact SqL.of ((s03.trans sm).at hsl)
  ·rintro i v ys H4 hi ⟨⟨vs,rfl,hvs⟩,hD4,s4⟩
   rw [List.getElem?_map] at hi
   obtain ⟨u,hu,rfl⟩:=Option.map_eq_some_iff.mp hi
   obtain ⟨g,hg,hgu⟩:=Paired.get hgs hu
   have hvl:vs.length ≤ 100:=by
    have:=Paired.length hvs
    rw [List.length_take] at this
    omega
   have hu4:H4 u=some (.tup [.str g.1,.str g.2.1,.str g.2.2]):=s4.at (s03.at hgu)
   have hsq:=SqT.of (K:=K) hu4
   refine ⟨Keep.set rfl,_,rfl,.inr (.inl ⟨u,_,1,_,rfl,rfl,hsq,atI_nat (j:=1) rfl,_,rfl,.inr (.inl ⟨u,_,2,_,rfl,rfl,hsq,atI_nat (j:=2) rfl,sz (by simp),fun t1 H5 s5 n5 e5=>⟨_,rfl,.inr (.inl ⟨u,_,0,_,rfl,rfl,SqT.of (s5.at hu4),atI_nat (j:=0) rfl,sz (by simp),fun t2 H6 s6 n6 e6=>⟨s6.at (s5.at hD4),by rw [List.length_map]; exact small1000 (by omega),⟨vs ++ [t2],by rw [List.map_append]; rfl,?_⟩,upd_same,fun b o z=>?_⟩⟩)⟩⟩)⟩)⟩
   ·have hD6:=s6.at (s5.at hD4)
    have off:∀ {c:Addr} {xs:List V} {o:HO},H6 c=some (.tup xs)→upd H6 D2 o c=some (.tup xs):=fun {c xs o} z=>(upd_ne fun y=>by rw [y,hD6] at z; cases z).trans z
    rw [List.take_add_one,hg]
    exact Paired.snoc (Paired.mapP hvs fun _ _ ⟨b1,z1,z2⟩=>⟨b1,off (s6.at (s5.at z1)),off (s6.at (s5.at z2))⟩) ⟨t1,off e6,off (s6.at e5)⟩
   ·rw [upd_ne (ne_of_none z hD2)]; exact s6.at (s5.at (s4.at z))
  rintro ys H4 ⟨⟨ws,rfl,hws⟩,hD4,s4⟩
  rw [List.length_map,hgl,List.take_length] at hws
  have hwl:=Paired.length hws
  have s04:=s03.trans s4
  have tr4:=tr.mono s04
  have h14:=s04.at h1
  refine WSs.step (ps_for PassesOwn.never rfl (pi_list (pe_ix (r:=rIx K) ix_seq (pv 1) pe_int (fun _ _=>rfl))) (pg_tup rfl (pgs_cons (pg_name (i:=6) sc__law_ends_told.nd rfl (by first | exact Or.inl rfl | exact Or.inr rfl)) (pgs_cons (pg_name (i:=7) sc__law_ends_told.nd rfl (by first | exact Or.inl rfl | exact Or.inr rfl)) pgs_nil))) pss_w) ⟨_,rfl,.inr (.inl ⟨t,_,0,_,rfl,rfl,SqT.of (s04.at ht),atI_nat (j:=0) rfl,pl,rfl,⟨_,SqL.of (s04.at hpl)⟩,for_list (K:=K) (xs:=ts.map V.ref) (fun i σ H'=>(∃ o6 o7 o8 o9 o10,σ=[some (.ref x),some (.ref t),some (.ref jj),o3,o4,some (.ref D2),o6,o7,o8,o9,o10])∧Same H4 H') ⟨⟨none,none,none,none,none,rfl⟩,Same.refl _⟩ ?_ ?_ ?_⟩)⟩
  ·rintro i σ H' _ ⟨_,s5⟩
   exact SqL.of (s5.at (s04.at hpl))
  ·rintro i v σ H5 hi ⟨⟨o6,o7,o8,o9,o10,rfl⟩,s5⟩
   rw [List.getElem?_map] at hi
   obtain ⟨u,hu,rfl⟩:=Option.map_eq_some_iff.mp hi
   obtain ⟨⟨k,nm⟩,hp,hpu⟩:=Paired.get hts hu
   have hpu:H u=some (.tup [.str k,.str nm]):=hpu
   have hm:((k,nm):EndT) ∈ ps:=List.mem_of_getElem? hp
   refine ⟨u,_,rfl,SqT.of ((s04.trans s5).at hpu),rfl,_,_,rfl,_,_,rfl,rfl,?_⟩
   refine WSs.step (ps_set (i:=8) sc__law_ends_told.nd rfl (by first | exact Or.inl rfl | exact Or.inr rfl) (pe_meth (pv 0) T.clTracks T.mtTracks_named (G_Tracks_named T) hr T.d_Tracks_named.b .nil pass_none (pa_c (pv 7) pa_nil))) ⟨_,rfl,x,dx,_,rfl,s5.at h14,rfl,_,rfl,x,_,ps,js,sg,rfl,tr4.mono s5,yv,.inl ⟨k,nm,rfl,hm,fun y C H6 s6 hC hO=>?_⟩⟩
   obtain ⟨f1,d1,m1,b1,g1⟩:=hC.ends
   obtain ⟨f2,d2,m2,b2,g2⟩:=hC.lies
   obtain ⟨dy,hy⟩:=id hO
   refine WSs.step (ps_if (PW.pt (pw_or (pt_cmpR (r:=rNeY K) (oNeY hr) (pe_fld (pv 8) rfl) (pv 7) (nomark _)) (pw_or1 (pt_cmpR (r:=rNeY K) (oNeY hr) pe_w (pe_call (G__law_ends T) hr rfl T.m__law_ends T.d__law_ends.F.kp T.d__law_ends.b .nil pass0 (pa_c (pv 6) pa_nil)) (nomark _))))) pss_w pss_nil) ⟨_,rfl,y,C,dy,_,_,rfl,hy,hC.cls.1,hC.cls.2.1,rfl,_,rfl,.inl ⟨rfl,_,rfl,ite2 (fun z=>(noS z).elim) (fun _=>WE.of (pe_meth0 (pv 8) hC.cls.1 m1 (g1 _ _ _ 3 (by decide)) hr b1 .nil pass0) ⟨_,rfl,y,dy,_,rfl,hy,rfl,_,rfl,fun l1 H7 s7 n7 e7=>⟨_,rfl,k,rfl,fun l2 H8 s8 n8 e8=>.inr (.inl ⟨1,.lst ((endsK k).map Tr.str),.lst ((endsK k).map Tr.str),by decide,.inr ⟨_,_,rfl,rfl⟩,Im.lst (SqL.of (s8.at e7)) (Paired.strs _),Im.lst (SqL.of e8) (Paired.strs _),_,rfl,ite2 (fun z=>(noT z).elim) (fun _=>?_)⟩)⟩⟩)⟩⟩
   have s68:=s7.trans s8
   obtain ⟨ty1,t1,k1⟩:=hC.gate (hO.mono s68)
   obtain ⟨ty2,t2,k2⟩:=hC.points (hO.mono s68)
   refine WSs.step (ps_if (PW.pt (pw_or (pt_cmpR (r:=rNeY K) (oNeY hr) (pe_callB (r:=rIsi K) call_isiX (by rfl) T.n_isinstance PyProof.Rows.boot_isinstance (pa_c (pv 8) (pa_c (pe_glob (v:=.ref T.CGate) (by rfl) T.mGate rfl) pa_nil))) (pe_cmpR (r:=rEqX K) (oEqX hr) (pv 6) pe_str (nomark _)) (nomark _)) (pw_or1 (pt_cmpR (r:=rNeY K) (oNeY hr) (pe_callB (r:=rIsi K) call_isiX (by rfl) T.n_isinstance PyProof.Rows.boot_isinstance (pa_c (pv 8) (pa_c (pe_glob (v:=.ref T.CPoints) (by rfl) T.mPoints rfl) pa_nil))) (pe_cmpR (r:=rNeY K) (oNeY hr) pe_w (pe_lstS (pa_c pe_str pa_nil)) (nomark _)) (nomark _))))) pss_w pss_nil) ⟨_,rfl,_,_,_,_,rfl,t1,.inr ⟨_,rfl,k1⟩,_,rfl,.inl ⟨rfl,.inl ⟨rfl,_,rfl,ite2 (fun z=>(noB (by simp) z).elim) (fun _=>⟨_,rfl,_,_,_,_,rfl,t2,.inr ⟨_,rfl,k2⟩,WE.of (pe_meth0 (pv 8) hC.cls.1 m2 (g2 _ _ _ 3 (by decide)) hr b2 .nil pass0) ⟨_,rfl,y,dy,_,rfl,s68.at hy,rfl,_,rfl,fun l3 H9 s9 n9 e9=>⟨sz (by simp),fun l4 H10 s10 n10 e10=>.inr (.inl ⟨1,.lst ((liesS k).map Tr.str),.lst [.str ""],by decide,.inr ⟨_,_,rfl,rfl⟩,Im.lst (SqL.of (s10.at e9)) (Paired.strs _),Im.lst (SqL.of e10) (.cons (.str _) .nil),.inl ⟨rfl,_,rfl,ite2 (fun z=>(noB (lies_pts k).symm z).elim) (fun _=>?_)⟩⟩)⟩⟩⟩)⟩⟩⟩
   have s610:=s68.trans (s9.trans s10)
   refine WSs.last (ps_for PassesOwn.never rfl (pi_list (pe_call (G__law_ends T) hr rfl T.m__law_ends T.d__law_ends.F.kp T.d__law_ends.b .nil pass0 (pa_c (pv 6) pa_nil))) (pg_name (i:=9) sc__law_ends_told.nd rfl (by first | exact Or.inl rfl | exact Or.inr rfl)) pss_w) ⟨_,rfl,k,rfl,fun le H11 s11 n11 e11=>⟨le,rfl,⟨_,SqL.of e11⟩,for_list (K:=K) (xs:=(endsK k).map V.str) (fun i σ H'=>(∃ o9 o10,σ=[some (.ref x),some (.ref t),some (.ref jj),o3,o4,some (.ref D2),some (.str k),some (.str nm),some (.ref y),o9,o10])∧Same H11 H') ⟨⟨_,_,rfl⟩,Same.refl _⟩ ?_ ?_ ?_⟩⟩
   ·rintro i σ H' _ ⟨_,s12⟩
    exact SqL.of (s12.at e11)
   ·rintro i2 v σ H12 hi2 ⟨⟨o9,o10,rfl⟩,s12⟩
    rw [List.getElem?_map] at hi2
    obtain ⟨en,hen,rfl⟩:=Option.map_eq_some_iff.mp hi2
    have s412:=s5.trans (s6.trans (s610.trans (s11.trans s12)))
    obtain ⟨o,ho,hoS⟩:=atE_opt (e:=((nm,en):EndT)) yv.sigs.one
    refine WSs.step (ps_set (i:=10) sc__law_ends_told.nd rfl (by first | exact Or.inl rfl | exact Or.inr rfl) (pe_bm PySem.F.plainAttrs_str PySem.F.slot_str_join PySem.F.type_str_join (r:=rJoin K) mt_join pe_str (pa_c (pe_comp (N':=["_law_row", "_law_name", "_law_end"]) rfl (CompScope.std 1 [7,9] rfl (by decide +kernel) (by decide +kernel) rfl ⟨rfl,rfl,trivial⟩ rfl rfl ⟨⟨_,rfl,rfl,rfl⟩,⟨_,rfl,rfl,rfl⟩,trivial⟩) (pi_list (pv 5)) (fun _ _ _ _=>(pg_name (i:=0) (by show (["_law_row", "_law_name", "_law_end"]:List Str).Nodup; decide +kernel) rfl (Or.inl (lookup_relabel_local rfl)) (Or.inr (lookup_relabel_local rfl)))) (fun _ _ _ _=>(pf_one (pt_cmpR (r:=rEqX K) (oEqX hr) (pe_ix (r:=rIx K) ix_seq (pv 0) pe_int (fun _ _=>rfl)) (pe_tupS (pa_c (pv 1) (pa_c (pv 2) pa_nil))) (nomark _)))) (fun _ _ _ _=>(pe_ix (r:=rIx K) ix_seq (pv 0) pe_int (fun _ _=>rfl)))) pa_nil))) ⟨rfl,_,rfl,D2,rfl,⟨_,SqL.of (s412.at hD4)⟩,fun D3 hD3=>comp_list (K:=K) (xs:=ws.map V.ref) (fun i ys H'=>ys=(atE (sg.take i) (nm,en)).map V.str∧H' D3=some (.lst ys)∧Same H12 H') ⟨rfl,upd_same,Same.new hD3⟩ ?_ ?_ ?_⟩
    ·rintro i ys H' _ ⟨_,_,sm⟩
     exact SqL.of ((s412.trans sm).at hD4)
    ·rintro i3 v ys H13 hi3 ⟨rfl,hD13,s13⟩
     rw [List.getElem?_map] at hi3
     obtain ⟨w',hw',rfl⟩:=Option.map_eq_some_iff.mp hi3
     obtain ⟨g,hg,a,hga,hgp⟩:=Paired.get hws hw'
     have hil:=(List.getElem?_eq_some_iff.mp hg).1
     have s413:=s412.trans s13
     have hsn:=atE_snoc (e:=((nm,en):EndT)) hg
     refine ⟨Keep.set rfl,_,rfl,.inr (.inl ⟨w',_,0,_,rfl,rfl,SqT.of (s413.at hga),atI_nat (j:=0) rfl,_,rfl,_,rfl,sz (by simp),fun tp H14 s14 n14 e14=>.inr (.inl ⟨1,trP g.2,trP (nm,en),by decide,.inl ⟨_,_,rfl,rfl⟩,imP (hgp.mono (s413.trans s14)),imP e14,_,rfl,ite2 (fun z=>?_) (fun z=>?_)⟩)⟩)⟩
     ·have z:g.2=(nm,en):=trP_inj (of_decide_eq_true z)
      rw [if_pos z] at hsn
      refine ⟨_,rfl,.inr (.inl ⟨w',_,1,_,rfl,rfl,SqT.of ((s413.trans s14).at hga),atI_nat (j:=1) rfl,s14.at hD13,?_,?_,upd_same,fun b o z=>?_⟩)⟩
      ·rw [List.length_map]
       refine small1000 ?_
       unfold atE
       rw [List.length_map]
       have:=List.length_filter_le (fun g:G3=>decide (g.2=(nm,en))) (sg.take i3)
       rw [List.length_take] at this
       omega
      ·rw [hsn,List.map_append]; rfl
      ·rw [upd_ne (ne_of_none z hD3)]; exact s14.at (s13.at z)
     ·have z:¬ g.2=(nm,en):=fun y=>z (decide_eq_true (by rw [y]))
      rw [if_neg z] at hsn
      exact ⟨by rw [hsn],s14.at hD13,s13.trans s14⟩
    ·rintro ys H13 ⟨rfl,hD13,s13⟩
     rw [List.length_map,hwl,List.take_length,ho] at hD13
     have s413:=s412.trans s13
     have hln:(o.getD "").length ≤ 1000:=by
      rcases hoS with ⟨n',e',h'⟩ | ⟨e',_⟩
      ·rw [e']; have:n'.length ≤ 6:=(yv.sigs.name _ h').2.1; show n'.length ≤ 1000; omega
      ·rw [e']; decide
     refine ⟨D3,o,rfl,rfl,SqL.of hD13,hln,?_⟩
     refine WSs.last (ps_if (pt_cmpR (r:=rNeY K) (oNeY hr) (pe_meth (pv 0) T.clTracks T.mtTracks_signal_at (G_Tracks_signal_at T) hr T.d_Tracks_signal_at.b .nil pass0 (pa_c (pe_tupS (pa_c (pv 7) (pa_c (pv 9) pa_nil))) pa_nil)) (pv 10) (nomark _)) pss_w pss_nil) ⟨_,rfl,x,dx,_,rfl,s413.at h14,rfl,_,rfl,_,rfl,sz (by simp),fun tp H14 s14 n14 e14=>⟨x,tp,(nm,en),ps,js,sg,rfl,tr4.mono (s413.trans s14),yv,e14,fun n2 hn2=>⟨_,rfl,.inl ⟨rfl,_,rfl,ite2 (fun z=>?_) (fun _=>⟨⟨_,_,rfl⟩,s12.trans (s13.trans s14)⟩)⟩⟩⟩⟩
     have e:n2=o.getD "" := by
      rcases hoS with ⟨n',e',h'⟩ | ⟨e',h'⟩
      ·rcases hn2 with ⟨y,_,_⟩ | ⟨_,y⟩
       ·rw [e']
        show n2=n'
        obtain ⟨g,hg,eg⟩:=List.mem_map.mp y
        have nd:=yv.sigs.one
        rw [show g=(n2,nm,en) from eg] at hg
        exact fst_inj (l:=sg.map Prod.swap) (a:=((nm,en):EndT)) (by rw [List.map_map]; exact nd) (List.mem_map.mpr ⟨_,hg,rfl⟩) (List.mem_map.mpr ⟨_,h',rfl⟩)
       ·exact absurd (List.mem_map.mpr ⟨_,h',rfl⟩) y
      ·rcases hn2 with ⟨_,_,y⟩ | ⟨y,_⟩
       ·exact absurd y h'
       ·rw [e',y]; rfl
     rw [e] at z
     exact (noS z).elim
   ·rintro σ H12 ⟨⟨o9,o10,rfl⟩,s12⟩
    exact ⟨⟨_,_,_,_,_,rfl⟩,s5.trans (s6.trans (s610.trans (s11.trans s12)))⟩
  ·rintro σ H5 ⟨_,s5⟩
   exact WSs.last (ps_ret pe_bl) (q H5 (s04.trans s5))
theorem G__law_ends_told (T:Tx K mg) {k:Nat} (h:4 ≤ k:=by decide):FnOk P w K mg base CX0 k T.d__law_ends_told.f T.d__law_ends_told.fd ["_law_tracks_here", "_law_yard"] (spTold T):=(ok__law_ends_told T).mono h
end
end K13
end
section
namespace K13
open PySem L2 NM YM
section
variable {P:Program} {w:World} {K:PySem.W.Frag} {mg:Str→Option Value} {base:Heap}
seal PySem.wpAny
theorem sigN_head (n k:Nat):(sigN n k).cps.toList.headD 0=115:=by
 have hs:("s" : Str).length=1:=by decide +kernel
 unfold sigN
 rw [head_app (by rw [PySem.Str.length_append,PySem.Str.length_append,hs]; omega),head_app (by rw [PySem.Str.length_append,hs]; omega),head_app (by rw [hs]; decide)]
 decide +kernel
def oddN:List Str:=["none", "g a", "", "s", "G", "g "]
def oddE:List EndT:=[("g", "e"),("none", "a"),("", ""),("g", ""),("", "a"),("g", "stem")]
theorem oddN_asc:∀ x ∈ oddN,(∀ c ∈ x.cps.toList,c < 128)∧x.length ≤ 100:=by decide +kernel
theorem odd_kind:∀ x ∈ oddN,nameB x=false∨(58 ≤ lastD x∧x ≠ "g" ∧ x ≠ "h" ∧ (x.cps.toList.headD 0 ≠ 115∨x.cps.toList.length < 2)∧x ∉ [("go" : Str), "back", "end"]):=by decide +kernel
theorem nmK.far {p:EndT} {s:Str} (h:nmK p) (hs:58 ≤ lastD s) (hg:s ≠ "g") (hh:s ≠ "h"):p.2 ≠ s:=fun z=>by
 rcases h with rfl | rfl | ⟨kd,c,j,_,hj,e⟩ | ⟨j,hj,e⟩
 ·exact hg z.symm
 ·exact hh z.symm
 ·have:=name_last (kd:=kd) (c:=c) (show j < 100 by omega)
  rw [← e,z] at this
  omega
 ·have:=end_last (show j < 100 by omega)
  rw [← e,z] at this
  omega
theorem ends_odd:∀ k ∈ kinds,("" : Str) ∉ endsK k∧("e" : Str) ∉ endsK k:=by decide +kernel
theorem odd_not {ps:List EndT} {js:List (EndT×EndT)} {sg:List G3} (h:YardOk ps js sg) {e:EndT} (he:e ∈ oddE):e ∉ endsOf ps:=fun m=>by
 obtain ⟨p,hp,hy⟩:=List.mem_flatMap.mp m
 obtain ⟨x,hx,rfl⟩:=List.mem_map.mp hy
 clear hy
 have hk:=ends_odd p.1 (h.net.kind p hp)
 have nm:=h.name p hp
 unfold oddE at he
 simp only [List.mem_cons,Prod.mk.injEq,List.mem_nil_iff,or_false] at he
 rcases he with ⟨_,a⟩ | ⟨a,_⟩ | ⟨_,a⟩ | ⟨_,a⟩ | ⟨a,_⟩ | ⟨a,b⟩
 ·rw [a] at hx; exact hk.2 hx
 ·exact nm.far (s := "none") (by decide +kernel) (by decide +kernel) (by decide +kernel) a
 ·rw [a] at hx; exact hk.1 hx
 ·rw [a] at hx; exact hk.1 hx
 ·have:=nm.nm.ok.b
  rw [a] at this
  exact absurd this (by decide +kernel)
 ·rcases nm with rfl | rfl | ⟨kd,c,j,_,hj,e⟩ | ⟨j,hj,e⟩
  ·rw [b] at hx
   exact absurd hx (by decide +kernel)
  ·exact absurd a (by decide +kernel)
  ·have:=name_last (kd:=kd) (c:=c) (show j < 100 by omega)
   rw [← e,a] at this
   exact absurd this (by decide +kernel)
  ·have:=end_last (show j < 100 by omega)
   rw [← e,a] at this
   exact absurd this (by decide +kernel)
theorem odd_part {ps:List EndT} {js:List (EndT×EndT)} {sg:List G3} (h:YardOk ps js sg) {x:Str} (hx:x ∈ oddN):x ∉ ps.map Prod.snd:=fun m=>by
 obtain ⟨p,hp,e⟩:=List.mem_map.mp m
 rcases odd_kind x hx with z | ⟨z1,z2,z3,_⟩
 ·have:=(h.name p hp).nm.ok.b
  rw [e,z] at this
  cases this
 ·exact (h.name p hp).far z1 z2 z3 e
theorem sig_names {ps:List EndT} {js:List (EndT×EndT)} {sg:List G3} (h:YardOk ps js sg) {q:G3} (hq:q ∈ sg):q.1 ∈ ps.map Prod.snd∨(∃ n k,q.1=sigN n k)∨q.1 ∈ [("go" : Str), "back", "end"]:=by
 have at_:=h.sigsV.at_ q hq
 rcases h.sigs with ⟨ps',hp,ok⟩ | ⟨n,m,hn,_,e⟩
 ·rcases ok.name q hq with z | ⟨n,k,_,_,c⟩
  ·obtain ⟨p,hm,e,_⟩:=at_
   exact .inl (by rw [z,← e]; exact List.mem_map.mpr ⟨p,hm,rfl⟩)
  ·exact .inr (.inl ⟨n,k,c⟩)
 ·rw [e] at hq
  have:q.1 ∈ (longS n).map Prod.fst:=List.mem_map.mpr ⟨q,(List.take_sublist m (longS n)).subset hq,rfl⟩
  exact .inr (.inr this)
theorem odd_sig {ps:List EndT} {js:List (EndT×EndT)} {sg:List G3} (h:YardOk ps js sg) {x:Str} (hx:x ∈ oddN):x ∉ sg.map Prod.fst:=fun m=>by
 obtain ⟨q,hq,e⟩:=List.mem_map.mp m
 rcases odd_kind x hx with y | ⟨_,_,_,y,y'⟩
 ·have:=(h.sigsV.name q hq).b
  rw [e,y] at this
  cases this
 ·rcases sig_names h hq with z | ⟨n,k,z⟩ | z
  ·rw [e] at z
   exact odd_part h hx z
  ·rw [← e,z] at y
   rcases y with y | y
   ·exact y (sigN_head n k)
   ·exact absurd (@sig_len n k) (by omega)
  ·rw [e] at z
   exact y' z
theorem comp_texts {l D:Addr} {ts:List Addr} {α:Type} {R:Addr→α→Prop} {ps:List α} {nm:α→Str} {H1:Hp} {Q:VK} {σ:St} (hl:H1 l=some (.lst (ts.map V.ref))) (hp:Paired R ts ps) (hn:ps.length ≤ 100) (hD:H1 D=none)
  (q:∀ H',Same H1 H'→H' D=some (.lst ((ps.map nm).map V.str))→Q (.ref D) H') {fr:St→St} (hfr:fr σ=[none]) {te:TE}
  (hte:∀ t p H' N,R t p→Same H1 H'→N (.str (nm p)) H'→te [some (.ref t)] H' N):CompW (Itl K l) fr (gName 0) tYes te Q σ H1 D:=by
 have hpl:=Paired.length hp
 refine comp_list (xs:=ts.map V.ref) (fun i ys H'=>ys=((ps.take i).map nm).map V.str∧H' D=some (.lst ys)∧Same H1 H') ⟨rfl,upd_same,Same.new hD⟩ ?_ ?_ ?_
 ·rintro i ys H' _ ⟨_,_,sm⟩
  exact SqL.of (sm.at hl)
 ·rintro k v ys H' hk ⟨rfl,hD',sm⟩
  rw [List.getElem?_map] at hk
  obtain ⟨t,ht,rfl⟩:=Option.map_eq_some_iff.mp hk
  obtain ⟨p,hpk,r⟩:=Paired.get hp ht
  unfold CompT
  rw [hfr]
  refine ⟨Keep.set rfl,hte t p H' _ r sm ⟨hD',?_,?_,upd_same,fun b o z=>?_⟩⟩
  ·rw [List.length_map,List.length_map,List.length_take]; exact small1000 (by omega)
  ·rw [List.take_add_one,hpk,List.map_append,List.map_append]; rfl
  ·rw [upd_ne (ne_of_none z hD)]; exact sm.at z
 ·rintro ys H6 ⟨rfl,hD6,s6⟩
  rw [List.length_map,hpl,List.take_length] at hD6
  exact q H6 s6 hD6
theorem TracksAt.offL {T:Tx K mg} {H:Hp} {c x:Addr} {o:HO} {xs:List V} {ps:List EndT} {js:List (EndT×EndT)} {sg:List G3} (h:TracksAt T H x ps js sg) (hc:H c=some (.lst xs)):TracksAt T (upd H c o) x ps js sg:=by
 obtain ⟨dx,po,jo,so,si,kp,ks,kj,ko,h1,h2,h3,h4,h5,h6,h7,h8,h9⟩:=h.ex
 have off:∀ {b:Addr} {u:HO},H b=some u→(∀ ys,u ≠ .lst ys)→upd H c o b=some u:=fun {b u} z n=>(upd_ne fun y=>by rw [y,hc] at z; exact n _ (Option.some.inj z).symm).trans z
 exact ⟨dx,po,jo,so,si,kp,ks,kj,ko,off h1 (fun _ z=>nomatch z),off h2 (fun _ z=>nomatch z),h3.mapR (fun a b v ⟨y,C,z1,z2,z3⟩=>⟨y,C,z1,z2,z3.offL hc⟩),off h4 (fun _ z=>nomatch z),h5.mapR (fun a b v ⟨t,z1,z2⟩=>⟨t,z1,off z2 (fun _ z=>nomatch z)⟩),
  off h6 (fun _ z=>nomatch z),h7.mapR (fun a b v ⟨t,z1,z2⟩=>⟨t,z1,off z2 (fun _ z=>nomatch z)⟩),off h8 (fun _ z=>nomatch z),h9⟩
def trJ (j:EndT×EndT):Tr:=.tup [trP j.1,trP j.2]
theorem joins_im {H:Hp} {ts:List Addr} {js:List (EndT×EndT)} (h:Paired (JoinAt H) ts js):Paired (Im K H 2) (js.map trJ) (ts.map V.ref):=by
 induction h with
 | nil=>exact .nil
 | cons r _ ih =>
  obtain ⟨a,b,h1,h2,h3⟩:=r
  exact .cons (Im.tup (n:=1) (SqT.of h1) (.cons (imP h2) (.cons (imP h3) .nil))) ih
theorem JoinsAt.im {H:Hp} {l:Addr} {js:List (EndT×EndT)} (h:JoinsAt H l js):Im K H 3 (.lst (js.map trJ)) (.ref l):=let ⟨_,h1,h2⟩:=h; Im.lst (SqL.of h1) (joins_im h2)
def trG (g:G3):Tr:=.tup [.str g.1,.str g.2.1,.str g.2.2]
theorem sigs_im {H:Hp} {ts:List Addr} {sg:List G3} (h:Paired (SigAt H) ts sg):Paired (Im K H 1) (sg.map trG) (ts.map V.ref):=by
 induction h with
 | nil=>exact .nil
 | cons r _ ih=>exact .cons (Im.tup (n:=0) (SqT.of r) (.cons (.str _) (.cons (.str _) (.cons (.str _) .nil)))) ih
theorem SigsAt.im {H:Hp} {l:Addr} {sg:List G3} (h:SigsAt H l sg):Im K H 2 (.lst (sg.map trG)) (.ref l):=let ⟨_,h1,h2⟩:=h; Im.lst (SqL.of h1) (sigs_im h2)
theorem SigsAt.offL {H:Hp} {c l:Addr} {o:HO} {xs:List V} {sg:List G3} (h:SigsAt H l sg) (hc:H c=some (.lst xs)) (ne:l ≠ c):SigsAt (upd H c o) l sg :=
 let ⟨ts,h1,h2⟩:=h
 ⟨ts,(upd_ne ne).trans h1,Paired.mapP h2 fun b g z=>(upd_ne fun y=>by rw [y] at z; exact nomatch hc.symm.trans z).trans z⟩
def trD (ss:List Str) (sg:List G3):Tr:=.lst [.lst (ss.map Tr.str),.lst (sg.map trG)]
theorem held_im {H:Hp} {hl nl ml:Addr} {ss:List Str} {sg:List G3} (h:H hl=some (.lst [.ref nl,.ref ml])) (h1:H nl=some (.lst (ss.map V.str))) (h2:SigsAt H ml sg):Im K H 3 (trD ss sg) (.ref hl) :=
 Im.lst (SqL.of h) (.cons (Im.lst (n:=1) (SqL.of h1) (Paired.strs _)) (.cons h2.im .nil))
theorem pe_fldC {X:Cx} {K:PySem.W.Frag} {e:Expr} {f:Str} {pos:Pos} {ta:TE} (hK:X.K=K) (he:PE X e ta) (hb:attributeBase e f X.env (eval e X.env)=eval e X.env):PE X (.Attribute e f pos) (tFld K ta f):=by
 subst hK
 exact pe_fld he hb
end
end K13
end
section
namespace K13
open PySem L2 NM YM
section
variable {P:Program} {w:World} {K:PySem.W.Frag} {mg:Str→Option Value} {base:Heap}
seal PySem.wpAny
def spLaw (K:PySem.W.Frag):Sp:=fun vs H Q _=>∃ (a:Addr) (ns:List Int),vs=[.ref a]∧SqL K H a (ns.map V.int)∧ns.length ≤ 63∧∀ H',Q (.bl true) H'
theorem ok_law {f:Addr} {fd:FuncData} (F:Fun K "law" "law" s_law f fd) (T:Tx K mg):FnOk P w K mg base CX0 9 f fd ["_law_script"] (spLaw K):=by
 refine F.okW sc_law (fun vs H Q E h=>?_) (fun cdv A outer s H vs Q E hr h=>?_)
 ·obtain ⟨a,ns,rfl,_⟩:=h
  rfl
 ·obtain ⟨a,ns,rfl,hS,hns,q⟩:=h
  refine WSs.step (ps_set (i:=1) sc_law.nd rfl (by first | exact Or.inl rfl | exact Or.inr rfl) (pe_call (G__law_yard_by T) hr rfl T.m__law_yard_by T.d__law_yard_by.F.kp T.d__law_yard_by.b .nil pass0 (pa_c (pe_call (G__law_cells T) hr rfl T.m__law_cells T.d__law_cells.F.kp T.d__law_cells.b .nil pass0 (pa_c (pv 0) (pa_c pe_int (pa_c pe_int pa_nil)))) (pa_c (pe_call (G__law_cell_at T) hr rfl T.m__law_cell_at T.d__law_cell_at.F.kp T.d__law_cell_at.b .nil pass0 (pa_c (pv 0) (pa_c pe_int pa_nil))) pa_nil)))) ⟨_,rfl,a,ns,2,16,rfl,hS,hns,by decide,by decide,fun cl H1 cs s1 n1 e1 hc hcl=>⟨_,rfl,a,ns,0,rfl,s1.seq hS,cl,_,cs,rfl,SqL.of e1,fun c h=>(hc c h).1,hcl,fun t pl jl sl H2 ps js sg s2 ht hP hJ hG yo=>?_⟩⟩
  have yv:=yo.v
  have hS2:=(s1.trans s2).seq hS
  obtain ⟨ts,hpl,hts⟩:=hP
  obtain ⟨us,hjl,hus⟩:=hJ
  obtain ⟨gs,hsl,hgs⟩:=hG
  have htl:=Paired.length hts
  have ylen:=yv.len
  have slen:=yv.sigs.len
  clear hc hcl e1 n1 s1 s2 hS
  refine WSs.step (ps_setComp (i:=3) (N':=["_law_kind", "_law_name"]) sc_law.nd rfl (Or.inl rfl) rfl (CompScope.std 2 [] rfl (by decide +kernel) (by decide +kernel) rfl trivial rfl rfl trivial) (pi_list (pe_ix (r:=rIx K) ix_seq (pv 1) pe_int (fun _ _=>rfl))) (fun _ _ _ _=>(pg_tupC (K:=K) (n:=2) rfl rfl (pgs_cons (pg_name (i:=0) (by show (["_law_kind", "_law_name"]:List Str).Nodup; decide +kernel) rfl (Or.inl (lookup_relabel_local rfl)) (Or.inr (lookup_relabel_local rfl))) (pgs_cons (pg_name (i:=1) (by show (["_law_kind", "_law_name"]:List Str).Nodup; decide +kernel) rfl (Or.inl (lookup_relabel_local rfl)) (Or.inr (lookup_relabel_local rfl))) pgs_nil)))) (fun _ _ _ _=>pf_nil) (fun _ _ _ _=>(pe_call (G__law_part T) hr rfl T.m__law_part T.d__law_part.F.kp T.d__law_part.b .nil pass0 (pa_c (pv 0) (pa_c (pv 1) pa_nil))))) ⟨_,rfl,.inr (.inl ⟨t,_,0,_,rfl,rfl,SqT.of ht,atI_nat (j:=0) rfl,pl,rfl,⟨_,SqL.of hpl⟩,fun D hD=>comp_list (K:=K) (xs:=ts.map V.ref) (fun i ys H'=>(∃ xs:List Addr,ys=xs.map V.ref∧Paired (PO T H') xs (ps.take i))∧H' D=some (.lst ys)∧Same H2 H') ⟨⟨[],rfl,.nil⟩,upd_same,Same.new hD⟩ ?_ ?_ ?_⟩)⟩
  ·rintro i ys H' _ ⟨_,_,sm⟩
   exact SqL.of (sm.at hpl)
  ·rintro i v ys H1 hi ⟨⟨xs,rfl,hxs⟩,hD1,s1⟩
   rw [List.getElem?_map] at hi
   obtain ⟨u,hu,rfl⟩:=Option.map_eq_some_iff.mp hi
   obtain ⟨p,hp,hpu⟩:=Paired.get hts hu
   have hpu:H2 u=some (.tup [.str p.1,.str p.2]):=hpu
   have hm:p ∈ ps:=List.mem_of_getElem? hp
   have hxl:xs.length ≤ 100:=by
    have:=Paired.length hxs
    rw [List.length_take] at this
    omega
   refine ⟨u,_,rfl,SqT.of (s1.at hpu),rfl,_,_,rfl,_,_,rfl,rfl,(Keep.set rfl).trans (Keep.set rfl),_,rfl,_,rfl,p.1,p.2,rfl,yv.net.kind p hm,(yv.name p hm).2.1,fun x C H2 s2 n2 hC hO=>⟨s2.at hD1,by rw [List.length_map]; exact small1000 (by omega),⟨xs ++ [x],by rw [List.map_append]; rfl,?_⟩,upd_same,fun b o z=>?_⟩⟩
   ·rw [List.take_add_one,hp]
    exact Paired.append (Paired.mapP hxs fun _ _ ⟨C,z1,z2⟩=>⟨C,z1,(z2.mono s2).offL (s2.at hD1)⟩) (.cons ⟨C,hC,hO.offL (s2.at hD1)⟩ .nil)
   ·rw [upd_ne (ne_of_none z hD)]; exact s2.at (s1.at z)
  rintro ys H3 ⟨⟨xs,rfl,hxs⟩,hD3,s3⟩
  rw [List.length_map,htl,List.take_length] at hxs
  refine WSs.step (ps_set (i:=4) sc_law.nd rfl (by first | exact Or.inl rfl | exact Or.inr rfl) (pe_callTy (r:=rList K) call_listS (by rfl) T.n_list PyProof.Rows.boot_list (pa_c (pe_ix (r:=rIx K) ix_seq (pv 1) pe_int (fun _ _=>rfl)) pa_nil))) ⟨_,rfl,.inr (.inl ⟨t,_,1,_,rfl,rfl,SqT.of (s3.at ht),atI_nat (j:=1) rfl,jl,_,rfl,.inl (SqL.of (s3.at hjl)),fun jl' H4 s4 n4 e4=>?_⟩)⟩
  have s24:=s3.trans s4
  refine WSs.step (ps_set (i:=5) sc_law.nd rfl (by first | exact Or.inl rfl | exact Or.inr rfl) (pe_callTy (r:=rList K) call_listS (by rfl) T.n_list PyProof.Rows.boot_list (pa_c (pe_ix (r:=rIx K) ix_seq (pv 1) pe_int (fun _ _=>rfl)) pa_nil))) ⟨_,rfl,.inr (.inl ⟨t,_,2,_,rfl,rfl,SqT.of (s24.at ht),atI_nat (j:=2) rfl,sl,_,rfl,.inl (SqL.of (s24.at hsl)),fun sl' H5 s5 n5 e5=>?_⟩)⟩
  have s25:=s24.trans s5
  have hD5:=s5.at (s4.at hD3)
  have hx5:Paired (PO T H5) xs ps:=Paired.mapP hxs fun _ _ r=>r.mono (s4.trans s5)
  have hJ5:JoinsAt H5 jl' js:=⟨us,s5.at e4,Paired.mapP hus fun _ _ r=>r.mono s25⟩
  have hG5:SigsAt H5 sl' sg:=⟨gs,e5,Paired.mapP hgs fun _ _ r=>s25.at r⟩
  refine WSs.step (ps_set (i:=6) sc_law.nd rfl (by first | exact Or.inl rfl | exact Or.inr rfl) (pe_makeR (mr_Tracks T) T.mkTracks (G_Tracks___init__ T) hr rfl T.mTracks T.d_Tracks___init__.b .nil pass0 (mk_Tracks T) (pa_c (pv 3) (pa_c (pv 4) (pa_c (pv 5) pa_nil))))) ⟨_,rfl,_,rfl,_,rfl,D,jl',sl',xs,ps,js,sg,rfl,hD5,hx5,hJ5,hG5,yv,fun x H6 s6 n6 tr=>?_⟩
  have s26:=s25.trans s6
  have hD6:=s6.at hD5
  refine WSs.step (ps_if (PW.pt (pw_or (pt_cmpR (r:=rNeY K) (oNeY hr) (pe_comp (N':=["_law_part_here"]) rfl (CompScope.std 1 [] rfl (by decide +kernel) (by decide +kernel) rfl trivial rfl rfl trivial) (pi_list (pv 3)) (fun _ _ _ _=>(pg_name (i:=0) (by show (["_law_part_here"]:List Str).Nodup; decide +kernel) rfl (Or.inl (lookup_relabel_local rfl)) (Or.inr (lookup_relabel_local rfl)))) (fun _ _ _ _=>pf_nil) (fun _ _ _ _=>(pe_fldC (K:=K) rfl (pv 0) rfl))) (pe_comp (N':=["_law_row"]) rfl (CompScope.std 1 [] rfl (by decide +kernel) (by decide +kernel) rfl trivial rfl rfl trivial) (pi_list (pe_ix (r:=rIx K) ix_seq (pv 1) pe_int (fun _ _=>rfl))) (fun _ _ _ _=>(pg_name (i:=0) (by show (["_law_row"]:List Str).Nodup; decide +kernel) rfl (Or.inl (lookup_relabel_local rfl)) (Or.inr (lookup_relabel_local rfl)))) (fun _ _ _ _=>pf_nil) (fun _ _ _ _=>(pe_ix (r:=rIx K) ix_seq (pv 0) pe_int (fun _ _=>rfl)))) (nomark _)) (pw_or (pt_cmpR (r:=rNeY K) (oNeY hr) (pv 4) (pe_ix (r:=rIx K) ix_seq (pv 1) pe_int (fun _ _=>rfl)) (nomark _)) (pw_or1 (pt_cmpR (r:=rNeY K) (oNeY hr) (pv 5) (pe_ix (r:=rIx K) ix_seq (pv 1) pe_int (fun _ _=>rfl)) (nomark _)))))) pss_w pss_nil) ⟨_,rfl,D,rfl,⟨_,SqL.of hD6⟩,fun D2 hD2=>comp_texts (K:=K) (R:=PO T H6) (ps:=ps) (nm:=Prod.snd) hD6 (Paired.mapP hx5 fun _ _ r=>r.mono s6) (by omega) hD2 (fun H7 s7 e7=>?u1) ?u2 ?u3⟩
  case u2=>rfl
  case u3=>exact fun t p H' N ⟨C,hC,dx,hO⟩ sm n=>⟨_,rfl,t,C,dx,_,_,rfl,sm.at hO,hC.cls.1,hC.cls.2.1,rfl,n⟩
  have s27:=s26.trans s7
  refine ⟨_,rfl,.inr (.inl ⟨t,_,0,_,rfl,rfl,SqT.of (s27.at ht),atI_nat (j:=0) rfl,pl,rfl,⟨_,SqL.of (s27.at hpl)⟩,fun D3 hD3'=>comp_texts (K:=K) (R:=PairAt H7) (ps:=ps) (nm:=Prod.snd) (s27.at hpl) (Paired.mapP hts fun _ _ r=>s27.at r) (by omega) hD3' (fun H8 s8 e8=>?v1) ?v2 ?v3⟩)⟩
  case v2=>rfl
  case v3=>exact fun t p H' N r sm n=>⟨_,rfl,.inr (.inl ⟨t,_,1,_,rfl,rfl,SqT.of (sm.at r),atI_nat (j:=1) rfl,n⟩)⟩
  have s28:=s27.trans s8
  have s68:=s7.trans s8
  have s58:=s6.trans s68
  refine .inr (.inl ⟨1,.lst ((ps.map Prod.snd).map Tr.str),.lst ((ps.map Prod.snd).map Tr.str),by decide,.inr ⟨_,_,rfl,rfl⟩,Im.lst (SqL.of (s8.at e7)) (Paired.strs _),Im.lst (SqL.of e8) (Paired.strs _),_,rfl,ite2 (fun z=>(noT z).elim) (fun _=>?_)⟩)
  refine ⟨_,rfl,_,rfl,.inr (.inl ⟨t,_,1,_,rfl,rfl,SqT.of (s28.at ht),atI_nat (j:=1) rfl,.inr (.inl ⟨3,_,_,by decide,.inr ⟨_,_,rfl,rfl⟩,(hJ5.mono s58).im,JoinsAt.im ⟨us,s28.at hjl,Paired.mapP hus fun _ _ r=>r.mono s28⟩,_,rfl,ite2 (fun z=>(noT z).elim) (fun _=>?_)⟩)⟩)⟩
  refine ⟨_,rfl,_,rfl,.inr (.inl ⟨t,_,2,_,rfl,rfl,SqT.of (s28.at ht),atI_nat (j:=2) rfl,.inr (.inl ⟨2,_,_,by decide,.inr ⟨_,_,rfl,rfl⟩,(hG5.mono s58).im,SigsAt.im ⟨gs,s28.at hsl,Paired.mapP hgs fun _ _ r=>s28.at r⟩,_,rfl,ite2 (fun z=>(noT z).elim) (fun _=>?_)⟩)⟩)⟩
  have hD8:=s68.at hD6
  have n2D:=hD
  have n2J:=s3.free n4
  have n2S:=s24.free n5
  have neJD:jl' ≠ D:=(ne_of_none hD3 n4).symm
  have neSD:sl' ≠ D:=(ne_of_none (s4.at hD3) n5).symm
  have neSJ:sl' ≠ jl':=(ne_of_none e4 n5).symm
  have hJ8:=s58.at (s5.at e4)
  have hS8:=s58.at e5
  refine WSs.step (ps_expr (pe_bm0 PySem.F.plainAttrs_list PySem.F.slot_list_clear PySem.F.type_list_clear mt_clear (pv 3))) ⟨_,rfl,.inl ⟨rfl,_,SqL.of hD8⟩,D,_,rfl,rfl,hD8,?_⟩
  have hJA:upd H8 D (.lst []) jl'=_:=(upd_ne neJD).trans hJ8
  refine WSs.step (ps_expr (pe_bm0 PySem.F.plainAttrs_list PySem.F.slot_list_clear PySem.F.type_list_clear mt_clear (pv 4))) ⟨_,rfl,.inl ⟨rfl,_,SqL.of hJA⟩,jl',_,rfl,rfl,hJA,?_⟩
  have hSB:upd (upd H8 D (.lst [])) jl' (.lst []) sl'=_:=(upd_ne neSJ).trans ((upd_ne neSD).trans hS8)
  refine WSs.step (ps_expr (pe_bm0 PySem.F.plainAttrs_list PySem.F.slot_list_clear PySem.F.type_list_clear mt_clear (pv 5))) ⟨_,rfl,.inl ⟨rfl,_,SqL.of hSB⟩,sl',_,rfl,rfl,hSB,?_⟩
  have trC:TracksAt T (upd (upd (upd H8 D (.lst [])) jl' (.lst [])) sl' (.lst [])) x ps js sg:=(((tr.mono s68).offL hD8).offL hJA).offL hSB
  have s2C:Same H2 (upd (upd (upd H8 D (.lst [])) jl' (.lst [])) sl' (.lst [])):=((s28.upd0 n2D).upd0 n2J).upd0 n2S
  generalize upd (upd (upd H8 D (.lst [])) jl' (.lst [])) sl' (.lst [])=G at trC s2C ⊢
  clear hSB hJA hS8 hJ8 neSJ neSD neJD n2S n2J n2D hD8 s58 s68 s28 e8 s8 hD3' s27 e7 s7 hD2 hD6 s26 tr n6 s6 hG5 hJ5 hx5 hD5 s25 e5 n5 s5 s24 e4 n4 s4 s3 hD3 hxs
  have htC:=s2C.at ht
  have hplC:=s2C.at hpl
  have hslC:=s2C.at hsl
  have htsC:Paired (PairAt G) ts ps:=Paired.mapP hts fun _ _ r=>s2C.at r
  have hgsC:Paired (SigAt G) gs sg:=Paired.mapP hgs fun _ _ r=>s2C.at r
  have hyC:YardAt G t ps js sg:=⟨pl,jl,sl,htC,⟨ts,hplC,htsC⟩,⟨us,s2C.at hjl,Paired.mapP hus fun _ _ r=>r.mono s2C⟩,⟨gs,hslC,hgsC⟩⟩
  have hSC:=s2C.seq hS2
  obtain ⟨dx,_,_,_,_,_,_,_,_,h1,_⟩:=id trC.ex
  clear hD s2C ht hpl hts hjl hus hsl hgs hS2
  refine WSs.step (ps_set (i:=7) sc_law.nd rfl (by first | exact Or.inl rfl | exact Or.inr rfl) (pe_lstS (pa_c (pe_meth0 (pv 6) T.clTracks T.mtTracks_names (G_Tracks_names T) hr T.d_Tracks_names.b .nil pass0) (pa_c (pe_meth0 (pv 6) T.clTracks T.mtTracks_signals (G_Tracks_signals T) hr T.d_Tracks_signals.b .nil pass0) pa_nil)))) ⟨_,rfl,x,dx,_,rfl,h1,rfl,x,ps,js,sg,rfl,trC,yv,fun ss pS sS nl H3 s3 n3 e3=>⟨_,rfl,x,dx,_,rfl,s3.at h1,rfl,x,ps,js,sg,rfl,trC.mono s3,yv,fun sg1 ml H4 pG bG s4 n4 e4=>⟨sz (by simp),fun hl H5 s5 n5 e5=>?_⟩⟩⟩
  have g5:=s3.trans (s4.trans s5)
  refine WSs.step (ps_set (i:=8) sc_law.nd rfl (by first | exact Or.inl rfl | exact Or.inr rfl) (pe_lstS (pa_c (pe_callB (r:=rSortS K) call_sortS (by rfl) T.n_sorted PyProof.Rows.boot_sorted (pa_c (pe_comp (N':=["_law_row"]) rfl (CompScope.std 1 [] rfl (by decide +kernel) (by decide +kernel) rfl trivial rfl rfl trivial) (pi_list (pe_ix (r:=rIx K) ix_seq (pv 1) pe_int (fun _ _=>rfl))) (fun _ _ _ _=>(pg_name (i:=0) (by show (["_law_row"]:List Str).Nodup; decide +kernel) rfl (Or.inl (lookup_relabel_local rfl)) (Or.inr (lookup_relabel_local rfl)))) (fun _ _ _ _=>pf_nil) (fun _ _ _ _=>(pe_ix (r:=rIx K) ix_seq (pv 0) pe_int (fun _ _=>rfl)))) pa_nil)) (pa_c (pe_callB (r:=rSortF K) call_sortF (by rfl) T.n_sorted PyProof.Rows.boot_sorted (pa_c (pe_ix (r:=rIx K) ix_seq (pv 1) pe_int (fun _ _=>rfl)) pa_nil)) pa_nil)))) ⟨_,rfl,.inr (.inl ⟨t,_,0,_,rfl,rfl,SqT.of (g5.at htC),atI_nat (j:=0) rfl,pl,rfl,⟨_,SqL.of (g5.at hplC)⟩,fun D4 hD4=>comp_texts (K:=K) (R:=PairAt H5) (ps:=ps) (nm:=Prod.snd) (g5.at hplC) (Paired.mapP htsC fun _ _ r=>g5.at r) (by omega) hD4 (fun H6 s6 e6=>?x1) ?x2 ?x3⟩)⟩
  case x2=>rfl
  case x3=>exact fun t p H' N r sm n=>⟨_,rfl,.inr (.inl ⟨t,_,1,_,rfl,rfl,SqT.of (sm.at r),atI_nat (j:=1) rfl,n⟩)⟩
  refine ⟨D4,_,rfl,SqL.of e6,by rw [List.length_map]; omega,fun ss2 pS2 sS2 dl H7 s7 n7 e7=>?_⟩
  have g7:=g5.trans (s6.trans s7)
  refine ⟨_,rfl,.inr (.inl ⟨t,_,2,_,rfl,rfl,SqT.of (g7.at htC),atI_nat (j:=2) rfl,sort_sigs (g7.at hslC) (Paired.mapP hgsC fun _ _ r=>g7.at r) yv.sigs.nd slen fun ts' sg2 pG2 bG2 hts' el H8 s8 n8 e8=>⟨sz (by simp),fun ul H9 s9 n9 e9=>?_⟩⟩)⟩
  obtain rfl:=sorted_one sS sS2 (pS.trans pS2.symm)
  obtain rfl:=byFst_one bG bG2 pG pG2 yv.sigs.nd
  have g59:=s6.trans (s7.trans (s8.trans s9))
  have g9:=g5.trans g59
  have hl9:=g59.at e5
  have nl9:H9 nl=some (.lst (ss.map V.str)):=((s4.trans s5).trans g59).at e3
  have ml9:SigsAt H9 ml sg1:=e4.mono (s5.trans g59)
  have ul9:=e9
  have dl9:=(s8.trans s9).at e7
  have el9:SigsAt H9 el sg1:=⟨ts',s9.at e8,Paired.mapP hts' fun _ _ r=>(s8.trans s9).at r⟩
  have tr9:=trC.mono g9
  refine WSs.step (ps_if (PW.pt (pw_or (pt_cmpR (r:=rNeY K) (oNeY hr) (pv 7) (pv 8) (nomark _)) (pw_or1 (pt_not (pt_val (pe_call (G__law_ends_told T) hr rfl T.m__law_ends_told T.d__law_ends_told.F.kp T.d__law_ends_told.b .nil pass0 (pa_c (pv 6) (pa_c (pv 1) pa_nil)))))))) pss_w pss_nil) ⟨_,rfl,_,rfl,.inr (.inl ⟨3,_,_,by decide,.inr ⟨_,_,rfl,rfl⟩,held_im hl9 nl9 ml9,held_im ul9 dl9 el9,_,rfl,ite2 (fun z=>(noT z).elim) (fun _=>⟨_,rfl,_,rfl,x,t,ps,js,sg,rfl,tr9,yv,hyC.mono g9,fun H10 s10=>⟨_,rfl,ite2 (fun z=>absurd z (by decide)) (fun _=>?_)⟩⟩)⟩)⟩
  have ne1:hl ≠ nl:=fun z=>by rw [z] at n5; exact nomatch n5.symm.trans (s4.at e3)
  have ne2:ml ≠ nl:=fun z=>by rw [z] at n4; exact nomatch n4.symm.trans e3
  obtain ⟨mts,hml4,_⟩:=id e4
  have ne3:hl ≠ ml:=fun z=>by rw [z] at n5; exact nomatch n5.symm.trans hml4
  have ne4:dl ≠ nl:=fun z=>by rw [z] at n7; exact nomatch n7.symm.trans (s6.at (s5.at (s4.at e3)))
  have ne5:dl ≠ ml:=fun z=>by rw [z] at n7; exact nomatch n7.symm.trans (s6.at (s5.at hml4))
  have ne6:el ≠ nl:=fun z=>by rw [z] at n8; exact nomatch n8.symm.trans (s7.at (s6.at (s5.at (s4.at e3))))
  have ne7:el ≠ ml:=fun z=>by rw [z] at n8; exact nomatch n8.symm.trans (s7.at (s6.at (s5.at hml4)))
  have ne8:ul ≠ nl:=fun z=>by rw [z] at n9; exact nomatch n9.symm.trans (s8.at (s7.at (s6.at (s5.at (s4.at e3)))))
  have ne9:ul ≠ ml:=fun z=>by rw [z] at n9; exact nomatch n9.symm.trans (s8.at (s7.at (s6.at (s5.at hml4))))
  have hS10:=(g9.trans s10).seq hSC
  have ht10:=(g9.trans s10).at htC
  have hsl10:=(g9.trans s10).at hslC
  have hgs10:Paired (SigAt H10) gs sg:=Paired.mapP hgsC fun _ _ r=>(g9.trans s10).at r
  have h110:=(g9.trans s10).at h1
  have tr10:=tr9.mono s10
  have hl10:=s10.at hl9
  have nl10:=s10.at nl9
  have ml10:=ml9.mono s10
  have ul10:=s10.at ul9
  have dl10:=s10.at dl9
  have el10:=el9.mono s10
  clear hl9 nl9 ml9 ul9 dl9 el9 tr9 hSC htC hslC hgsC h1 hyC hplC htsC trC g9 g59 g7 g5 s10 s9 n9 e9 e8 n8 s8 hts' e7 n7 s7 e6 s6 hD4 e5 n5 s5 n4 s4 e4 hml4 e3 n3 s3
  refine WSs.step (ps_for PassesOwn.never rfl (pi_list (pe_ix (r:=rIx K) ix_seq (pv 1) pe_int (fun _ _=>rfl))) (pg_tup rfl (pgs_cons (pg_name (i:=2) sc_law.nd rfl (by first | exact Or.inl rfl | exact Or.inr rfl)) (pgs_cons (pg_name (i:=9) sc_law.nd rfl (by first | exact Or.inl rfl | exact Or.inr rfl)) (pgs_cons (pg_name (i:=10) sc_law.nd rfl (by first | exact Or.inl rfl | exact Or.inr rfl)) pgs_nil)))) pss_w) ⟨_,rfl,.inr (.inl ⟨t,_,2,_,rfl,rfl,SqT.of ht10,atI_nat (j:=2) rfl,sl,rfl,⟨_,SqL.of hsl10⟩,for_list (K:=K) (xs:=gs.map V.ref) (fun i σ H'=>(∃ o2 o9 o10,σ=[some (.ref a),some (.ref t),o2,some (.ref D),some (.ref jl'),some (.ref sl'),some (.ref x),some (.ref hl),some (.ref ul),o9,o10,none,none])∧Same H10 H') ⟨⟨none,none,none,rfl⟩,Same.refl _⟩ ?_ ?_ ?_⟩)⟩
  ·rintro i σ H' _ ⟨_,s11⟩
   exact SqL.of (s11.at hsl10)
  ·rintro i v σ H11 hi ⟨⟨o2,o9,o10,rfl⟩,s11⟩
   rw [List.getElem?_map] at hi
   obtain ⟨u,hu,rfl⟩:=Option.map_eq_some_iff.mp hi
   obtain ⟨⟨g1,g2,g3⟩,hg,hgu⟩:=Paired.get hgs10 hu
   have hgu:H10 u=some (.tup [.str g1,.str g2,.str g3]):=hgu
   refine ⟨u,_,rfl,SqT.of (s11.at hgu),rfl,_,_,rfl,_,_,rfl,_,_,rfl,rfl,?_⟩
   exact WSs.last (ps_if (pt_cmpR (r:=rNeY K) (oNeY hr) (pe_meth (pv 6) T.clTracks T.mtTracks_end_of (G_Tracks_end_of T) hr T.d_Tracks_end_of.b .nil pass_none (pa_c (pv 2) pa_nil)) (pe_tupS (pa_c (pv 9) (pa_c (pv 10) pa_nil))) (nomark _)) pss_w pss_nil) ⟨_,rfl,x,dx,_,rfl,s11.at h110,rfl,_,rfl,x,_,ps,js,sg,rfl,tr10.mono s11,yv,.inl ⟨(g1,g2,g3),rfl,List.mem_of_getElem? hg,fun te H12 s12 e12=>⟨_,rfl,_,rfl,sz (by simp),fun tt H13 s13 n13 e13=>.inr (.inl ⟨1,trP (g2,g3),trP (g2,g3),by decide,.inl ⟨_,_,rfl,rfl⟩,imP (e12.mono s13),imP (e:=(g2,g3)) e13,_,rfl,ite2 (fun z=>(noT z).elim) (fun _=>⟨⟨_,_,_,rfl⟩,s11.trans (s12.trans s13)⟩)⟩)⟩⟩⟩
  rintro σ H11 ⟨⟨o2,o9,o10,rfl⟩,s11⟩
  obtain ⟨j,hj,hj6⟩:=mod_nat (a:=cellAt ns 1) (n:=6) (by decide)
  obtain ⟨on,hon⟩:∃ on,oddN[j]? = some on:=⟨_,List.getElem?_eq_getElem (by show j < 6; exact hj6)⟩
  have honM:on ∈ oddN:=List.mem_of_getElem? hon
  refine WSs.step (ps_set (i:=11) sc_law.nd rfl (by first | exact Or.inl rfl | exact Or.inr rfl) (pe_ix (r:=rIx K) ix_seq (pe_lstS (pa_c pe_str (pa_c pe_str (pa_c pe_str (pa_c pe_str (pa_c pe_str (pa_c pe_str pa_nil))))))) (pe_op op_mod (pe_call (G__law_cell_at T) hr rfl T.m__law_cell_at T.d__law_cell_at.F.kp T.d__law_cell_at.b .nil pass0 (pa_c (pv 0) (pa_c pe_int pa_nil))) pe_int) (fun _ _=>rfl))) ⟨sz (by simp),fun ol H12 s12 n12 e12=>⟨_,rfl,a,ns,1,rfl,(s11.trans s12).seq hS10,_,_,rfl,rfl,(by show (0:Int) < 6; decide),.inl ⟨ol,_,_,.str on,rfl,rfl,SqL.of e12,?_,?_⟩⟩⟩
  ·rw [show cellAt ns 1 % 6=(j:Int) from hj]
   exact atI_nat (xs:=oddN.map V.str) (by rw [List.getElem?_map,hon]; rfl)
  obtain ⟨j2,hj2,hj62⟩:=mod_nat (a:=cellAt ns 1 / 6) (n:=6) (by decide)
  refine WSs.step (ps_set (i:=10) sc_law.nd rfl (by first | exact Or.inl rfl | exact Or.inr rfl) (pe_ix (r:=rIx K) ix_seq (pe_lstS (pa_c (pe_tupS (pa_c pe_str (pa_c pe_str pa_nil))) (pa_c (pe_tupS (pa_c pe_str (pa_c pe_str pa_nil))) (pa_c (pe_tupS (pa_c pe_str (pa_c pe_str pa_nil))) (pa_c (pe_tupS (pa_c pe_str (pa_c pe_str pa_nil))) (pa_c (pe_tupS (pa_c pe_str (pa_c pe_str pa_nil))) (pa_c (pe_tupS (pa_c pe_str (pa_c pe_str pa_nil))) pa_nil))))))) (pe_op op_mod (pe_op op_fdiv (pe_call (G__law_cell_at T) hr rfl T.m__law_cell_at T.d__law_cell_at.F.kp T.d__law_cell_at.b .nil pass0 (pa_c (pv 0) (pa_c pe_int pa_nil))) pe_int) pe_int) (fun _ _=>rfl))) ⟨sz (by simp),fun p1 H13 s13 n13 e13=>⟨sz (by simp),fun p2 H14 s14 n14 e14=>⟨sz (by simp),fun p3 H15 s15 n15 e15=>⟨sz (by simp),fun p4 H16 s16 n16 e16=>⟨sz (by simp),fun p5 H17 s17 n17 e17=>⟨sz (by simp),fun p6 H18 s18 n18 e18=>⟨sz (by simp),fun ol2 H19 s19 n19 e19=>⟨_,rfl,a,ns,1,rfl,(s11.trans (s12.trans (s13.trans (s14.trans (s15.trans (s16.trans (s17.trans (s18.trans s19)))))))).seq hS10,_,_,rfl,rfl,⟨by decide,by decide⟩,_,_,rfl,rfl,(by show (0:Int) < 6; decide),?_⟩⟩⟩⟩⟩⟩⟩⟩
  have hP6:Paired (PairAt H19) [p1,p2,p3,p4,p5,p6] oddE:=.cons ((s14.trans (s15.trans (s16.trans (s17.trans (s18.trans s19))))).at e13) (.cons ((s15.trans (s16.trans (s17.trans (s18.trans s19)))).at e14) (.cons ((s16.trans (s17.trans (s18.trans s19))).at e15) (.cons ((s17.trans (s18.trans s19)).at e16) (.cons ((s18.trans s19).at e17) (.cons (s19.at e18) .nil)))))
  obtain ⟨pj,hpj⟩:∃ pj,[p1,p2,p3,p4,p5,p6][j2]? = some pj:=⟨_,List.getElem?_eq_getElem (by show j2 < 6; exact hj62)⟩
  obtain ⟨e,heL,he⟩:=Paired.get hP6 hpj
  have heL:e ∈ oddE:=List.mem_of_getElem? heL
  refine .inl ⟨ol2,_,_,.ref pj,rfl,rfl,SqL.of e19,?_,?_⟩
  ·rw [show cellAt ns 1 / 6 % 6=(j2:Int) from hj2]
   exact atI_nat (xs:=[p1,p2,p3,p4,p5,p6].map V.ref) (by rw [List.getElem?_map,hpj]; rfl)
  have s1019:=s11.trans (s12.trans (s13.trans (s14.trans (s15.trans (s16.trans (s17.trans (s18.trans s19)))))))
  clear hP6 hpj hj2 hj62 e13 e14 e15 e16 e17 e18 e19 n13 n14 n15 n16 n17 n18 n19 s13 s14 s15 s16 s17 s18 s19 e12 n12 s12 s11
  have eN:=odd_not yo heL
  have eS:e ∉ sg.map Prod.snd:=fun z=>by
   obtain ⟨g,hg,ez⟩:=List.mem_map.mp z
   obtain ⟨p,hp,h1,_,h3⟩:=yv.sigs.at_ g hg
   refine eN (List.mem_flatMap.mpr ⟨p,hp,List.mem_map.mpr ⟨g.2.2,h3,?_⟩⟩)
   rw [h1,← ez]
  refine WSs.step (ps_if (PW.pt (pw_or (pt_cmpR (r:=rNeY K) (oNeY hr) (pe_meth (pv 6) T.clTracks T.mtTracks_beyond (G_Tracks_beyond T) hr T.d_Tracks_beyond.b .nil pass0 (pa_c (pv 10) pa_nil)) (pe_tupS (pa_c pe_str (pa_c pe_str pa_nil))) (nomark _)) (pw_or1 (pt_cmpR (r:=rNeY K) (oNeY hr) (pe_meth (pv 6) T.clTracks T.mtTracks_signal_at (G_Tracks_signal_at T) hr T.d_Tracks_signal_at.b .nil pass0 (pa_c (pv 10) pa_nil)) pe_str (nomark _))))) pss_w pss_nil) ⟨_,rfl,x,dx,_,rfl,s1019.at h110,rfl,_,rfl,x,pj,e,ps,js,sg,rfl,tr10.mono s1019,yv,he,.inr ⟨eN,fun t1 H20 s20 n20 e20=>⟨sz (by simp),fun t2 H21 s21 n21 e21=>.inr (.inl ⟨1,trP ("", ""),trP ("", ""),by decide,.inl ⟨_,_,rfl,rfl⟩,imP (e20.mono s21),imP (e:=("", "")) e21,_,rfl,ite2 (fun z=>(noT z).elim) (fun _=>?_)⟩)⟩⟩⟩
  have s1021:=s1019.trans (s20.trans s21)
  refine ⟨_,rfl,x,dx,_,rfl,s1021.at h110,rfl,_,rfl,x,pj,e,ps,js,sg,rfl,tr10.mono s1021,yv,he.mono (s20.trans s21),fun nm hnm=>?_⟩
  obtain rfl:nm = "" := by
   rcases hnm with ⟨_,_,y⟩ | ⟨y,_⟩
   ·exact absurd y eS
   ·exact y
  refine .inl ⟨rfl,_,rfl,ite2 (fun z=>(noS z).elim) (fun _=>?_)⟩
  obtain ⟨j3,hj3,hj43⟩:=mod_nat (a:=cellAt ns 1 / 36) (n:=4) (by decide)
  refine WSs.step (ps_set (i:=12) sc_law.nd rfl (by first | exact Or.inl rfl | exact Or.inr rfl) (pe_ix (r:=rIx K) ix_seq (pe_lstS (pa_c pe_non (pa_c (pe_lstS (pa_c pe_str pa_nil)) (pa_c pe_int (pa_c (pe_tupS (pa_c pe_str (pa_c pe_str pa_nil))) pa_nil))))) (pe_op op_mod (pe_op op_fdiv (pe_call (G__law_cell_at T) hr rfl T.m__law_cell_at T.d__law_cell_at.F.kp T.d__law_cell_at.b .nil pass0 (pa_c (pv 0) (pa_c pe_int pa_nil))) pe_int) pe_int) (fun _ _=>rfl))) ⟨sz (by simp),fun l1 H22 s22 n22 e22=>⟨sz (by simp),fun l2 H23 s23 n23 e23=>⟨sz (by simp),fun ol3 H24 s24 n24 e24=>⟨_,rfl,a,ns,1,rfl,(s1021.trans (s22.trans (s23.trans s24))).seq hS10,_,_,rfl,rfl,⟨by decide,by decide⟩,_,_,rfl,rfl,(by show (0:Int) < 4; decide),?_⟩⟩⟩⟩
  have s1024:=s1021.trans (s22.trans (s23.trans s24))
  obtain ⟨sv,hsv⟩:∃ sv,[V.non,.ref l1,.int 5,.ref l2][j3]? = some sv:=⟨_,List.getElem?_eq_getElem (by show j3 < 4; exact hj43)⟩
  have strange:(∃ b,Asked K H24 sv b)∧(∀ a,sv=.ref a→∃ xs,H24 a=some (.lst xs)∨H24 a=some (.tup xs))∧∀ nm:Str,sv ≠ .str nm:=by
   have hm:sv ∈ [V.non,.ref l1,.int 5,.ref l2]:=List.mem_of_getElem? hsv
   simp only [List.mem_cons,List.mem_nil_iff,or_false] at hm
   have f1:=s24.at (s23.at e22)
   have f2:=s24.at e23
   rcases hm with rfl | rfl | rfl | rfl
   ·exact ⟨⟨_,.inr ⟨rfl,_,.non,T.kNS⟩⟩,fun _ z=>(nomatch z),fun _ z=>(nomatch z)⟩
   ·exact ⟨⟨_,.inr ⟨rfl,_,.lst f1,T.kLS⟩⟩,fun b z=>by cases z; exact ⟨_,.inl f1⟩,fun _ z=>nomatch z⟩
   ·exact ⟨⟨_,.inr ⟨rfl,_,.int _,T.kIS⟩⟩,fun _ z=>(nomatch z),fun _ z=>(nomatch z)⟩
   ·exact ⟨⟨_,.inr ⟨rfl,_,.tup f2,T.kTS⟩⟩,fun b z=>by cases z; exact ⟨_,.inr f2⟩,fun _ z=>nomatch z⟩
  refine .inl ⟨ol3,_,_,sv,rfl,rfl,SqL.of e24,?_,?_⟩
  ·rw [show cellAt ns 1 / 36 % 4=(j3:Int) from hj3]
   exact atI_nat hsv
  obtain ⟨⟨sb,hsb⟩,hsr,hsn⟩:=strange
  have hoa:=oddN_asc on honM
  refine WSs.step (ps_if (PW.pt (pw_or (pt_not (pt_val (pe_call (G__law_all_refused T) hr rfl T.m__law_all_refused T.d__law_all_refused.F.kp T.d__law_all_refused.b .nil pass0 (pa_c (pv 6) (pa_c (pe_lstS (pa_c (pv 11) (pa_c (pv 12) pa_nil))) pa_nil))))) (pw_or1 (pt_cmpR (r:=rNeY K) (oNeY hr) (pv 7) (pv 8) (nomark _))))) pss_w pss_nil) ⟨_,rfl,_,rfl,_,rfl,sz (by simp),fun l3 H25 s25 n25 e25=>⟨x,l3,_,ps,js,sg,rfl,tr10.mono (s1024.trans s25),yv,e25,fun v hv=>?_,fun H26 s26=>⟨_,rfl,ite2 (fun z=>absurd z (by decide)) (fun _=>?_)⟩⟩⟩
  ·simp only [List.mem_cons,List.mem_nil_iff,or_false] at hv
   rcases hv with rfl | rfl
   ·refine ⟨⟨_,.inl ⟨on,rfl,hoa.1,hoa.2,rfl⟩⟩,fun _ z=>(nomatch z),fun nm e=>?_⟩
    rw [← V.str.inj e]
    exact ⟨odd_part yo honM,odd_sig yo honM⟩
   ·exact ⟨⟨sb,hsb.mono s25 hsr⟩,fun b z=>let ⟨xs,y⟩:=hsr b z; ⟨xs,y.elim (fun y=>.inl (s25.at y)) fun y=>.inr (s25.at y)⟩,fun nm e=>absurd e (hsn nm)⟩
  have s1026:=s1024.trans (s25.trans s26)
  refine ⟨_,rfl,_,rfl,.inr (.inl ⟨3,_,_,by decide,.inr ⟨_,_,rfl,rfl⟩,held_im (s1026.at hl10) (s1026.at nl10) (ml10.mono s1026),held_im (s1026.at ul10) (s1026.at dl10) (el10.mono s1026),_,rfl,ite2 (fun z=>(noT z).elim) (fun _=>?_)⟩)⟩
  refine WSs.step (ps_if (pt_not (pt_val (pe_call (G__law_kept_apart T) hr rfl T.m__law_kept_apart T.d__law_kept_apart.F.kp T.d__law_kept_apart.b .nil pass0 (pa_c (pv 6) (pa_c (pe_ix (r:=rIx K) ix_seq (pv 8) pe_int (fun _ _=>rfl)) (pa_c (pe_comp (N':=["_law_row"]) rfl (CompScope.std 1 [] rfl (by decide +kernel) (by decide +kernel) rfl trivial rfl rfl trivial) (pi_list (pe_ix (r:=rIx K) ix_seq (pv 1) pe_int (fun _ _=>rfl))) (fun _ _ _ _=>(pg_name (i:=0) (by show (["_law_row"]:List Str).Nodup; decide +kernel) rfl (Or.inl (lookup_relabel_local rfl)) (Or.inr (lookup_relabel_local rfl)))) (fun _ _ _ _=>pf_nil) (fun _ _ _ _=>(pe_ix (r:=rIx K) ix_seq (pv 0) pe_int (fun _ _=>rfl)))) pa_nil)))))) pss_w pss_nil) ⟨_,rfl,_,rfl,.inl ⟨ul,_,0,_,rfl,rfl,SqL.of (s1026.at ul10),atI_nat (j:=0) rfl,_,rfl,.inr (.inl ⟨t,_,2,_,rfl,rfl,SqT.of (s1026.at ht10),atI_nat (j:=2) rfl,sl,rfl,⟨_,SqL.of (s1026.at hsl10)⟩,fun D5 hD5=>comp_texts (K:=K) (R:=SigAt H26) (ps:=sg) (nm:=Prod.fst) (s1026.at hsl10) (Paired.mapP hgs10 fun _ _ r=>s1026.at r) (by omega) hD5 (fun H27 s27 e27=>?y1) ?y2 ?y3⟩)⟩⟩
  case y2=>rfl
  case y3=>exact fun t p H' N r sm n=>⟨_,rfl,.inr (.inl ⟨t,_,0,_,rfl,rfl,SqT.of (sm.at r),atI_nat (j:=0) rfl,n⟩)⟩
  have s1027:=s1026.trans s27
  refine ⟨x,dl,D5,ss,sg.map Prod.fst,ps,js,sg,rfl,tr10.mono s1027,yv,s1027.at dl10,e27,fun nm=>pS.mem_iff,fun nm=>Iff.rfl,fun H28 s28=>⟨_,rfl,ite2 (fun z=>absurd z (by decide)) (fun _=>?_)⟩⟩
  have s1028:=s1027.trans s28
  have hl28:=s1028.at hl10
  have nl28:=s1028.at nl10
  have ml28:=ml10.mono s1028
  have ul28:=s1028.at ul10
  have dl28:=s1028.at dl10
  have el28:=el10.mono s1028
  have tr28:=tr10.mono s1028
  have ssl:ss.length ≤ 40:=by rw [pS.length_eq,List.length_map]; exact ylen
  refine WSs.step (ps_expr (pe_bm PySem.F.plainAttrs_list PySem.F.slot_list_append PySem.F.type_list_append mt_append (pe_ix (r:=rIx K) ix_seq (pv 7) pe_int (fun _ _=>rfl)) (pa_c pe_str pa_nil))) ⟨_,rfl,.inl ⟨hl,_,0,_,rfl,rfl,SqL.of hl28,atI_nat (j:=0) rfl,.inl ⟨rfl,_,SqL.of nl28⟩,nl,_,_,rfl,rfl,nl28,by rw [List.length_map]; exact small1000 (by omega),?_⟩⟩
  have mlF:=ml28.offL (o:=.lst (ss.map V.str ++ [V.str "none"])) nl28 ne2
  obtain ⟨mts',hmlF,_⟩:=id mlF
  have hlF:upd H28 nl (.lst (ss.map V.str ++ [V.str "none"])) hl=_:=(upd_ne ne1).trans hl28
  refine WSs.step (ps_expr (pe_bm0 PySem.F.plainAttrs_list PySem.F.slot_list_clear PySem.F.type_list_clear mt_clear (pe_ix (r:=rIx K) ix_seq (pv 7) pe_int (fun _ _=>rfl)))) ⟨_,rfl,.inl ⟨hl,_,1,_,rfl,rfl,SqL.of hlF,atI_nat (j:=1) rfl,.inl ⟨rfl,_,SqL.of hmlF⟩,ml,_,rfl,rfl,hmlF,?_⟩⟩
  have trE:=(tr28.offL (o:=.lst (ss.map V.str ++ [V.str "none"])) nl28).offL (o:=.lst []) hmlF
  have ulE:upd (upd H28 nl (.lst (ss.map V.str ++ [V.str "none"]))) ml (.lst []) ul=_:=(upd_ne ne9).trans ((upd_ne ne8).trans ul28)
  have dlE:upd (upd H28 nl (.lst (ss.map V.str ++ [V.str "none"]))) ml (.lst []) dl=_:=(upd_ne ne5).trans ((upd_ne ne4).trans dl28)
  have elE:=(el28.offL (o:=.lst (ss.map V.str ++ [V.str "none"])) nl28 ne6).offL (o:=.lst []) hmlF ne7
  obtain ⟨dx',_,_,_,_,_,_,_,_,h1E,_⟩:=id trE.ex
  refine WSs.last (ps_ret (pe_cmpR (r:=rEqX K) (oEqX hr) (pe_lstS (pa_c (pe_meth0 (pv 6) T.clTracks T.mtTracks_names (G_Tracks_names T) hr T.d_Tracks_names.b .nil pass0) (pa_c (pe_meth0 (pv 6) T.clTracks T.mtTracks_signals (G_Tracks_signals T) hr T.d_Tracks_signals.b .nil pass0) pa_nil))) (pv 8) (nomark _))) ⟨_,rfl,x,dx',_,rfl,h1E,rfl,x,ps,js,sg,rfl,trE,yv,fun ss3 pS3 sS3 nl' H29 s29 n29 e29=>⟨_,rfl,x,dx',_,rfl,s29.at h1E,rfl,x,ps,js,sg,rfl,trE.mono s29,yv,fun sg3 ml' H30 pG3 bG3 s30 n30 e30=>⟨sz (by simp),fun hl' H31 s31 n31 e31=>⟨_,rfl,?_⟩⟩⟩⟩
  obtain rfl:=sorted_one sS sS3 (pS.trans pS3.symm)
  obtain rfl:=byFst_one bG bG3 pG pG3 yv.sigs.nd
  have sE:=s29.trans (s30.trans s31)
  refine .inr (.inl ⟨3,trD ss sg1,trD ss sg1,by decide,.inr ⟨_,_,rfl,rfl⟩,held_im e31 ((s30.trans s31).at e29) (e30.mono s31),held_im (sE.at ulE) (sE.at dlE) (elE.mono sE),?_⟩)
  rw [if_neg (by decide),decide_eq_true rfl]
  exact q _
end
end K13
end
namespace K13
open PySem L2 NM YM
section
end
theorem all_mk {l:PySem.W.OpenLaw} {w:World} {K:PySem.W.Frag} {h:Heap} {mg:Str→Option Value} {fa f0 f1 f2 f3 f4 f5 f6 f7 f8 f9 f10 f11 f12 f13 f14 f15 f16 f17 f18 f19 f20 f21 f22 f23 f24 f25 f26 f27 f28 f29 f30 f31 f32 f33 f34 f35 f36 f37 f38 f39 f40 f41 f42 f43 f44 cPart cPlain cStop cGate cPoints cCross cTracks cYardError cBadName:Addr} (X:K.In h) (G:h.Ns mainGlobals mg) (hfa:mg "law" = some (.ref fa))
  {tk_LETTERS:Tok} {tk_FIGURES:Tok}
  {td20:Addr} {dod20:Option Addr} {dsl20:Array (Option Value)} {doc20:Value} {dn20:Nat} {tk_LONGEST_NAME:Tok} {tk_MOST_PARTS:Tok} {tk_MOST_SIGNALS:Tok}
  {od0 an0 od1 an1 od2 an2 od3 an3 od4 an4 od5 an5 od6 an6 od7 an7 od8 an8 od9 an9 od10 an10 od11 an11 od12 an12 od13 an13 od14 an14 od15 an15 od16 an16 od17 an17 od18 an18 od19 an19 od20 an20 od21 an21 od22 an22 od23 an23 od24 an24 od25 an25 od26 an26 od27 an27 od28 an28 od29 an29 od30 an30 od31 an31 od32 an32 od33 an33 od34 an34 od35 an35 od36 an36 od37 an37 od38 an38 od39 an39 od40 an40 od41 an41 od42 an42 od43 an43 od44 an44:Option Addr} {sl0 sl1 sl2 sl3 sl4 sl5 sl6 sl7 sl8 sl9 sl10 sl11 sl12 sl13 sl14 sl15 sl16 sl17 sl18 sl19 sl20 sl21 sl22 sl23 sl24 sl25 sl26 sl27 sl28 sl29 sl30 sl31 sl32 sl33 sl34 sl35 sl36 sl37 sl38 sl39 sl40 sl41 sl42 sl43 sl44:Array (Option Value)} {oc0 kV0 dc0 pm0 cd0 ct0 oc1 kV1 dc1 pm1 cd1 ct1 oc2 kV2 dc2 pm2 cd2 ct2 oc3 kV3 dc3 pm3 cd3 ct3 oc4 kV4 dc4 pm4 cd4 ct4 oc5 kV5 dc5 pm5 cd5 ct5 oc6 kV6 dc6 pm6 cd6 ct6 oc7 kV7 dc7 pm7 cd7 ct7 oc8 kV8 dc8 pm8 cd8 ct8 oc9 kV9 dc9 pm9 cd9 ct9 oc10 kV10 dc10 pm10 cd10 ct10 oc11 kV11 dc11 pm11 cd11 ct11 oc12 kV12 dc12 pm12 cd12 ct12 oc13 kV13 dc13 pm13 cd13 ct13 oc14 kV14 dc14 pm14 cd14 ct14 oc15 kV15 dc15 pm15 cd15 ct15 oc16 kV16 dc16 pm16 cd16 ct16 oc17 kV17 dc17 pm17 cd17 ct17 oc18 kV18 dc18 pm18 cd18 ct18 oc19 kV19 dc19 pm19 cd19 ct19 oc20 kV20 dc20 pm20 cd20 ct20 oc21 kV21 dc21 pm21 cd21 ct21 oc22 kV22 dc22 pm22 cd22 ct22 oc23 kV23 dc23 pm23 cd23 ct23 oc24 kV24 dc24 pm24 cd24 ct24 oc25 kV25 dc25 pm25 cd25 ct25 oc26 kV26 dc26 pm26 cd26 ct26 oc27 kV27 dc27 pm27 cd27 ct27 oc28 kV28 dc28 pm28 cd28 ct28 oc29 kV29 dc29 pm29 cd29 ct29 oc30 kV30 dc30 pm30 cd30 ct30 oc31 kV31 dc31 pm31 cd31 ct31 oc32 kV32 dc32 pm32 cd32 ct32 oc33 kV33 dc33 pm33 cd33 ct33 oc34 kV34 dc34 pm34 cd34 ct34 oc35 kV35 dc35 pm35 cd35 ct35 oc36 kV36 dc36 pm36 cd36 ct36 oc37 kV37 dc37 pm37 cd37 ct37 oc38 kV38 dc38 pm38 cd38 ct38 oc39 kV39 dc39 pm39 cd39 ct39 oc40 kV40 dc40 pm40 cd40 ct40 oc41 kV41 dc41 pm41 cd41 ct41 oc42 kV42 dc42 pm42 cd42 ct42 oc43 kV43 dc43 pm43 cd43 ct43 oc44 kV44 dc44 pm44 cd44 ct44:Value}
  (cx_Part:PySem.W.nsIn K mainGlobals "Part" = some (some (.ref cPart)))
  (cx_Plain:PySem.W.nsIn K mainGlobals "Plain" = some (some (.ref cPlain)))
  (cx_Stop:PySem.W.nsIn K mainGlobals "Stop" = some (some (.ref cStop)))
  (cx_Gate:PySem.W.nsIn K mainGlobals "Gate" = some (some (.ref cGate)))
  (cx_Points:PySem.W.nsIn K mainGlobals "Points" = some (some (.ref cPoints)))
  (cx_Cross:PySem.W.nsIn K mainGlobals "Cross" = some (some (.ref cCross)))
  (cx_Tracks:PySem.W.nsIn K mainGlobals "Tracks" = some (some (.ref cTracks)))
  (cx_YardError:PySem.W.nsIn K mainGlobals "YardError" = some (some (.ref cYardError)))
  (cx_BadName:PySem.W.nsIn K mainGlobals "BadName" = some (some (.ref cBadName)))
  (a0:PySem.W.nsIn K mainGlobals "is_name" = some (some (.ref f0)))
  (l0:K.lookup f0=some ⟨oc0,od0,.func (PySem.W.fnOf "is_name" "is_name" (defArgs s_is_name) (defBody s_is_name) (defScope s_is_name) .none kV0 dc0 pm0 an0 cd0 ct0),sl0⟩)
  (e0:PySem.W.codeIn K cd0 "is_name" = true)
  (k0:PySem.W.keepIn K (.ref f0)=true)
  (a1:PySem.W.findIn K (.ref cPart) "__init__" = some (some (.ref f1)))
  (l1:K.lookup f1=some ⟨oc1,od1,.func (PySem.W.fnOf "__init__" "Part.__init__" (defArgs s_Part___init__) (defBody s_Part___init__) (defScope s_Part___init__) .none kV1 dc1 pm1 an1 cd1 ct1),sl1⟩)
  (e1:PySem.W.codeIn K cd1 "Part.__init__" = true)
  (k1:PySem.W.keepIn K (.ref f1)=true)
  (a2:PySem.W.findIn K (.ref cPart) "ends" = some (some (.ref f2)))
  (l2:K.lookup f2=some ⟨oc2,od2,.func (PySem.W.fnOf "ends" "Part.ends" (defArgs s_Part_ends) (defBody s_Part_ends) (defScope s_Part_ends) .none kV2 dc2 pm2 an2 cd2 ct2),sl2⟩)
  (e2:PySem.W.codeIn K cd2 "Part.ends" = true)
  (k2:PySem.W.keepIn K (.ref f2)=true)
  (a3:PySem.W.findIn K (.ref cPart) "lies" = some (some (.ref f3)))
  (l3:K.lookup f3=some ⟨oc3,od3,.func (PySem.W.fnOf "lies" "Part.lies" (defArgs s_Part_lies) (defBody s_Part_lies) (defScope s_Part_lies) .none kV3 dc3 pm3 an3 cd3 ct3),sl3⟩)
  (e3:PySem.W.codeIn K cd3 "Part.lies" = true)
  (k3:PySem.W.keepIn K (.ref f3)=true)
  (a4:PySem.W.findIn K (.ref cPart) "bears" = some (some (.ref f4)))
  (l4:K.lookup f4=some ⟨oc4,od4,.func (PySem.W.fnOf "bears" "Part.bears" (defArgs s_Part_bears) (defBody s_Part_bears) (defScope s_Part_bears) .none kV4 dc4 pm4 an4 cd4 ct4),sl4⟩)
  (e4:PySem.W.codeIn K cd4 "Part.bears" = true)
  (k4:PySem.W.keepIn K (.ref f4)=true)
  (a5:PySem.W.findIn K (.ref cStop) "ends" = some (some (.ref f5)))
  (l5:K.lookup f5=some ⟨oc5,od5,.func (PySem.W.fnOf "ends" "Stop.ends" (defArgs s_Stop_ends) (defBody s_Stop_ends) (defScope s_Stop_ends) .none kV5 dc5 pm5 an5 cd5 ct5),sl5⟩)
  (e5:PySem.W.codeIn K cd5 "Stop.ends" = true)
  (k5:PySem.W.keepIn K (.ref f5)=true)
  (a6:PySem.W.findIn K (.ref cPoints) "ends" = some (some (.ref f6)))
  (l6:K.lookup f6=some ⟨oc6,od6,.func (PySem.W.fnOf "ends" "Points.ends" (defArgs s_Points_ends) (defBody s_Points_ends) (defScope s_Points_ends) .none kV6 dc6 pm6 an6 cd6 ct6),sl6⟩)
  (e6:PySem.W.codeIn K cd6 "Points.ends" = true)
  (k6:PySem.W.keepIn K (.ref f6)=true)
  (a7:PySem.W.findIn K (.ref cPoints) "lies" = some (some (.ref f7)))
  (l7:K.lookup f7=some ⟨oc7,od7,.func (PySem.W.fnOf "lies" "Points.lies" (defArgs s_Points_lies) (defBody s_Points_lies) (defScope s_Points_lies) .none kV7 dc7 pm7 an7 cd7 ct7),sl7⟩)
  (e7:PySem.W.codeIn K cd7 "Points.lies" = true)
  (k7:PySem.W.keepIn K (.ref f7)=true)
  (a8:PySem.W.findIn K (.ref cPoints) "bears" = some (some (.ref f8)))
  (l8:K.lookup f8=some ⟨oc8,od8,.func (PySem.W.fnOf "bears" "Points.bears" (defArgs s_Points_bears) (defBody s_Points_bears) (defScope s_Points_bears) .none kV8 dc8 pm8 an8 cd8 ct8),sl8⟩)
  (e8:PySem.W.codeIn K cd8 "Points.bears" = true)
  (k8:PySem.W.keepIn K (.ref f8)=true)
  (a9:PySem.W.findIn K (.ref cCross) "ends" = some (some (.ref f9)))
  (l9:K.lookup f9=some ⟨oc9,od9,.func (PySem.W.fnOf "ends" "Cross.ends" (defArgs s_Cross_ends) (defBody s_Cross_ends) (defScope s_Cross_ends) .none kV9 dc9 pm9 an9 cd9 ct9),sl9⟩)
  (e9:PySem.W.codeIn K cd9 "Cross.ends" = true)
  (k9:PySem.W.keepIn K (.ref f9)=true)
  (a10:PySem.W.findIn K (.ref cCross) "bears" = some (some (.ref f10)))
  (l10:K.lookup f10=some ⟨oc10,od10,.func (PySem.W.fnOf "bears" "Cross.bears" (defArgs s_Cross_bears) (defBody s_Cross_bears) (defScope s_Cross_bears) .none kV10 dc10 pm10 an10 cd10 ct10),sl10⟩)
  (e10:PySem.W.codeIn K cd10 "Cross.bears" = true)
  (k10:PySem.W.keepIn K (.ref f10)=true)
  (a11:PySem.W.nsIn K mainGlobals "is_pair" = some (some (.ref f11)))
  (l11:K.lookup f11=some ⟨oc11,od11,.func (PySem.W.fnOf "is_pair" "is_pair" (defArgs s_is_pair) (defBody s_is_pair) (defScope s_is_pair) .none kV11 dc11 pm11 an11 cd11 ct11),sl11⟩)
  (e11:PySem.W.codeIn K cd11 "is_pair" = true)
  (k11:PySem.W.keepIn K (.ref f11)=true)
  (a12:PySem.W.nsIn K mainGlobals "is_known" = some (some (.ref f12)))
  (l12:K.lookup f12=some ⟨oc12,od12,.func (PySem.W.fnOf "is_known" "is_known" (defArgs s_is_known) (defBody s_is_known) (defScope s_is_known) .none kV12 dc12 pm12 an12 cd12 ct12),sl12⟩)
  (e12:PySem.W.codeIn K cd12 "is_known" = true)
  (k12:PySem.W.keepIn K (.ref f12)=true)
  (a13:PySem.W.nsIn K mainGlobals "refuse_name" = some (some (.ref f13)))
  (l13:K.lookup f13=some ⟨oc13,od13,.func (PySem.W.fnOf "refuse_name" "refuse_name" (defArgs s_refuse_name) (defBody s_refuse_name) (defScope s_refuse_name) .none kV13 dc13 pm13 an13 cd13 ct13),sl13⟩)
  (e13:PySem.W.codeIn K cd13 "refuse_name" = true)
  (k13:PySem.W.keepIn K (.ref f13)=true)
  (a14:PySem.W.nsIn K mainGlobals "parts_by_name" = some (some (.ref f14)))
  (l14:K.lookup f14=some ⟨oc14,od14,.func (PySem.W.fnOf "parts_by_name" "parts_by_name" (defArgs s_parts_by_name) (defBody s_parts_by_name) (defScope s_parts_by_name) .none kV14 dc14 pm14 an14 cd14 ct14),sl14⟩)
  (e14:PySem.W.codeIn K cd14 "parts_by_name" = true)
  (k14:PySem.W.keepIn K (.ref f14)=true)
  (a15:PySem.W.nsIn K mainGlobals "ends_to_parts" = some (some (.ref f15)))
  (l15:K.lookup f15=some ⟨oc15,od15,.func (PySem.W.fnOf "ends_to_parts" "ends_to_parts" (defArgs s_ends_to_parts) (defBody s_ends_to_parts) (defScope s_ends_to_parts) .none kV15 dc15 pm15 an15 cd15 ct15),sl15⟩)
  (e15:PySem.W.codeIn K cd15 "ends_to_parts" = true)
  (k15:PySem.W.keepIn K (.ref f15)=true)
  (a16:PySem.W.nsIn K mainGlobals "refuse_join" = some (some (.ref f16)))
  (l16:K.lookup f16=some ⟨oc16,od16,.func (PySem.W.fnOf "refuse_join" "refuse_join" (defArgs s_refuse_join) (defBody s_refuse_join) (defScope s_refuse_join) .none kV16 dc16 pm16 an16 cd16 ct16),sl16⟩)
  (e16:PySem.W.codeIn K cd16 "refuse_join" = true)
  (k16:PySem.W.keepIn K (.ref f16)=true)
  (a17:PySem.W.nsIn K mainGlobals "joined_ends" = some (some (.ref f17)))
  (l17:K.lookup f17=some ⟨oc17,od17,.func (PySem.W.fnOf "joined_ends" "joined_ends" (defArgs s_joined_ends) (defBody s_joined_ends) (defScope s_joined_ends) .none kV17 dc17 pm17 an17 cd17 ct17),sl17⟩)
  (e17:PySem.W.codeIn K cd17 "joined_ends" = true)
  (k17:PySem.W.keepIn K (.ref f17)=true)
  (a18:PySem.W.nsIn K mainGlobals "refuse_post" = some (some (.ref f18)))
  (l18:K.lookup f18=some ⟨oc18,od18,.func (PySem.W.fnOf "refuse_post" "refuse_post" (defArgs s_refuse_post) (defBody s_refuse_post) (defScope s_refuse_post) .none kV18 dc18 pm18 an18 cd18 ct18),sl18⟩)
  (e18:PySem.W.codeIn K cd18 "refuse_post" = true)
  (k18:PySem.W.keepIn K (.ref f18)=true)
  (a19:PySem.W.nsIn K mainGlobals "posts_of" = some (some (.ref f19)))
  (l19:K.lookup f19=some ⟨oc19,od19,.func (PySem.W.fnOf "posts_of" "posts_of" (defArgs s_posts_of) (defBody s_posts_of) (defScope s_posts_of) .none kV19 dc19 pm19 an19 cd19 ct19),sl19⟩)
  (e19:PySem.W.codeIn K cd19 "posts_of" = true)
  (k19:PySem.W.keepIn K (.ref f19)=true)
  (a20:PySem.W.findIn K (.ref cTracks) "__init__" = some (some (.ref f20)))
  (l20:K.lookup f20=some ⟨oc20,od20,.func (PySem.W.fnOf "__init__" "Tracks.__init__" (defArgs s_Tracks___init__) (defBody s_Tracks___init__) (defScope s_Tracks___init__) (.ref td20) kV20 dc20 pm20 an20 cd20 ct20),sl20⟩)
  (ld20:K.lookup td20=some ⟨doc20,dod20,.seq #[.none] dn20,dsl20⟩)
  (e20:PySem.W.codeIn K cd20 "Tracks.__init__" = true)
  (k20:PySem.W.keepIn K (.ref f20)=true)
  (a21:PySem.W.findIn K (.ref cTracks) "names" = some (some (.ref f21)))
  (l21:K.lookup f21=some ⟨oc21,od21,.func (PySem.W.fnOf "names" "Tracks.names" (defArgs s_Tracks_names) (defBody s_Tracks_names) (defScope s_Tracks_names) .none kV21 dc21 pm21 an21 cd21 ct21),sl21⟩)
  (e21:PySem.W.codeIn K cd21 "Tracks.names" = true)
  (k21:PySem.W.keepIn K (.ref f21)=true)
  (a22:PySem.W.findIn K (.ref cTracks) "named" = some (some (.ref f22)))
  (l22:K.lookup f22=some ⟨oc22,od22,.func (PySem.W.fnOf "named" "Tracks.named" (defArgs s_Tracks_named) (defBody s_Tracks_named) (defScope s_Tracks_named) .none kV22 dc22 pm22 an22 cd22 ct22),sl22⟩)
  (e22:PySem.W.codeIn K cd22 "Tracks.named" = true)
  (k22:PySem.W.keepIn K (.ref f22)=true)
  (a23:PySem.W.findIn K (.ref cTracks) "beyond" = some (some (.ref f23)))
  (l23:K.lookup f23=some ⟨oc23,od23,.func (PySem.W.fnOf "beyond" "Tracks.beyond" (defArgs s_Tracks_beyond) (defBody s_Tracks_beyond) (defScope s_Tracks_beyond) .none kV23 dc23 pm23 an23 cd23 ct23),sl23⟩)
  (e23:PySem.W.codeIn K cd23 "Tracks.beyond" = true)
  (k23:PySem.W.keepIn K (.ref f23)=true)
  (a24:PySem.W.findIn K (.ref cTracks) "signal_at" = some (some (.ref f24)))
  (l24:K.lookup f24=some ⟨oc24,od24,.func (PySem.W.fnOf "signal_at" "Tracks.signal_at" (defArgs s_Tracks_signal_at) (defBody s_Tracks_signal_at) (defScope s_Tracks_signal_at) .none kV24 dc24 pm24 an24 cd24 ct24),sl24⟩)
  (e24:PySem.W.codeIn K cd24 "Tracks.signal_at" = true)
  (k24:PySem.W.keepIn K (.ref f24)=true)
  (a25:PySem.W.findIn K (.ref cTracks) "signals" = some (some (.ref f25)))
  (l25:K.lookup f25=some ⟨oc25,od25,.func (PySem.W.fnOf "signals" "Tracks.signals" (defArgs s_Tracks_signals) (defBody s_Tracks_signals) (defScope s_Tracks_signals) .none kV25 dc25 pm25 an25 cd25 ct25),sl25⟩)
  (e25:PySem.W.codeIn K cd25 "Tracks.signals" = true)
  (k25:PySem.W.keepIn K (.ref f25)=true)
  (a26:PySem.W.findIn K (.ref cTracks) "end_of" = some (some (.ref f26)))
  (l26:K.lookup f26=some ⟨oc26,od26,.func (PySem.W.fnOf "end_of" "Tracks.end_of" (defArgs s_Tracks_end_of) (defBody s_Tracks_end_of) (defScope s_Tracks_end_of) .none kV26 dc26 pm26 an26 cd26 ct26),sl26⟩)
  (e26:PySem.W.codeIn K cd26 "Tracks.end_of" = true)
  (k26:PySem.W.keepIn K (.ref f26)=true)
  (a27:PySem.W.nsIn K mainGlobals "_law_mixed" = some (some (.ref f27)))
  (l27:K.lookup f27=some ⟨oc27,od27,.func (PySem.W.fnOf "_law_mixed" "_law_mixed" (defArgs s__law_mixed) (defBody s__law_mixed) (defScope s__law_mixed) .none kV27 dc27 pm27 an27 cd27 ct27),sl27⟩)
  (e27:PySem.W.codeIn K cd27 "_law_mixed" = true)
  (k27:PySem.W.keepIn K (.ref f27)=true)
  (a28:PySem.W.nsIn K mainGlobals "_law_cell_at" = some (some (.ref f28)))
  (l28:K.lookup f28=some ⟨oc28,od28,.func (PySem.W.fnOf "_law_cell_at" "_law_cell_at" (defArgs s__law_cell_at) (defBody s__law_cell_at) (defScope s__law_cell_at) .none kV28 dc28 pm28 an28 cd28 ct28),sl28⟩)
  (e28:PySem.W.codeIn K cd28 "_law_cell_at" = true)
  (k28:PySem.W.keepIn K (.ref f28)=true)
  (a29:PySem.W.nsIn K mainGlobals "_law_cells" = some (some (.ref f29)))
  (l29:K.lookup f29=some ⟨oc29,od29,.func (PySem.W.fnOf "_law_cells" "_law_cells" (defArgs s__law_cells) (defBody s__law_cells) (defScope s__law_cells) .none kV29 dc29 pm29 an29 cd29 ct29),sl29⟩)
  (e29:PySem.W.codeIn K cd29 "_law_cells" = true)
  (k29:PySem.W.keepIn K (.ref f29)=true)
  (a30:PySem.W.nsIn K mainGlobals "_law_ends" = some (some (.ref f30)))
  (l30:K.lookup f30=some ⟨oc30,od30,.func (PySem.W.fnOf "_law_ends" "_law_ends" (defArgs s__law_ends) (defBody s__law_ends) (defScope s__law_ends) .none kV30 dc30 pm30 an30 cd30 ct30),sl30⟩)
  (e30:PySem.W.codeIn K cd30 "_law_ends" = true)
  (k30:PySem.W.keepIn K (.ref f30)=true)
  (a31:PySem.W.nsIn K mainGlobals "_law_name_by" = some (some (.ref f31)))
  (l31:K.lookup f31=some ⟨oc31,od31,.func (PySem.W.fnOf "_law_name_by" "_law_name_by" (defArgs s__law_name_by) (defBody s__law_name_by) (defScope s__law_name_by) .none kV31 dc31 pm31 an31 cd31 ct31),sl31⟩)
  (e31:PySem.W.codeIn K cd31 "_law_name_by" = true)
  (k31:PySem.W.keepIn K (.ref f31)=true)
  (a32:PySem.W.nsIn K mainGlobals "_law_block" = some (some (.ref f32)))
  (l32:K.lookup f32=some ⟨oc32,od32,.func (PySem.W.fnOf "_law_block" "_law_block" (defArgs s__law_block) (defBody s__law_block) (defScope s__law_block) .none kV32 dc32 pm32 an32 cd32 ct32),sl32⟩)
  (e32:PySem.W.codeIn K cd32 "_law_block" = true)
  (k32:PySem.W.keepIn K (.ref f32)=true)
  (a33:PySem.W.nsIn K mainGlobals "_law_line" = some (some (.ref f33)))
  (l33:K.lookup f33=some ⟨oc33,od33,.func (PySem.W.fnOf "_law_line" "_law_line" (defArgs s__law_line) (defBody s__law_line) (defScope s__law_line) .none kV33 dc33 pm33 an33 cd33 ct33),sl33⟩)
  (e33:PySem.W.codeIn K cd33 "_law_line" = true)
  (k33:PySem.W.keepIn K (.ref f33)=true)
  (a34:PySem.W.nsIn K mainGlobals "_law_closed" = some (some (.ref f34)))
  (l34:K.lookup f34=some ⟨oc34,od34,.func (PySem.W.fnOf "_law_closed" "_law_closed" (defArgs s__law_closed) (defBody s__law_closed) (defScope s__law_closed) .none kV34 dc34 pm34 an34 cd34 ct34),sl34⟩)
  (e34:PySem.W.codeIn K cd34 "_law_closed" = true)
  (k34:PySem.W.keepIn K (.ref f34)=true)
  (a35:PySem.W.nsIn K mainGlobals "_law_drawn" = some (some (.ref f35)))
  (l35:K.lookup f35=some ⟨oc35,od35,.func (PySem.W.fnOf "_law_drawn" "_law_drawn" (defArgs s__law_drawn) (defBody s__law_drawn) (defScope s__law_drawn) .none kV35 dc35 pm35 an35 cd35 ct35),sl35⟩)
  (e35:PySem.W.codeIn K cd35 "_law_drawn" = true)
  (k35:PySem.W.keepIn K (.ref f35)=true)
  (a36:PySem.W.nsIn K mainGlobals "_law_signals_by" = some (some (.ref f36)))
  (l36:K.lookup f36=some ⟨oc36,od36,.func (PySem.W.fnOf "_law_signals_by" "_law_signals_by" (defArgs s__law_signals_by) (defBody s__law_signals_by) (defScope s__law_signals_by) .none kV36 dc36 pm36 an36 cd36 ct36),sl36⟩)
  (e36:PySem.W.codeIn K cd36 "_law_signals_by" = true)
  (k36:PySem.W.keepIn K (.ref f36)=true)
  (a37:PySem.W.nsIn K mainGlobals "_law_long" = some (some (.ref f37)))
  (l37:K.lookup f37=some ⟨oc37,od37,.func (PySem.W.fnOf "_law_long" "_law_long" (defArgs s__law_long) (defBody s__law_long) (defScope s__law_long) .none kV37 dc37 pm37 an37 cd37 ct37),sl37⟩)
  (e37:PySem.W.codeIn K cd37 "_law_long" = true)
  (k37:PySem.W.keepIn K (.ref f37)=true)
  (a38:PySem.W.nsIn K mainGlobals "_law_yard_by" = some (some (.ref f38)))
  (l38:K.lookup f38=some ⟨oc38,od38,.func (PySem.W.fnOf "_law_yard_by" "_law_yard_by" (defArgs s__law_yard_by) (defBody s__law_yard_by) (defScope s__law_yard_by) .none kV38 dc38 pm38 an38 cd38 ct38),sl38⟩)
  (e38:PySem.W.codeIn K cd38 "_law_yard_by" = true)
  (k38:PySem.W.keepIn K (.ref f38)=true)
  (a39:PySem.W.nsIn K mainGlobals "_law_part" = some (some (.ref f39)))
  (l39:K.lookup f39=some ⟨oc39,od39,.func (PySem.W.fnOf "_law_part" "_law_part" (defArgs s__law_part) (defBody s__law_part) (defScope s__law_part) .none kV39 dc39 pm39 an39 cd39 ct39),sl39⟩)
  (e39:PySem.W.codeIn K cd39 "_law_part" = true)
  (k39:PySem.W.keepIn K (.ref f39)=true)
  (a40:PySem.W.nsIn K mainGlobals "_law_refused" = some (some (.ref f40)))
  (l40:K.lookup f40=some ⟨oc40,od40,.func (PySem.W.fnOf "_law_refused" "_law_refused" (defArgs s__law_refused) (defBody s__law_refused) (defScope s__law_refused) .none kV40 dc40 pm40 an40 cd40 ct40),sl40⟩)
  (e40:PySem.W.codeIn K cd40 "_law_refused" = true)
  (k40:PySem.W.keepIn K (.ref f40)=true)
  (a41:PySem.W.nsIn K mainGlobals "_law_ends_told" = some (some (.ref f41)))
  (l41:K.lookup f41=some ⟨oc41,od41,.func (PySem.W.fnOf "_law_ends_told" "_law_ends_told" (defArgs s__law_ends_told) (defBody s__law_ends_told) (defScope s__law_ends_told) .none kV41 dc41 pm41 an41 cd41 ct41),sl41⟩)
  (e41:PySem.W.codeIn K cd41 "_law_ends_told" = true)
  (k41:PySem.W.keepIn K (.ref f41)=true)
  (a42:PySem.W.nsIn K mainGlobals "_law_kept_apart" = some (some (.ref f42)))
  (l42:K.lookup f42=some ⟨oc42,od42,.func (PySem.W.fnOf "_law_kept_apart" "_law_kept_apart" (defArgs s__law_kept_apart) (defBody s__law_kept_apart) (defScope s__law_kept_apart) .none kV42 dc42 pm42 an42 cd42 ct42),sl42⟩)
  (e42:PySem.W.codeIn K cd42 "_law_kept_apart" = true)
  (k42:PySem.W.keepIn K (.ref f42)=true)
  (a43:PySem.W.nsIn K mainGlobals "_law_all_refused" = some (some (.ref f43)))
  (l43:K.lookup f43=some ⟨oc43,od43,.func (PySem.W.fnOf "_law_all_refused" "_law_all_refused" (defArgs s__law_all_refused) (defBody s__law_all_refused) (defScope s__law_all_refused) .none kV43 dc43 pm43 an43 cd43 ct43),sl43⟩)
  (e43:PySem.W.codeIn K cd43 "_law_all_refused" = true)
  (k43:PySem.W.keepIn K (.ref f43)=true)
  (a44:PySem.W.nsIn K mainGlobals "law" = some (some (.ref f44)))
  (l44:K.lookup f44=some ⟨oc44,od44,.func (PySem.W.fnOf "law" "law" (defArgs s_law) (defBody s_law) (defScope s_law) .none kV44 dc44 pm44 an44 cd44 ct44),sl44⟩)
  (e44:PySem.W.codeIn K cd44 "law" = true)
  (k44:PySem.W.keepIn K (.ref f44)=true)
  (pg_Part:PySem.W.plainGet K cPart Str.empty=true)
  (hd_Part:PySem.W.hasDictIn K cPart=true)
  (po_Part:PySem.W.plainOver K cPart=true)
  (sa_Part:PySem.W.findIn K (.ref cPart) "__setattr__" = some (some (.builtin "object.__setattr__")))
  (na_Part_name:PySem.W.findIn K (.ref cPart) "name" = some none)
  (mk_Part:PySem.W.makesIn K cPart=true)
  (mi_Part:PySem.W.findIn K (.ref cPart) "__init__" = some (some (.ref f1)))
  (mf_Part:PySem.W.isFn K (.ref f1)=true)
  (mp_Part:PySem.W.keepIn K (.ref cPart)=true)
  (ma_Part_ends:PySem.W.findIn K (.ref cPart) "ends" = some (some (.ref f2)))
  (mn_Part_ends:PySem.W.isFn K (.ref f2)=true)
  (mq_Part_ends:PySem.W.keepIn K (.ref f2)=true)
  (ma_Part_lies:PySem.W.findIn K (.ref cPart) "lies" = some (some (.ref f3)))
  (mn_Part_lies:PySem.W.isFn K (.ref f3)=true)
  (mq_Part_lies:PySem.W.keepIn K (.ref f3)=true)
  (ma_Part_bears:PySem.W.findIn K (.ref cPart) "bears" = some (some (.ref f4)))
  (mn_Part_bears:PySem.W.isFn K (.ref f4)=true)
  (mq_Part_bears:PySem.W.keepIn K (.ref f4)=true)
  (pg_Plain:PySem.W.plainGet K cPlain Str.empty=true)
  (hd_Plain:PySem.W.hasDictIn K cPlain=true)
  (po_Plain:PySem.W.plainOver K cPlain=true)
  (sa_Plain:PySem.W.findIn K (.ref cPlain) "__setattr__" = some (some (.builtin "object.__setattr__")))
  (na_Plain_name:PySem.W.findIn K (.ref cPlain) "name" = some none)
  (mk_Plain:PySem.W.makesIn K cPlain=true)
  (mi_Plain:PySem.W.findIn K (.ref cPlain) "__init__" = some (some (.ref f1)))
  (mf_Plain:PySem.W.isFn K (.ref f1)=true)
  (mp_Plain:PySem.W.keepIn K (.ref cPlain)=true)
  (ma_Plain_ends:PySem.W.findIn K (.ref cPlain) "ends" = some (some (.ref f2)))
  (mn_Plain_ends:PySem.W.isFn K (.ref f2)=true)
  (mq_Plain_ends:PySem.W.keepIn K (.ref f2)=true)
  (ma_Plain_lies:PySem.W.findIn K (.ref cPlain) "lies" = some (some (.ref f3)))
  (mn_Plain_lies:PySem.W.isFn K (.ref f3)=true)
  (mq_Plain_lies:PySem.W.keepIn K (.ref f3)=true)
  (ma_Plain_bears:PySem.W.findIn K (.ref cPlain) "bears" = some (some (.ref f4)))
  (mn_Plain_bears:PySem.W.isFn K (.ref f4)=true)
  (mq_Plain_bears:PySem.W.keepIn K (.ref f4)=true)
  (pg_Stop:PySem.W.plainGet K cStop Str.empty=true)
  (hd_Stop:PySem.W.hasDictIn K cStop=true)
  (po_Stop:PySem.W.plainOver K cStop=true)
  (sa_Stop:PySem.W.findIn K (.ref cStop) "__setattr__" = some (some (.builtin "object.__setattr__")))
  (na_Stop_name:PySem.W.findIn K (.ref cStop) "name" = some none)
  (mk_Stop:PySem.W.makesIn K cStop=true)
  (mi_Stop:PySem.W.findIn K (.ref cStop) "__init__" = some (some (.ref f1)))
  (mf_Stop:PySem.W.isFn K (.ref f1)=true)
  (mp_Stop:PySem.W.keepIn K (.ref cStop)=true)
  (ma_Stop_ends:PySem.W.findIn K (.ref cStop) "ends" = some (some (.ref f5)))
  (mn_Stop_ends:PySem.W.isFn K (.ref f5)=true)
  (mq_Stop_ends:PySem.W.keepIn K (.ref f5)=true)
  (ma_Stop_lies:PySem.W.findIn K (.ref cStop) "lies" = some (some (.ref f3)))
  (mn_Stop_lies:PySem.W.isFn K (.ref f3)=true)
  (mq_Stop_lies:PySem.W.keepIn K (.ref f3)=true)
  (ma_Stop_bears:PySem.W.findIn K (.ref cStop) "bears" = some (some (.ref f4)))
  (mn_Stop_bears:PySem.W.isFn K (.ref f4)=true)
  (mq_Stop_bears:PySem.W.keepIn K (.ref f4)=true)
  (pg_Gate:PySem.W.plainGet K cGate Str.empty=true)
  (hd_Gate:PySem.W.hasDictIn K cGate=true)
  (po_Gate:PySem.W.plainOver K cGate=true)
  (sa_Gate:PySem.W.findIn K (.ref cGate) "__setattr__" = some (some (.builtin "object.__setattr__")))
  (na_Gate_name:PySem.W.findIn K (.ref cGate) "name" = some none)
  (mk_Gate:PySem.W.makesIn K cGate=true)
  (mi_Gate:PySem.W.findIn K (.ref cGate) "__init__" = some (some (.ref f1)))
  (mf_Gate:PySem.W.isFn K (.ref f1)=true)
  (mp_Gate:PySem.W.keepIn K (.ref cGate)=true)
  (ma_Gate_ends:PySem.W.findIn K (.ref cGate) "ends" = some (some (.ref f5)))
  (mn_Gate_ends:PySem.W.isFn K (.ref f5)=true)
  (mq_Gate_ends:PySem.W.keepIn K (.ref f5)=true)
  (ma_Gate_lies:PySem.W.findIn K (.ref cGate) "lies" = some (some (.ref f3)))
  (mn_Gate_lies:PySem.W.isFn K (.ref f3)=true)
  (mq_Gate_lies:PySem.W.keepIn K (.ref f3)=true)
  (ma_Gate_bears:PySem.W.findIn K (.ref cGate) "bears" = some (some (.ref f4)))
  (mn_Gate_bears:PySem.W.isFn K (.ref f4)=true)
  (mq_Gate_bears:PySem.W.keepIn K (.ref f4)=true)
  (pg_Points:PySem.W.plainGet K cPoints Str.empty=true)
  (hd_Points:PySem.W.hasDictIn K cPoints=true)
  (po_Points:PySem.W.plainOver K cPoints=true)
  (sa_Points:PySem.W.findIn K (.ref cPoints) "__setattr__" = some (some (.builtin "object.__setattr__")))
  (na_Points_name:PySem.W.findIn K (.ref cPoints) "name" = some none)
  (mk_Points:PySem.W.makesIn K cPoints=true)
  (mi_Points:PySem.W.findIn K (.ref cPoints) "__init__" = some (some (.ref f1)))
  (mf_Points:PySem.W.isFn K (.ref f1)=true)
  (mp_Points:PySem.W.keepIn K (.ref cPoints)=true)
  (ma_Points_ends:PySem.W.findIn K (.ref cPoints) "ends" = some (some (.ref f6)))
  (mn_Points_ends:PySem.W.isFn K (.ref f6)=true)
  (mq_Points_ends:PySem.W.keepIn K (.ref f6)=true)
  (ma_Points_lies:PySem.W.findIn K (.ref cPoints) "lies" = some (some (.ref f7)))
  (mn_Points_lies:PySem.W.isFn K (.ref f7)=true)
  (mq_Points_lies:PySem.W.keepIn K (.ref f7)=true)
  (ma_Points_bears:PySem.W.findIn K (.ref cPoints) "bears" = some (some (.ref f8)))
  (mn_Points_bears:PySem.W.isFn K (.ref f8)=true)
  (mq_Points_bears:PySem.W.keepIn K (.ref f8)=true)
  (pg_Cross:PySem.W.plainGet K cCross Str.empty=true)
  (hd_Cross:PySem.W.hasDictIn K cCross=true)
  (po_Cross:PySem.W.plainOver K cCross=true)
  (sa_Cross:PySem.W.findIn K (.ref cCross) "__setattr__" = some (some (.builtin "object.__setattr__")))
  (na_Cross_name:PySem.W.findIn K (.ref cCross) "name" = some none)
  (mk_Cross:PySem.W.makesIn K cCross=true)
  (mi_Cross:PySem.W.findIn K (.ref cCross) "__init__" = some (some (.ref f1)))
  (mf_Cross:PySem.W.isFn K (.ref f1)=true)
  (mp_Cross:PySem.W.keepIn K (.ref cCross)=true)
  (ma_Cross_ends:PySem.W.findIn K (.ref cCross) "ends" = some (some (.ref f9)))
  (mn_Cross_ends:PySem.W.isFn K (.ref f9)=true)
  (mq_Cross_ends:PySem.W.keepIn K (.ref f9)=true)
  (ma_Cross_lies:PySem.W.findIn K (.ref cCross) "lies" = some (some (.ref f3)))
  (mn_Cross_lies:PySem.W.isFn K (.ref f3)=true)
  (mq_Cross_lies:PySem.W.keepIn K (.ref f3)=true)
  (ma_Cross_bears:PySem.W.findIn K (.ref cCross) "bears" = some (some (.ref f10)))
  (mn_Cross_bears:PySem.W.isFn K (.ref f10)=true)
  (mq_Cross_bears:PySem.W.keepIn K (.ref f10)=true)
  (pg_Tracks:PySem.W.plainGet K cTracks Str.empty=true)
  (hd_Tracks:PySem.W.hasDictIn K cTracks=true)
  (po_Tracks:PySem.W.plainOver K cTracks=true)
  (sa_Tracks:PySem.W.findIn K (.ref cTracks) "__setattr__" = some (some (.builtin "object.__setattr__")))
  (na_Tracks_part_of:PySem.W.findIn K (.ref cTracks) "part_of" = some none)
  (na_Tracks_joined:PySem.W.findIn K (.ref cTracks) "joined" = some none)
  (na_Tracks_post_of:PySem.W.findIn K (.ref cTracks) "post_of" = some none)
  (na_Tracks_signal_on:PySem.W.findIn K (.ref cTracks) "signal_on" = some none)
  (mk_Tracks:PySem.W.makesIn K cTracks=true)
  (mi_Tracks:PySem.W.findIn K (.ref cTracks) "__init__" = some (some (.ref f20)))
  (mf_Tracks:PySem.W.isFn K (.ref f20)=true)
  (mp_Tracks:PySem.W.keepIn K (.ref cTracks)=true)
  (ma_Tracks_names:PySem.W.findIn K (.ref cTracks) "names" = some (some (.ref f21)))
  (mn_Tracks_names:PySem.W.isFn K (.ref f21)=true)
  (mq_Tracks_names:PySem.W.keepIn K (.ref f21)=true)
  (ma_Tracks_named:PySem.W.findIn K (.ref cTracks) "named" = some (some (.ref f22)))
  (mn_Tracks_named:PySem.W.isFn K (.ref f22)=true)
  (mq_Tracks_named:PySem.W.keepIn K (.ref f22)=true)
  (ma_Tracks_beyond:PySem.W.findIn K (.ref cTracks) "beyond" = some (some (.ref f23)))
  (mn_Tracks_beyond:PySem.W.isFn K (.ref f23)=true)
  (mq_Tracks_beyond:PySem.W.keepIn K (.ref f23)=true)
  (ma_Tracks_signal_at:PySem.W.findIn K (.ref cTracks) "signal_at" = some (some (.ref f24)))
  (mn_Tracks_signal_at:PySem.W.isFn K (.ref f24)=true)
  (mq_Tracks_signal_at:PySem.W.keepIn K (.ref f24)=true)
  (ma_Tracks_signals:PySem.W.findIn K (.ref cTracks) "signals" = some (some (.ref f25)))
  (mn_Tracks_signals:PySem.W.isFn K (.ref f25)=true)
  (mq_Tracks_signals:PySem.W.keepIn K (.ref f25)=true)
  (ma_Tracks_end_of:PySem.W.findIn K (.ref cTracks) "end_of" = some (some (.ref f26)))
  (mn_Tracks_end_of:PySem.W.isFn K (.ref f26)=true)
  (mq_Tracks_end_of:PySem.W.keepIn K (.ref f26)=true)
  (z_len:PySem.W.nsIn K mainGlobals "len" = some none)
  (z_range:PySem.W.nsIn K mainGlobals "range" = some none)
  (z_isinstance:PySem.W.nsIn K mainGlobals "isinstance" = some none)
  (z_list:PySem.W.nsIn K mainGlobals "list" = some none)
  (z_dict:PySem.W.nsIn K mainGlobals "dict" = some none)
  (z_tuple:PySem.W.nsIn K mainGlobals "tuple" = some none)
  (z_str:PySem.W.nsIn K mainGlobals "str" = some none)
  (z_enumerate:PySem.W.nsIn K mainGlobals "enumerate" = some none)
  (z_max:PySem.W.nsIn K mainGlobals "max" = some none)
  (z_min:PySem.W.nsIn K mainGlobals "min" = some none)
  (z_sum:PySem.W.nsIn K mainGlobals "sum" = some none)
  (z_sorted:PySem.W.nsIn K mainGlobals "sorted" = some none)
  (z_all:PySem.W.nsIn K mainGlobals "all" = some none)
  (y_kTT:PySem.W.kitOne K (.type "tuple") (.type "tuple")=some true)
  (y_kSS:PySem.W.kitOne K (.type "str") (.type "str")=some true)
  (y_gPart:PySem.W.kitOne K (.ref cPart) (.ref cGate)=some false)
  (y_gPlain:PySem.W.kitOne K (.ref cPlain) (.ref cGate)=some false)
  (y_gStop:PySem.W.kitOne K (.ref cStop) (.ref cGate)=some false)
  (y_gGate:PySem.W.kitOne K (.ref cGate) (.ref cGate)=some true)
  (y_gPoints:PySem.W.kitOne K (.ref cPoints) (.ref cGate)=some false)
  (y_gCross:PySem.W.kitOne K (.ref cCross) (.ref cGate)=some false)
  (y_pPart:PySem.W.kitOne K (.ref cPart) (.ref cPoints)=some false)
  (y_pPlain:PySem.W.kitOne K (.ref cPlain) (.ref cPoints)=some false)
  (y_pStop:PySem.W.kitOne K (.ref cStop) (.ref cPoints)=some false)
  (y_pGate:PySem.W.kitOne K (.ref cGate) (.ref cPoints)=some false)
  (y_pPoints:PySem.W.kitOne K (.ref cPoints) (.ref cPoints)=some true)
  (y_pCross:PySem.W.kitOne K (.ref cCross) (.ref cPoints)=some false)
  (y_kNS:PySem.W.kitOne K (.type "NoneType") (.type "str")=some false)
  (y_kIS:PySem.W.kitOne K (.type "int") (.type "str")=some false)
  (y_kLS:PySem.W.kitOne K (.type "list") (.type "str")=some false)
  (y_kTS:PySem.W.kitOne K (.type "tuple") (.type "str")=some false)
  (y_cBB:PySem.W.kitCls K (.ref cBadName) (.ref cBadName)=some true)
  (y_kBB:PySem.W.kitOne K (.ref cBadName) (.type "BaseException")=some true)
  (qx_YardError:PySem.W.excIn K cYardError [.type "ValueError",.type "Exception",.type "BaseException",.type "object"] "ValueError.__new__" = true)
  (qx_BadName:PySem.W.excIn K cBadName [.type "ValueError",.type "Exception",.type "BaseException",.type "object"] "ValueError.__new__" = true)
  (cc_LETTERS:PySem.W.nsIn K mainGlobals "LETTERS" = some (some (.str "abcdefghijklmnopqrstuvwxyz" tk_LETTERS)))
  (cc_FIGURES:PySem.W.nsIn K mainGlobals "FIGURES" = some (some (.str "0123456789" tk_FIGURES)))
  (cc_LONGEST_NAME:PySem.W.nsIn K mainGlobals "LONGEST_NAME" = some (some (.int 6 tk_LONGEST_NAME)))
  (cc_MOST_PARTS:PySem.W.nsIn K mainGlobals "MOST_PARTS" = some (some (.int 40 tk_MOST_PARTS)))
  (cc_MOST_SIGNALS:PySem.W.nsIn K mainGlobals "MOST_SIGNALS" = some (some (.int 40 tk_MOST_SIGNALS)))
  (tG:PySem.W.specialIn K (.builtin "object.__class__") "__get__" = some (some (.builtin "getset_descriptor.__get__")))
  (tK:PySem.W.takesIn K (.builtin "object.__class__")=some true)
  (tc_Part:PySem.W.findIn K (.ref cPart) "__class__" = some (some (.builtin "object.__class__")))
  (tm_Part:PySem.W.mroIn K cPart (.type "object")=some true)
  (tc_Plain:PySem.W.findIn K (.ref cPlain) "__class__" = some (some (.builtin "object.__class__")))
  (tm_Plain:PySem.W.mroIn K cPlain (.type "object")=some true)
  (tc_Stop:PySem.W.findIn K (.ref cStop) "__class__" = some (some (.builtin "object.__class__")))
  (tm_Stop:PySem.W.mroIn K cStop (.type "object")=some true)
  (tc_Gate:PySem.W.findIn K (.ref cGate) "__class__" = some (some (.builtin "object.__class__")))
  (tm_Gate:PySem.W.mroIn K cGate (.type "object")=some true)
  (tc_Points:PySem.W.findIn K (.ref cPoints) "__class__" = some (some (.builtin "object.__class__")))
  (tm_Points:PySem.W.mroIn K cPoints (.type "object")=some true)
  (tc_Cross:PySem.W.findIn K (.ref cCross) "__class__" = some (some (.builtin "object.__class__")))
  (tm_Cross:PySem.W.mroIn K cCross (.type "object")=some true)
  : ∃ fd:FuncData,(∀ (s:Shared) (v:Value),BindsTo s fd ⟨[v],[]⟩ [("_law_script",v)])∧∀ base:Heap,K.In base→base.Ns mainGlobals mg→FnOk l.prog w K mg base CX0 9 fa fd ["_law_script"] (spLaw K):=by
 have e:=hfa.symm.trans (PySem.W.mg_of X G a44)
 cases e
 have F0:=fun_mk (st:=s_is_name) l0 e0 k0
 have b0:=F0.binds (ps:=["thing"]) fun _ _ _ _ _ _ us hl=>match us,hl with | [_],_=>rfl
 have F1:=fun_mk (st:=s_Part___init__) l1 e1 k1
 have b1:=F1.binds (ps:=["self", "name"]) fun _ _ _ _ _ _ us hl=>match us,hl with | [_,_],_=>rfl
 have F2:=fun_mk (st:=s_Part_ends) l2 e2 k2
 have b2:=F2.binds (ps:=["self"]) fun _ _ _ _ _ _ us hl=>match us,hl with | [_],_=>rfl
 have F3:=fun_mk (st:=s_Part_lies) l3 e3 k3
 have b3:=F3.binds (ps:=["self"]) fun _ _ _ _ _ _ us hl=>match us,hl with | [_],_=>rfl
 have F4:=fun_mk (st:=s_Part_bears) l4 e4 k4
 have b4:=F4.binds (ps:=["self"]) fun _ _ _ _ _ _ us hl=>match us,hl with | [_],_=>rfl
 have F5:=fun_mk (st:=s_Stop_ends) l5 e5 k5
 have b5:=F5.binds (ps:=["self"]) fun _ _ _ _ _ _ us hl=>match us,hl with | [_],_=>rfl
 have F6:=fun_mk (st:=s_Points_ends) l6 e6 k6
 have b6:=F6.binds (ps:=["self"]) fun _ _ _ _ _ _ us hl=>match us,hl with | [_],_=>rfl
 have F7:=fun_mk (st:=s_Points_lies) l7 e7 k7
 have b7:=F7.binds (ps:=["self"]) fun _ _ _ _ _ _ us hl=>match us,hl with | [_],_=>rfl
 have F8:=fun_mk (st:=s_Points_bears) l8 e8 k8
 have b8:=F8.binds (ps:=["self"]) fun _ _ _ _ _ _ us hl=>match us,hl with | [_],_=>rfl
 have F9:=fun_mk (st:=s_Cross_ends) l9 e9 k9
 have b9:=F9.binds (ps:=["self"]) fun _ _ _ _ _ _ us hl=>match us,hl with | [_],_=>rfl
 have F10:=fun_mk (st:=s_Cross_bears) l10 e10 k10
 have b10:=F10.binds (ps:=["self"]) fun _ _ _ _ _ _ us hl=>match us,hl with | [_],_=>rfl
 have F11:=fun_mk (st:=s_is_pair) l11 e11 k11
 have b11:=F11.binds (ps:=["thing"]) fun _ _ _ _ _ _ us hl=>match us,hl with | [_],_=>rfl
 have F12:=fun_mk (st:=s_is_known) l12 e12 k12
 have b12:=F12.binds (ps:=["end", "ends"]) fun _ _ _ _ _ _ us hl=>match us,hl with | [_,_],_=>rfl
 have F13:=fun_mk (st:=s_refuse_name) l13 e13 k13
 have b13:=F13.binds (ps:=["name", "known"]) fun _ _ _ _ _ _ us hl=>match us,hl with | [_,_],_=>rfl
 have F14:=fun_mk (st:=s_parts_by_name) l14 e14 k14
 have b14:=F14.binds (ps:=["parts"]) fun _ _ _ _ _ _ us hl=>match us,hl with | [_],_=>rfl
 have F15:=fun_mk (st:=s_ends_to_parts) l15 e15 k15
 have b15:=F15.binds (ps:=["part_of"]) fun _ _ _ _ _ _ us hl=>match us,hl with | [_],_=>rfl
 have F16:=fun_mk (st:=s_refuse_join) l16 e16 k16
 have b16:=F16.binds (ps:=["join", "part_at", "joined"]) fun _ _ _ _ _ _ us hl=>match us,hl with | [_,_,_],_=>rfl
 have F17:=fun_mk (st:=s_joined_ends) l17 e17 k17
 have b17:=F17.binds (ps:=["joins", "part_at"]) fun _ _ _ _ _ _ us hl=>match us,hl with | [_,_],_=>rfl
 have F18:=fun_mk (st:=s_refuse_post) l18 e18 k18
 have b18:=F18.binds (ps:=["end", "part_at", "ends_with_signals"]) fun _ _ _ _ _ _ us hl=>match us,hl with | [_,_,_],_=>rfl
 have F19:=fun_mk (st:=s_posts_of) l19 e19 k19
 have b19:=F19.binds (ps:=["signals", "part_at"]) fun _ _ _ _ _ _ us hl=>match us,hl with | [_,_],_=>rfl
 have F20:=funD_mk (st:=s_Tracks___init__) l20 e20 k20
 have F21:=fun_mk (st:=s_Tracks_names) l21 e21 k21
 have b21:=F21.binds (ps:=["self"]) fun _ _ _ _ _ _ us hl=>match us,hl with | [_],_=>rfl
 have F22:=fun_mk (st:=s_Tracks_named) l22 e22 k22
 have b22:=F22.binds (ps:=["self", "name"]) fun _ _ _ _ _ _ us hl=>match us,hl with | [_,_],_=>rfl
 have F23:=fun_mk (st:=s_Tracks_beyond) l23 e23 k23
 have b23:=F23.binds (ps:=["self", "end"]) fun _ _ _ _ _ _ us hl=>match us,hl with | [_,_],_=>rfl
 have F24:=fun_mk (st:=s_Tracks_signal_at) l24 e24 k24
 have b24:=F24.binds (ps:=["self", "end"]) fun _ _ _ _ _ _ us hl=>match us,hl with | [_,_],_=>rfl
 have F25:=fun_mk (st:=s_Tracks_signals) l25 e25 k25
 have b25:=F25.binds (ps:=["self"]) fun _ _ _ _ _ _ us hl=>match us,hl with | [_],_=>rfl
 have F26:=fun_mk (st:=s_Tracks_end_of) l26 e26 k26
 have b26:=F26.binds (ps:=["self", "signal"]) fun _ _ _ _ _ _ us hl=>match us,hl with | [_,_],_=>rfl
 have F27:=fun_mk (st:=s__law_mixed) l27 e27 k27
 have b27:=F27.binds (ps:=["_law_cell", "_law_k"]) fun _ _ _ _ _ _ us hl=>match us,hl with | [_,_],_=>rfl
 have F28:=fun_mk (st:=s__law_cell_at) l28 e28 k28
 have b28:=F28.binds (ps:=["_law_script", "_law_k"]) fun _ _ _ _ _ _ us hl=>match us,hl with | [_,_],_=>rfl
 have F29:=fun_mk (st:=s__law_cells) l29 e29 k29
 have b29:=F29.binds (ps:=["_law_script", "_law_at", "_law_end"]) fun _ _ _ _ _ _ us hl=>match us,hl with | [_,_,_],_=>rfl
 have F30:=fun_mk (st:=s__law_ends) l30 e30 k30
 have b30:=F30.binds (ps:=["_law_kind"]) fun _ _ _ _ _ _ us hl=>match us,hl with | [_],_=>rfl
 have F31:=fun_mk (st:=s__law_name_by) l31 e31 k31
 have b31:=F31.binds (ps:=["_law_kind", "_law_cell", "_law_k"]) fun _ _ _ _ _ _ us hl=>match us,hl with | [_,_,_],_=>rfl
 have F32:=fun_mk (st:=s__law_block) l32 e32 k32
 have b32:=F32.binds (ps:=["_law_cell", "_law_names"]) fun _ _ _ _ _ _ us hl=>match us,hl with | [_,_],_=>rfl
 have F33:=fun_mk (st:=s__law_line) l33 e33 k33
 have b33:=F33.binds (ps:=["_law_cells_here"]) fun _ _ _ _ _ _ us hl=>match us,hl with | [_],_=>rfl
 have F34:=fun_mk (st:=s__law_closed) l34 e34 k34
 have b34:=F34.binds (ps:=["_law_parts", "_law_joins", "_law_rest", "_law_cell"]) fun _ _ _ _ _ _ us hl=>match us,hl with | [_,_,_,_],_=>rfl
 have F35:=fun_mk (st:=s__law_drawn) l35 e35 k35
 have b35:=F35.binds (ps:=["_law_cells_here"]) fun _ _ _ _ _ _ us hl=>match us,hl with | [_],_=>rfl
 have F36:=fun_mk (st:=s__law_signals_by) l36 e36 k36
 have b36:=F36.binds (ps:=["_law_parts", "_law_cell"]) fun _ _ _ _ _ _ us hl=>match us,hl with | [_,_],_=>rfl
 have F37:=fun_mk (st:=s__law_long) l37 e37 k37
 have b37:=F37.binds (ps:=["_law_cell"]) fun _ _ _ _ _ _ us hl=>match us,hl with | [_],_=>rfl
 have F38:=fun_mk (st:=s__law_yard_by) l38 e38 k38
 have b38:=F38.binds (ps:=["_law_cells_here", "_law_cell"]) fun _ _ _ _ _ _ us hl=>match us,hl with | [_,_],_=>rfl
 have F39:=fun_mk (st:=s__law_part) l39 e39 k39
 have b39:=F39.binds (ps:=["_law_kind", "_law_name"]) fun _ _ _ _ _ _ us hl=>match us,hl with | [_,_],_=>rfl
 have F40:=fun_mk (st:=s__law_refused) l40 e40 k40
 have b40:=F40.binds (ps:=["_law_tracks_here", "_law_odd", "_law_whole"]) fun _ _ _ _ _ _ us hl=>match us,hl with | [_,_,_],_=>rfl
 have F41:=fun_mk (st:=s__law_ends_told) l41 e41 k41
 have b41:=F41.binds (ps:=["_law_tracks_here", "_law_yard"]) fun _ _ _ _ _ _ us hl=>match us,hl with | [_,_],_=>rfl
 have F42:=fun_mk (st:=s__law_kept_apart) l42 e42 k42
 have b42:=F42.binds (ps:=["_law_tracks_here", "_law_parts", "_law_signals"]) fun _ _ _ _ _ _ us hl=>match us,hl with | [_,_,_],_=>rfl
 have F43:=fun_mk (st:=s__law_all_refused) l43 e43 k43
 have b43:=F43.binds (ps:=["_law_tracks_here", "_law_things"]) fun _ _ _ _ _ _ us hl=>match us,hl with | [_,_],_=>rfl
 have F44:=fun_mk (st:=s_law) l44 e44 k44
 have T:Tx K mg:={
  d_is_name:=⟨f0,_,F0,b0⟩
  m_is_name:=PySem.W.mg_of X G a0
  d_Part___init__:=⟨f1,_,F1,b1⟩
  d_Part_ends:=⟨f2,_,F2,b2⟩
  d_Part_lies:=⟨f3,_,F3,b3⟩
  d_Part_bears:=⟨f4,_,F4,b4⟩
  d_Stop_ends:=⟨f5,_,F5,b5⟩
  d_Points_ends:=⟨f6,_,F6,b6⟩
  d_Points_lies:=⟨f7,_,F7,b7⟩
  d_Points_bears:=⟨f8,_,F8,b8⟩
  d_Cross_ends:=⟨f9,_,F9,b9⟩
  d_Cross_bears:=⟨f10,_,F10,b10⟩
  d_is_pair:=⟨f11,_,F11,b11⟩
  m_is_pair:=PySem.W.mg_of X G a11
  d_is_known:=⟨f12,_,F12,b12⟩
  m_is_known:=PySem.W.mg_of X G a12
  d_refuse_name:=⟨f13,_,F13,b13⟩
  m_refuse_name:=PySem.W.mg_of X G a13
  d_parts_by_name:=⟨f14,_,F14,b14⟩
  m_parts_by_name:=PySem.W.mg_of X G a14
  d_ends_to_parts:=⟨f15,_,F15,b15⟩
  m_ends_to_parts:=PySem.W.mg_of X G a15
  d_refuse_join:=⟨f16,_,F16,b16⟩
  m_refuse_join:=PySem.W.mg_of X G a16
  d_joined_ends:=⟨f17,_,F17,b17⟩
  m_joined_ends:=PySem.W.mg_of X G a17
  d_refuse_post:=⟨f18,_,F18,b18⟩
  m_refuse_post:=PySem.W.mg_of X G a18
  d_posts_of:=⟨f19,_,F19,b19⟩
  m_posts_of:=PySem.W.mg_of X G a19
  d_Tracks___init__:=⟨f20,_,_,F20,fun s us KX hl=>by
   rw [List.append_nil] at hl ⊢
   match us,hl with
   | [_,_,_,_],_=>exact BindsTo.of_defaults rfl (KX _ _ ld20) rfl rfl rfl,.none,rfl,fun s us KX hl=>by
   have h2:us.length=3:=by simpa using hl
   match us,h2 with
   | [_,_,_],_=>exact BindsTo.of_defaults rfl (KX _ _ ld20) rfl rfl rfl⟩
  d_Tracks_names:=⟨f21,_,F21,b21⟩
  d_Tracks_named:=⟨f22,_,F22,b22⟩
  d_Tracks_beyond:=⟨f23,_,F23,b23⟩
  d_Tracks_signal_at:=⟨f24,_,F24,b24⟩
  d_Tracks_signals:=⟨f25,_,F25,b25⟩
  d_Tracks_end_of:=⟨f26,_,F26,b26⟩
  d__law_mixed:=⟨f27,_,F27,b27⟩
  m__law_mixed:=PySem.W.mg_of X G a27
  d__law_cell_at:=⟨f28,_,F28,b28⟩
  m__law_cell_at:=PySem.W.mg_of X G a28
  d__law_cells:=⟨f29,_,F29,b29⟩
  m__law_cells:=PySem.W.mg_of X G a29
  d__law_ends:=⟨f30,_,F30,b30⟩
  m__law_ends:=PySem.W.mg_of X G a30
  d__law_name_by:=⟨f31,_,F31,b31⟩
  m__law_name_by:=PySem.W.mg_of X G a31
  d__law_block:=⟨f32,_,F32,b32⟩
  m__law_block:=PySem.W.mg_of X G a32
  d__law_line:=⟨f33,_,F33,b33⟩
  m__law_line:=PySem.W.mg_of X G a33
  d__law_closed:=⟨f34,_,F34,b34⟩
  m__law_closed:=PySem.W.mg_of X G a34
  d__law_drawn:=⟨f35,_,F35,b35⟩
  m__law_drawn:=PySem.W.mg_of X G a35
  d__law_signals_by:=⟨f36,_,F36,b36⟩
  m__law_signals_by:=PySem.W.mg_of X G a36
  d__law_long:=⟨f37,_,F37,b37⟩
  m__law_long:=PySem.W.mg_of X G a37
  d__law_yard_by:=⟨f38,_,F38,b38⟩
  m__law_yard_by:=PySem.W.mg_of X G a38
  d__law_part:=⟨f39,_,F39,b39⟩
  m__law_part:=PySem.W.mg_of X G a39
  d__law_refused:=⟨f40,_,F40,b40⟩
  m__law_refused:=PySem.W.mg_of X G a40
  d__law_ends_told:=⟨f41,_,F41,b41⟩
  m__law_ends_told:=PySem.W.mg_of X G a41
  d__law_kept_apart:=⟨f42,_,F42,b42⟩
  m__law_kept_apart:=PySem.W.mg_of X G a42
  d__law_all_refused:=⟨f43,_,F43,b43⟩
  m__law_all_refused:=PySem.W.mg_of X G a43
  CPart:=cPart
  mPart:=PySem.W.mg_of X G cx_Part
  clPart:=⟨pg_Part,hd_Part,po_Part,sa_Part⟩
  nPart_name:=na_Part_name
  mkPart:=⟨mk_Part,mi_Part,mf_Part,mp_Part⟩
  mtPart_ends:=⟨ma_Part_ends,mn_Part_ends,mq_Part_ends⟩
  mtPart_lies:=⟨ma_Part_lies,mn_Part_lies,mq_Part_lies⟩
  mtPart_bears:=⟨ma_Part_bears,mn_Part_bears,mq_Part_bears⟩
  CPlain:=cPlain
  mPlain:=PySem.W.mg_of X G cx_Plain
  clPlain:=⟨pg_Plain,hd_Plain,po_Plain,sa_Plain⟩
  nPlain_name:=na_Plain_name
  mkPlain:=⟨mk_Plain,mi_Plain,mf_Plain,mp_Plain⟩
  mtPlain_ends:=⟨ma_Plain_ends,mn_Plain_ends,mq_Plain_ends⟩
  mtPlain_lies:=⟨ma_Plain_lies,mn_Plain_lies,mq_Plain_lies⟩
  mtPlain_bears:=⟨ma_Plain_bears,mn_Plain_bears,mq_Plain_bears⟩
  CStop:=cStop
  mStop:=PySem.W.mg_of X G cx_Stop
  clStop:=⟨pg_Stop,hd_Stop,po_Stop,sa_Stop⟩
  nStop_name:=na_Stop_name
  mkStop:=⟨mk_Stop,mi_Stop,mf_Stop,mp_Stop⟩
  mtStop_ends:=⟨ma_Stop_ends,mn_Stop_ends,mq_Stop_ends⟩
  mtStop_lies:=⟨ma_Stop_lies,mn_Stop_lies,mq_Stop_lies⟩
  mtStop_bears:=⟨ma_Stop_bears,mn_Stop_bears,mq_Stop_bears⟩
  CGate:=cGate
  mGate:=PySem.W.mg_of X G cx_Gate
  clGate:=⟨pg_Gate,hd_Gate,po_Gate,sa_Gate⟩
  nGate_name:=na_Gate_name
  mkGate:=⟨mk_Gate,mi_Gate,mf_Gate,mp_Gate⟩
  mtGate_ends:=⟨ma_Gate_ends,mn_Gate_ends,mq_Gate_ends⟩
  mtGate_lies:=⟨ma_Gate_lies,mn_Gate_lies,mq_Gate_lies⟩
  mtGate_bears:=⟨ma_Gate_bears,mn_Gate_bears,mq_Gate_bears⟩
  CPoints:=cPoints
  mPoints:=PySem.W.mg_of X G cx_Points
  clPoints:=⟨pg_Points,hd_Points,po_Points,sa_Points⟩
  nPoints_name:=na_Points_name
  mkPoints:=⟨mk_Points,mi_Points,mf_Points,mp_Points⟩
  mtPoints_ends:=⟨ma_Points_ends,mn_Points_ends,mq_Points_ends⟩
  mtPoints_lies:=⟨ma_Points_lies,mn_Points_lies,mq_Points_lies⟩
  mtPoints_bears:=⟨ma_Points_bears,mn_Points_bears,mq_Points_bears⟩
  CCross:=cCross
  mCross:=PySem.W.mg_of X G cx_Cross
  clCross:=⟨pg_Cross,hd_Cross,po_Cross,sa_Cross⟩
  nCross_name:=na_Cross_name
  mkCross:=⟨mk_Cross,mi_Cross,mf_Cross,mp_Cross⟩
  mtCross_ends:=⟨ma_Cross_ends,mn_Cross_ends,mq_Cross_ends⟩
  mtCross_lies:=⟨ma_Cross_lies,mn_Cross_lies,mq_Cross_lies⟩
  mtCross_bears:=⟨ma_Cross_bears,mn_Cross_bears,mq_Cross_bears⟩
  CTracks:=cTracks
  mTracks:=PySem.W.mg_of X G cx_Tracks
  clTracks:=⟨pg_Tracks,hd_Tracks,po_Tracks,sa_Tracks⟩
  nTracks_part_of:=na_Tracks_part_of
  nTracks_joined:=na_Tracks_joined
  nTracks_post_of:=na_Tracks_post_of
  nTracks_signal_on:=na_Tracks_signal_on
  mkTracks:=⟨mk_Tracks,mi_Tracks,mf_Tracks,mp_Tracks⟩
  mtTracks_names:=⟨ma_Tracks_names,mn_Tracks_names,mq_Tracks_names⟩
  mtTracks_named:=⟨ma_Tracks_named,mn_Tracks_named,mq_Tracks_named⟩
  mtTracks_beyond:=⟨ma_Tracks_beyond,mn_Tracks_beyond,mq_Tracks_beyond⟩
  mtTracks_signal_at:=⟨ma_Tracks_signal_at,mn_Tracks_signal_at,mq_Tracks_signal_at⟩
  mtTracks_signals:=⟨ma_Tracks_signals,mn_Tracks_signals,mq_Tracks_signals⟩
  mtTracks_end_of:=⟨ma_Tracks_end_of,mn_Tracks_end_of,mq_Tracks_end_of⟩
  CYardError:=cYardError
  mYardError:=PySem.W.mg_of X G cx_YardError
  CBadName:=cBadName
  mBadName:=PySem.W.mg_of X G cx_BadName
  n_len:=PySem.W.mg_none_of X G z_len
  n_range:=PySem.W.mg_none_of X G z_range
  n_isinstance:=PySem.W.mg_none_of X G z_isinstance
  n_list:=PySem.W.mg_none_of X G z_list
  n_dict:=PySem.W.mg_none_of X G z_dict
  n_tuple:=PySem.W.mg_none_of X G z_tuple
  n_str:=PySem.W.mg_none_of X G z_str
  n_enumerate:=PySem.W.mg_none_of X G z_enumerate
  n_max:=PySem.W.mg_none_of X G z_max
  n_min:=PySem.W.mg_none_of X G z_min
  n_sum:=PySem.W.mg_none_of X G z_sum
  n_sorted:=PySem.W.mg_none_of X G z_sorted
  n_all:=PySem.W.mg_none_of X G z_all
  kTT:=y_kTT
  kSS:=y_kSS
  gPart:=y_gPart
  gPlain:=y_gPlain
  gStop:=y_gStop
  gGate:=y_gGate
  gPoints:=y_gPoints
  gCross:=y_gCross
  pPart:=y_pPart
  pPlain:=y_pPlain
  pStop:=y_pStop
  pGate:=y_pGate
  pPoints:=y_pPoints
  pCross:=y_pCross
  kNS:=y_kNS
  kIS:=y_kIS
  kLS:=y_kLS
  kTS:=y_kTS
  cBB:=y_cBB
  kBB:=y_kBB
  x_YardError:=ownIn_of (PySem.W.mg_of X G cx_YardError) qx_YardError
  x_BadName:=ownIn_of (PySem.W.mg_of X G cx_BadName) qx_BadName
  c_LETTERS:=⟨_,PySem.W.mg_of X G cc_LETTERS⟩
  c_FIGURES:=⟨_,PySem.W.mg_of X G cc_FIGURES⟩
  c_LONGEST_NAME:=⟨_,PySem.W.mg_of X G cc_LONGEST_NAME⟩
  c_MOST_PARTS:=⟨_,PySem.W.mg_of X G cc_MOST_PARTS⟩
  c_MOST_SIGNALS:=⟨_,PySem.W.mg_of X G cc_MOST_SIGNALS⟩
  tG:=tG
  tK:=tK
  tcPart:=tc_Part
  tmPart:=tm_Part
  tcPlain:=tc_Plain
  tmPlain:=tm_Plain
  tcStop:=tc_Stop
  tmStop:=tm_Stop
  tcGate:=tc_Gate
  tmGate:=tm_Gate
  tcPoints:=tc_Points
  tmPoints:=tm_Points
  tcCross:=tc_Cross
  tmCross:=tm_Cross
 }
 exact ⟨PySem.W.fnOf "law" "law" (defArgs s_law) (defBody s_law) (defScope s_law) .none kV44 dc44 pm44 an44 cd44 ct44,fun s v=>.of_eq rfl,fun base _ _=>ok_law F44 T⟩
theorem walk {l:PySem.W.OpenLaw} {q:Program} {loose:List Str} {XP:(Str→Option Value)→Heap→Prop} {YP:World→Heap→Prop} {d:DefRec} {K:Params→PySem.W.Frag} (hn:l.most=some 63) (hdf:d.params.defaults=[])
  (hY:∀ (w:World) (h:Heap),YP w h→(K w.params).In h)
  (F:∀ (w:World) (mg:Str→Option Value) (fa:Addr) (h:Heap),(K w.params).In h→h.Ns mainGlobals mg→mg d.name=some (.ref fa) →
   ∃ fd:FuncData,(∀ (s:Shared) (u:Value),BindsTo s fd ⟨[u],[]⟩ [("_law_script",u)])∧∀ base:Heap,(K w.params).In base→base.Ns mainGlobals mg→FnOk l.prog w (K w.params) mg base CX0 9 fa fd ["_law_script"] (spLaw (K w.params))) :
  PySem.W.WalkO q loose XP YP l.row.toRowW d [] (fun f vs=>PySem.call f vs) :=
 L2.walk_of (n:=63) (k:=9) (x := "_law_script") (CX:=fun _=>CX0) (sp:=fun w=>spLaw (K w.params)) hn (by decide) hdf ⟨rfl,by decide,by decide⟩ hY F (fun _ _ a ns hl _ hS=>⟨a,ns,rfl,hS,hl,fun _=>rfl⟩) fun _ _ _ _ _ z=>z
end K13
namespace PySem.W.Fast
def tw15849009156587157648:Unit:=()
def tw9991700430761931415:Unit:=()
def tw5857602341307813686:Unit:=()
def tw16630657779028210314:Unit:=()
def tw8343650343016597601:Unit:=()
def tw6450620527431154086:Unit:=()
def tw8601625286693815486:Unit:=()
def tw12412003053652443457:Unit:=()
def tw13880899758075685221:Unit:=()
def tw6718611887762017663:Unit:=()
def tw2586846107756589029:Unit:=()
def tw8757382000883044013:Unit:=()
def tw3829497536617293488:Unit:=()
def tw13308305183034051694:Unit:=()
def tw3208497113144914881:Unit:=()
def tw6737852514027170303:Unit:=()
def tw2164206776675974369:Unit:=()
def tw8081028488134065688:Unit:=()
def tw15825878366776762982:Unit:=()
def tw13014675265135185382:Unit:=()
def tw7088660884568930016:Unit:=()
def tw6986875019987341734:Unit:=()
def tw12978433897680305712:Unit:=()
def tw4394088876983934319:Unit:=()
def tw12588131366308062486:Unit:=()
def tw7738180467659814259:Unit:=()
def tw3697819290097105175:Unit:=()
def tw13537036154548446778:Unit:=()
def tw6769057327631266307:Unit:=()
def tw5960580813284201275:Unit:=()
def tw12544179697371623389:Unit:=()
def tw6156903464227254047:Unit:=()
def tw13501116015641660831:Unit:=()
def tw3060717657251372184:Unit:=()
def tw8165719279233459613:Unit:=()
def tw3532387925078450216:Unit:=()
def tw16355214731877902476:Unit:=()
def tw3316823245850913515:Unit:=()
def tw18139479553078050649:Unit:=()
def tw16729662332250456107:Unit:=()
def tw7661616388071957564:Unit:=()
def tw18032293008715920786:Unit:=()
def tw15512600714971390802:Unit:=()
def tw17538524867014123243:Unit:=()
def tw3818115531952111690:Unit:=()
def tw3052161042043753645:Unit:=()
def tw7918489244583217626:Unit:=()
def tw16674064380390812602:Unit:=()
def tw1601971877797424327:Unit:=()
def tw11512595094897299576:Unit:=()
def tw14352687960600295075:Unit:=()
def tw11693420905308354828:Unit:=()
def tw17879326624598192719:Unit:=()
def tw10946179452277251466:Unit:=()
def tw10327203806292975268:Unit:=()
def tw17036022723480161797:Unit:=()
def tw9810693402570331983:Unit:=()
def tw8659327394498087844:Unit:=()
def tw11662179755306372415:Unit:=()
def tw3137272517032252097:Unit:=()
def tw16000676408682699044:Unit:=()
def tw16826930983552811714:Unit:=()
def tw826538525937151999:Unit:=()
def tw692446838985165105:Unit:=()
def tw16330962869612104280:Unit:=()
def tw17545726003063503757:Unit:=()
def tw10407859817419557957:Unit:=()
def tw12125362182184648832:Unit:=()
def tw7821573694122735302:Unit:=()
def tw313412442730354973:Unit:=()
def tw695176014724564187:Unit:=()
def tw5436150154431530114:Unit:=()
def tw7738376133861290200:Unit:=()
def tw2061559030099617630:Unit:=()
def tw5757832005114967526:Unit:=()
def tw2508013075598443987:Unit:=()
def tw10448602481584058903:Unit:=()
def tw6257642399072113247:Unit:=()
def tw7996652051881108567:Unit:=()
def tw9569624978654897900:Unit:=()
def tw4154928043991081224:Unit:=()
def tw3181585401109094536:Unit:=()
def tw10078975754939120324:Unit:=()
def tw10291736967894807913:Unit:=()
def tw17150529020356251528:Unit:=()
def tw2422734803219581595:Unit:=()
def tw9360520010187101701:Unit:=()
def tw10642864904046489524:Unit:=()
def tw3390512756446111191:Unit:=()
def tw17935741295588266059:Unit:=()
def tw17674069104447017828:Unit:=()
def tw2402766706884412369:Unit:=()
def tw7642160487192025931:Unit:=()
def tw5198913306714627321:Unit:=()
def tw5488945293842946416:Unit:=()
def tw14786214607367147814:Unit:=()
def tw17743828743337740678:Unit:=()
def tw13555743955605078726:Unit:=()
def tw9039380223977616765:Unit:=()
def tw7540865346709850551:Unit:=()
def tw2021137993685855548:Unit:=()
def tw13202024962769790276:Unit:=()
def tw6259638827074163165:Unit:=()
def tw12579459951766795115:Unit:=()
def tw14008885787811622357:Unit:=()
def tw3079540662248155297:Unit:=()
def tw12392538302532486660:Unit:=()
def tw2168172194173124430:Unit:=()
def tw14745501056839589801:Unit:=()
def tw12432183275324297240:Unit:=()
def tw13347670126168153951:Unit:=()
def tw17188227345940496589:Unit:=()
def tw10835326634200161950:Unit:=()
def tw9688251890077062452:Unit:=()
def tw6130681844342614446:Unit:=()
def tw13492852153501973018:Unit:=()
def tw15277875757084221723:Unit:=()
def tw14929435697523843883:Unit:=()
def tw12860111541062047847:Unit:=()
def tw14199105973570942474:Unit:=()
def tw9054732357078861723:Unit:=()
def tw395251604546967718:Unit:=()
def tw1508468958159220317:Unit:=()
def tw6977929776201339288:Unit:=()
def tw9259662158436552836:Unit:=()
def tw10084125691529771651:Unit:=()
def tw1846889327926413342:Unit:=()
def tw4955953807889673250:Unit:=()
def tw667145650384143501:Unit:=()
def tw17184957477804614316:Unit:=()
def tw12135039568682081052:Unit:=()
def tw13273869938679155151:Unit:=()
def tw12612938499377405792:Unit:=()
def tw10956862525876758410:Unit:=()
def tw5430064362812078207:Unit:=()
def tw2436033200072186333:Unit:=()
def tw1862509722331114199:Unit:=()
def tw6976801453486731785:Unit:=()
def tw3544916260662277689:Unit:=()
def tw8348139418027091453:Unit:=()
def tw11216927160483366530:Unit:=()
def tw5071958766671026991:Unit:=()
def tw4843552290589392472:Unit:=()
def tw7729731016673766647:Unit:=()
def tw8408814338831896242:Unit:=()
def tw5865036924973277433:Unit:=()
def tw10300333422418715923:Unit:=()
def tw8620532166418322891:Unit:=()
def tw17492511365071985991:Unit:=()
def tw13122955377066039421:Unit:=()
def tw5069923445498595421:Unit:=()
def tw10479762079967381479:Unit:=()
def tw18069480730554384942:Unit:=()
def tw6647370024750938354:Unit:=()
def tw2812909496153478817:Unit:=()
def tw5892573724656132880:Unit:=()
def tw7026893872565933574:Unit:=()
def tw8736809110694698896:Unit:=()
def tw7423627623624060484:Unit:=()
def tw17633262324557053735:Unit:=()
def tw808374490961315537:Unit:=()
def tw1090334820623097299:Unit:=()
def tw11191762308157497819:Unit:=()
def tw14240263699337449819:Unit:=()
def tw15406688939177066779:Unit:=()
def tw16709929214801780765:Unit:=()
def tw6310581142578663396:Unit:=()
def tw4413548422037705539:Unit:=()
def tw7970262302442676275:Unit:=()
def tw1890643227644850238:Unit:=()
def tw168859447678480273:Unit:=()
def tw4054682575717013663:Unit:=()
def tw12671493019737624391:Unit:=()
def tw18276423495469709715:Unit:=()
def tw15501074293301946351:Unit:=()
def tw84534575092664802:Unit:=()
def tw12388073874852148295:Unit:=()
def tw4799902746627368696:Unit:=()
def tw11109321049209119407:Unit:=()
def tw16322759827845176422:Unit:=()
def tw3173992091351329624:Unit:=()
def tw16663123743456680359:Unit:=()
def tw10752574783480827646:Unit:=()
def tw17699572007962753007:Unit:=()
def tw15128506393158468286:Unit:=()
def tw15164386659781512127:Unit:=()
def tw2431895178283692384:Unit:=()
def tw10984451666664285999:Unit:=()
def tw179584671429138369:Unit:=()
def tw15095717231847545601:Unit:=()
def tw14746806790612706477:Unit:=()
def tw13831889082516514997:Unit:=()
def tw6859817810695476307:Unit:=()
def tw4413712641497447801:Unit:=()
def tw1882941815137943643:Unit:=()
def tw14005254199608712030:Unit:=()
def tw3342365076466320252:Unit:=()
def tw4029008601795302002:Unit:=()
def tw15527350494287217030:Unit:=()
def tw16512940627060428598:Unit:=()
def tw6189770967201675470:Unit:=()
def tw16568220272474792754:Unit:=()
def tw2925235366128427032:Unit:=()
def tw11922122800631650861:Unit:=()
def tw1732740622388846279:Unit:=()
def tw14337628394210138374:Unit:=()
def tw8608436041835909956:Unit:=()
def tw943543279816138757:Unit:=()
def tw17773379459690958682:Unit:=()
def tw8004325420690913678:Unit:=()
def tw14025071043675898743:Unit:=()
def tw7143500198389477424:Unit:=()
def tw665034778527233957:Unit:=()
def tw3597952572441356120:Unit:=()
def tw4051569809769552787:Unit:=()
def tw3864627252637954765:Unit:=()
def tw16877257270251983781:Unit:=()
def tw18404852596458886735:Unit:=()
def tw16587590790840151041:Unit:=()
def tw9317831327472797694:Unit:=()
def tw12873523646969082809:Unit:=()
def tw6054717807233012014:Unit:=()
def tw8627655510594192758:Unit:=()
def tw14954513970500035960:Unit:=()
def tw15819641601859572925:Unit:=()
def tw7066825708470497175:Unit:=()
def tw233836257529340632:Unit:=()
def tw13937360779140832382:Unit:=()
def tw10248307312307551759:Unit:=()
def tw17040199566103742916:Unit:=()
def tw14722675351181585918:Unit:=()
def tw13005334948580209448:Unit:=()
def tw14146873048710372355:Unit:=()
def tw17114613532388799297:Unit:=()
def tw1717359317934851862:Unit:=()
def tw7280956469600776577:Unit:=()
def tw8258587323579911814:Unit:=()
def tw1218916853849715374:Unit:=()
def tw16243215948365663553:Unit:=()
def tw9569858222517458310:Unit:=()
def tw13058738577804366030:Unit:=()
def tw17572201112813390126:Unit:=()
def tw97105116352490482:Unit:=()
def tw15735144990995098030:Unit:=()
def tw10529160282369463280:Unit:=()
def tw12041053448700316528:Unit:=()
def tw11273614730257224982:Unit:=()
def tw8758429731076248801:Unit:=()
def tw2002742556527210575:Unit:=()
def tw1023155121727282977:Unit:=()
def tw16365877471599239222:Unit:=()
def tw1087556288169268402:Unit:=()
def tw7989399352389051206:Unit:=()
def tw18430663769319047669:Unit:=()
def tw12290254991129604967:Unit:=()
def tw725288851224209397:Unit:=()
def tw9174262178812434906:Unit:=()
def tw14103012504144592240:Unit:=()
def tw16248677761471588107:Unit:=()
def tw7478580103999407340:Unit:=()
def tw12140914263746407177:Unit:=()
def tw687846794545818410:Unit:=()
def tw9415504137654804745:Unit:=()
def tw12494138443316926314:Unit:=()
def tw11461393480775733376:Unit:=()
def tw10828683949925031309:Unit:=()
def tw8607190072121852467:Unit:=()
def tw11723864433511944827:Unit:=()
def tw18187167864677569467:Unit:=()
def tw14289757030951731517:Unit:=()
def tw12876722262590428368:Unit:=()
def tw14120068322685885576:Unit:=()
def tw10743436571951206609:Unit:=()
def tw1617680897751254169:Unit:=()
def tw9779845684722622235:Unit:=()
def tw7088750166798876227:Unit:=()
def tw17256739079894363714:Unit:=()
def tw5013185209164401771:Unit:=()
def tw10028573708105246962:Unit:=()
def tw13376156421968585556:Unit:=()
def tw4777416798060343722:Unit:=()
def tw15237892717940881913:Unit:=()
def tw4899341375757655170:Unit:=()
def tw315397635447499364:Unit:=()
def tw13962105540031882789:Unit:=()
def tw10707402953472871913:Unit:=()
def tw9116776214923525212:Unit:=()
def tw14489744549096151865:Unit:=()
def tw11832887584051361537:Unit:=()
def tw1249553558034677590:Unit:=()
def tw17639792328932260157:Unit:=()
def tw13004978402373020927:Unit:=()
def tw12631392274693131150:Unit:=()
def tw15670942091462303273:Unit:=()
def tw4577440875365734810:Unit:=()
def tw5822161819474782313:Unit:=()
def tw8910439724033614539:Unit:=()
def tw8978824538084664640:Unit:=()
def tw10522491598390699359:Unit:=()
def tw5599496387026207723:Unit:=()
def tw6796273121844032853:Unit:=()
def tw10721445218497116254:Unit:=()
def tw5185543951285483553:Unit:=()
def tw164865156987214296:Unit:=()
def tw6493154033021138921:Unit:=()
def tw16002661073120272190:Unit:=()
def tw1142003338192680990:Unit:=()
def tw12604771465634720995:Unit:=()
def tw13148565673510970263:Unit:=()
def tw12279008188086495921:Unit:=()
def tw10780683931768935446:Unit:=()
def tw1798163041811316190:Unit:=()
def tw5443143921838437920:Unit:=()
def tw1126233659321973378:Unit:=()
def tw8628429406591073030:Unit:=()
def tw5170128431728218161:Unit:=()
def tw1126053068699296264:Unit:=()
def tw4735095951279808197:Unit:=()
def tw15834504886642652072:Unit:=()
def tw12837215549320061462:Unit:=()
def tw9636895681211194485:Unit:=()
def tw15320256197237698736:Unit:=()
def tw18367530520143143580:Unit:=()
def tw13093077490686818171:Unit:=()
def tw1073850900072149108:Unit:=()
def tw12994049628636393357:Unit:=()
def tw18397209939186687700:Unit:=()
def tw16411312024308572591:Unit:=()
def tw10243313086236568312:Unit:=()
def tw14229332209696230734:Unit:=()
def tw16665199645535983637:Unit:=()
def tw11652955004573298382:Unit:=()
def tw18421916927140532466:Unit:=()
def tw10155254902552423739:Unit:=()
def tw3478290801818755039:Unit:=()
def tw14448756041655912183:Unit:=()
def tw2589944301537718025:Unit:=()
def tw18061197778870221720:Unit:=()
def tw6990956914580401286:Unit:=()
def tw9460921959726357624:Unit:=()
def tw13828085293324849198:Unit:=()
def tw8253280826233912837:Unit:=()
def tw17591265259554134758:Unit:=()
def tw6924541807771373640:Unit:=()
def tw10469296394767970304:Unit:=()
def tw3186876026273691094:Unit:=()
def tw10787142601008637907:Unit:=()
def tw7562010046018578503:Unit:=()
def tw17761745994191137682:Unit:=()
def tw16565021675621536282:Unit:=()
def tw16554248630981203821:Unit:=()
def tw6107714943804762972:Unit:=()
def tw2428868953095996678:Unit:=()
def tw11196546197770237875:Unit:=()
def tw7037725772875782654:Unit:=()
def tw6690236023251136289:Unit:=()
def tw4180333259539697979:Unit:=()
def tw15783565133759743387:Unit:=()
def tw8377540279209148621:Unit:=()
def tw17261959360639085035:Unit:=()
def tw17160354188159365177:Unit:=()
def tw3234684505932788507:Unit:=()
def tw15905165701229045540:Unit:=()
def tw7681708809124531202:Unit:=()
def tw9368993395823584894:Unit:=()
def tw7131282745809612744:Unit:=()
def tw12114874689901259400:Unit:=()
def tw10748991804930282450:Unit:=()
def tw15077419253865789104:Unit:=()
def tw6648705036780077682:Unit:=()
def tw16580968394708603211:Unit:=()
def tw1151008201332493550:Unit:=()
def tw1367966924638245449:Unit:=()
def tw6020552123430979539:Unit:=()
def tw762198583817158324:Unit:=()
def tw5018236436534043084:Unit:=()
def tw10521669073182656239:Unit:=()
def tw9379881271213033833:Unit:=()
def tw3928201069652997515:Unit:=()
def tw9270495220763366372:Unit:=()
def tw16522871199046040487:Unit:=()
def tw2557091434586227532:Unit:=()
def tw12562615915999612519:Unit:=()
def tw15427490309786964392:Unit:=()
def tw12855043216403389341:Unit:=()
def tw11943548922675710616:Unit:=()
def tw11430026292098585931:Unit:=()
def tw3882414475872513716:Unit:=()
def tw6565990925368755003:Unit:=()
def tw15159017233815888095:Unit:=()
def tw14289734326423749677:Unit:=()
def tw12696571577564304039:Unit:=()
def tw15716992578122679358:Unit:=()
def tw12376347624636127824:Unit:=()
def tw11175652181840768232:Unit:=()
def tw2129922700720915950:Unit:=()
def tw9811553417132844396:Unit:=()
def tw14763391301658535626:Unit:=()
def tw18243555005655139958:Unit:=()
def tw7564883650161779232:Unit:=()
def tw11999053816177630712:Unit:=()
def tw5329962569097648597:Unit:=()
def tw13432916639358212157:Unit:=()
def tw10253243349710902745:Unit:=()
def tw4829486641596131432:Unit:=()
def tw11665498845894548315:Unit:=()
def tw15218597053785701805:Unit:=()
def tw5014251087469046907:Unit:=()
def tw455286997811876303:Unit:=()
def tw14900357440235084138:Unit:=()
def tw16781257482519898494:Unit:=()
def tw11880577383918712884:Unit:=()
def tw10298636396657515740:Unit:=()
def tw1321723825868880131:Unit:=()
def tw12402124032823013210:Unit:=()
def tw14901773204162484505:Unit:=()
def tw9308632236806300793:Unit:=()
def tw1315619147991548184:Unit:=()
def tw228462539547163845:Unit:=()
def tw6006962066367513507:Unit:=()
def tw15580187500304746213:Unit:=()
def tw5899435438491223613:Unit:=()
def tw10492023126091449306:Unit:=()
def tw5477280525173369777:Unit:=()
end PySem.W.Fast
open PySem PySem.W PyProof.Rows
set_option maxRecDepth 100000 in
set_option maxHeartbeats 0 in
theorem PySem.Challenge.cw_yardkeep_k13_tracks_told_holds : PySem.Challenge.rw_yardkeep_k13_tracks_told.Holds := by
  w_on; o_law; k_head; (case hw=>w_witness2)
  k_fill
  refine K13.walk (l:=PySem.Challenge.rw_yardkeep_k13_tracks_told) rfl rfl (fun w h Y=>PySem.W.kIn_of Y) ?F
  case F =>
    intro w mg fa h KX G hmg
    refine' K13.all_mk KX G hmg ?cx_Part ?cx_Plain ?cx_Stop ?cx_Gate ?cx_Points ?cx_Cross ?cx_Tracks ?cx_YardError ?cx_BadName ?a0 ?l0 ?e0 ?k0 ?a1 ?l1 ?e1 ?k1 ?a2 ?l2 ?e2 ?k2 ?a3 ?l3 ?e3 ?k3 ?a4 ?l4 ?e4 ?k4 ?a5 ?l5 ?e5 ?k5 ?a6 ?l6 ?e6 ?k6 ?a7 ?l7 ?e7 ?k7 ?a8 ?l8 ?e8 ?k8 ?a9 ?l9 ?e9 ?k9 ?a10 ?l10 ?e10 ?k10 ?a11 ?l11 ?e11 ?k11 ?a12 ?l12 ?e12 ?k12 ?a13 ?l13 ?e13 ?k13 ?a14 ?l14 ?e14 ?k14 ?a15 ?l15 ?e15 ?k15 ?a16 ?l16 ?e16 ?k16 ?a17 ?l17 ?e17 ?k17 ?a18 ?l18 ?e18 ?k18 ?a19 ?l19 ?e19 ?k19 ?a20 ?l20 ?ld20 ?e20 ?k20 ?a21 ?l21 ?e21 ?k21 ?a22 ?l22 ?e22 ?k22 ?a23 ?l23 ?e23 ?k23 ?a24 ?l24 ?e24 ?k24 ?a25 ?l25 ?e25 ?k25 ?a26 ?l26 ?e26 ?k26 ?a27 ?l27 ?e27 ?k27 ?a28 ?l28 ?e28 ?k28 ?a29 ?l29 ?e29 ?k29 ?a30 ?l30 ?e30 ?k30 ?a31 ?l31 ?e31 ?k31 ?a32 ?l32 ?e32 ?k32 ?a33 ?l33 ?e33 ?k33 ?a34 ?l34 ?e34 ?k34 ?a35 ?l35 ?e35 ?k35 ?a36 ?l36 ?e36 ?k36 ?a37 ?l37 ?e37 ?k37 ?a38 ?l38 ?e38 ?k38 ?a39 ?l39 ?e39 ?k39 ?a40 ?l40 ?e40 ?k40 ?a41 ?l41 ?e41 ?k41 ?a42 ?l42 ?e42 ?k42 ?a43 ?l43 ?e43 ?k43 ?a44 ?l44 ?e44 ?k44 ?pg_Part ?hd_Part ?po_Part ?sa_Part ?na_Part_name ?mk_Part ?mi_Part ?mf_Part ?mp_Part ?ma_Part_ends ?mn_Part_ends ?mq_Part_ends ?ma_Part_lies ?mn_Part_lies ?mq_Part_lies ?ma_Part_bears ?mn_Part_bears ?mq_Part_bears ?pg_Plain ?hd_Plain ?po_Plain ?sa_Plain ?na_Plain_name ?mk_Plain ?mi_Plain ?mf_Plain ?mp_Plain ?ma_Plain_ends ?mn_Plain_ends ?mq_Plain_ends ?ma_Plain_lies ?mn_Plain_lies ?mq_Plain_lies ?ma_Plain_bears ?mn_Plain_bears ?mq_Plain_bears ?pg_Stop ?hd_Stop ?po_Stop ?sa_Stop ?na_Stop_name ?mk_Stop ?mi_Stop ?mf_Stop ?mp_Stop ?ma_Stop_ends ?mn_Stop_ends ?mq_Stop_ends ?ma_Stop_lies ?mn_Stop_lies ?mq_Stop_lies ?ma_Stop_bears ?mn_Stop_bears ?mq_Stop_bears ?pg_Gate ?hd_Gate ?po_Gate ?sa_Gate ?na_Gate_name ?mk_Gate ?mi_Gate ?mf_Gate ?mp_Gate ?ma_Gate_ends ?mn_Gate_ends ?mq_Gate_ends ?ma_Gate_lies ?mn_Gate_lies ?mq_Gate_lies ?ma_Gate_bears ?mn_Gate_bears ?mq_Gate_bears ?pg_Points ?hd_Points ?po_Points ?sa_Points ?na_Points_name ?mk_Points ?mi_Points ?mf_Points ?mp_Points ?ma_Points_ends ?mn_Points_ends ?mq_Points_ends ?ma_Points_lies ?mn_Points_lies ?mq_Points_lies ?ma_Points_bears ?mn_Points_bears ?mq_Points_bears ?pg_Cross ?hd_Cross ?po_Cross ?sa_Cross ?na_Cross_name ?mk_Cross ?mi_Cross ?mf_Cross ?mp_Cross ?ma_Cross_ends ?mn_Cross_ends ?mq_Cross_ends ?ma_Cross_lies ?mn_Cross_lies ?mq_Cross_lies ?ma_Cross_bears ?mn_Cross_bears ?mq_Cross_bears ?pg_Tracks ?hd_Tracks ?po_Tracks ?sa_Tracks ?na_Tracks_part_of ?na_Tracks_joined ?na_Tracks_post_of ?na_Tracks_signal_on ?mk_Tracks ?mi_Tracks ?mf_Tracks ?mp_Tracks ?ma_Tracks_names ?mn_Tracks_names ?mq_Tracks_names ?ma_Tracks_named ?mn_Tracks_named ?mq_Tracks_named ?ma_Tracks_beyond ?mn_Tracks_beyond ?mq_Tracks_beyond ?ma_Tracks_signal_at ?mn_Tracks_signal_at ?mq_Tracks_signal_at ?ma_Tracks_signals ?mn_Tracks_signals ?mq_Tracks_signals ?ma_Tracks_end_of ?mn_Tracks_end_of ?mq_Tracks_end_of ?z_len ?z_range ?z_isinstance ?z_list ?z_dict ?z_tuple ?z_str ?z_enumerate ?z_max ?z_min ?z_sum ?z_sorted ?z_all ?y_kTT ?y_kSS ?y_gPart ?y_gPlain ?y_gStop ?y_gGate ?y_gPoints ?y_gCross ?y_pPart ?y_pPlain ?y_pStop ?y_pGate ?y_pPoints ?y_pCross ?y_kNS ?y_kIS ?y_kLS ?y_kTS ?y_cBB ?y_kBB ?qx_YardError ?qx_BadName ?cc_LETTERS ?cc_FIGURES ?cc_LONGEST_NAME ?cc_MOST_PARTS ?cc_MOST_SIGNALS ?tG ?tK ?tc_Part ?tm_Part ?tc_Plain ?tm_Plain ?tc_Stop ?tm_Stop ?tc_Gate ?tm_Gate ?tc_Points ?tm_Points ?tc_Cross ?tm_Cross
    (case cx_Part=>k_is)
    (case cx_Plain=>k_is)
    (case cx_Stop=>k_is)
    (case cx_Gate=>k_is)
    (case cx_Points=>k_is)
    (case cx_Cross=>k_is)
    (case cx_Tracks=>k_is)
    (case cx_YardError=>k_is)
    (case cx_BadName=>k_is)
    (case a0=>k_is)
    (case l0=>k_is)
    (case e0=>k_is)
    (case k0=>k_is)
    (case a1=>k_is)
    (case l1=>k_is)
    (case e1=>k_is)
    (case k1=>k_is)
    (case a2=>k_is)
    (case l2=>k_is)
    (case e2=>k_is)
    (case k2=>k_is)
    (case a3=>k_is)
    (case l3=>k_is)
    (case e3=>k_is)
    (case k3=>k_is)
    (case a4=>k_is)
    (case l4=>k_is)
    (case e4=>k_is)
    (case k4=>k_is)
    (case a5=>k_is)
    (case l5=>k_is)
    (case e5=>k_is)
    (case k5=>k_is)
    (case a6=>k_is)
    (case l6=>k_is)
    (case e6=>k_is)
    (case k6=>k_is)
    (case a7=>k_is)
    (case l7=>k_is)
    (case e7=>k_is)
    (case k7=>k_is)
    (case a8=>k_is)
    (case l8=>k_is)
    (case e8=>k_is)
    (case k8=>k_is)
    (case a9=>k_is)
    (case l9=>k_is)
    (case e9=>k_is)
    (case k9=>k_is)
    (case a10=>k_is)
    (case l10=>k_is)
    (case e10=>k_is)
    (case k10=>k_is)
    (case a11=>k_is)
    (case l11=>k_is)
    (case e11=>k_is)
    (case k11=>k_is)
    (case a12=>k_is)
    (case l12=>k_is)
    (case e12=>k_is)
    (case k12=>k_is)
    (case a13=>k_is)
    (case l13=>k_is)
    (case e13=>k_is)
    (case k13=>k_is)
    (case a14=>k_is)
    (case l14=>k_is)
    (case e14=>k_is)
    (case k14=>k_is)
    (case a15=>k_is)
    (case l15=>k_is)
    (case e15=>k_is)
    (case k15=>k_is)
    (case a16=>k_is)
    (case l16=>k_is)
    (case e16=>k_is)
    (case k16=>k_is)
    (case a17=>k_is)
    (case l17=>k_is)
    (case e17=>k_is)
    (case k17=>k_is)
    (case a18=>k_is)
    (case l18=>k_is)
    (case e18=>k_is)
    (case k18=>k_is)
    (case a19=>k_is)
    (case l19=>k_is)
    (case e19=>k_is)
    (case k19=>k_is)
    (case a20=>k_is)
    (case l20=>k_is)
    (case ld20=>k_is)
    (case e20=>k_is)
    (case k20=>k_is)
    (case a21=>k_is)
    (case l21=>k_is)
    (case e21=>k_is)
    (case k21=>k_is)
    (case a22=>k_is)
    (case l22=>k_is)
    (case e22=>k_is)
    (case k22=>k_is)
    (case a23=>k_is)
    (case l23=>k_is)
    (case e23=>k_is)
    (case k23=>k_is)
    (case a24=>k_is)
    (case l24=>k_is)
    (case e24=>k_is)
    (case k24=>k_is)
    (case a25=>k_is)
    (case l25=>k_is)
    (case e25=>k_is)
    (case k25=>k_is)
    (case a26=>k_is)
    (case l26=>k_is)
    (case e26=>k_is)
    (case k26=>k_is)
    (case a27=>k_is)
    (case l27=>k_is)
    (case e27=>k_is)
    (case k27=>k_is)
    (case a28=>k_is)
    (case l28=>k_is)
    (case e28=>k_is)
    (case k28=>k_is)
    (case a29=>k_is)
    (case l29=>k_is)
    (case e29=>k_is)
    (case k29=>k_is)
    (case a30=>k_is)
    (case l30=>k_is)
    (case e30=>k_is)
    (case k30=>k_is)
    (case a31=>k_is)
    (case l31=>k_is)
    (case e31=>k_is)
    (case k31=>k_is)
    (case a32=>k_is)
    (case l32=>k_is)
    (case e32=>k_is)
    (case k32=>k_is)
    (case a33=>k_is)
    (case l33=>k_is)
    (case e33=>k_is)
    (case k33=>k_is)
    (case a34=>k_is)
    (case l34=>k_is)
    (case e34=>k_is)
    (case k34=>k_is)
    (case a35=>k_is)
    (case l35=>k_is)
    (case e35=>k_is)
    (case k35=>k_is)
    (case a36=>k_is)
    (case l36=>k_is)
    (case e36=>k_is)
    (case k36=>k_is)
    (case a37=>k_is)
    (case l37=>k_is)
    (case e37=>k_is)
    (case k37=>k_is)
    (case a38=>k_is)
    (case l38=>k_is)
    (case e38=>k_is)
    (case k38=>k_is)
    (case a39=>k_is)
    (case l39=>k_is)
    (case e39=>k_is)
    (case k39=>k_is)
    (case a40=>k_is)
    (case l40=>k_is)
    (case e40=>k_is)
    (case k40=>k_is)
    (case a41=>k_is)
    (case l41=>k_is)
    (case e41=>k_is)
    (case k41=>k_is)
    (case a42=>k_is)
    (case l42=>k_is)
    (case e42=>k_is)
    (case k42=>k_is)
    (case a43=>k_is)
    (case l43=>k_is)
    (case e43=>k_is)
    (case k43=>k_is)
    (case a44=>k_is)
    (case l44=>k_is)
    (case e44=>k_is)
    (case k44=>k_is)
    (case pg_Part=>k_is)
    (case hd_Part=>k_is)
    (case po_Part=>k_is)
    (case sa_Part=>k_is)
    (case na_Part_name=>k_is)
    (case mk_Part=>k_is)
    (case mi_Part=>k_is)
    (case mf_Part=>k_is)
    (case mp_Part=>k_is)
    (case ma_Part_ends=>k_is)
    (case mn_Part_ends=>k_is)
    (case mq_Part_ends=>k_is)
    (case ma_Part_lies=>k_is)
    (case mn_Part_lies=>k_is)
    (case mq_Part_lies=>k_is)
    (case ma_Part_bears=>k_is)
    (case mn_Part_bears=>k_is)
    (case mq_Part_bears=>k_is)
    (case pg_Plain=>k_is)
    (case hd_Plain=>k_is)
    (case po_Plain=>k_is)
    (case sa_Plain=>k_is)
    (case na_Plain_name=>k_is)
    (case mk_Plain=>k_is)
    (case mi_Plain=>k_is)
    (case mf_Plain=>k_is)
    (case mp_Plain=>k_is)
    (case ma_Plain_ends=>k_is)
    (case mn_Plain_ends=>k_is)
    (case mq_Plain_ends=>k_is)
    (case ma_Plain_lies=>k_is)
    (case mn_Plain_lies=>k_is)
    (case mq_Plain_lies=>k_is)
    (case ma_Plain_bears=>k_is)
    (case mn_Plain_bears=>k_is)
    (case mq_Plain_bears=>k_is)
    (case pg_Stop=>k_is)
    (case hd_Stop=>k_is)
    (case po_Stop=>k_is)
    (case sa_Stop=>k_is)
    (case na_Stop_name=>k_is)
    (case mk_Stop=>k_is)
    (case mi_Stop=>k_is)
    (case mf_Stop=>k_is)
    (case mp_Stop=>k_is)
    (case ma_Stop_ends=>k_is)
    (case mn_Stop_ends=>k_is)
    (case mq_Stop_ends=>k_is)
    (case ma_Stop_lies=>k_is)
    (case mn_Stop_lies=>k_is)
    (case mq_Stop_lies=>k_is)
    (case ma_Stop_bears=>k_is)
    (case mn_Stop_bears=>k_is)
    (case mq_Stop_bears=>k_is)
    (case pg_Gate=>k_is)
    (case hd_Gate=>k_is)
    (case po_Gate=>k_is)
    (case sa_Gate=>k_is)
    (case na_Gate_name=>k_is)
    (case mk_Gate=>k_is)
    (case mi_Gate=>k_is)
    (case mf_Gate=>k_is)
    (case mp_Gate=>k_is)
    (case ma_Gate_ends=>k_is)
    (case mn_Gate_ends=>k_is)
    (case mq_Gate_ends=>k_is)
    (case ma_Gate_lies=>k_is)
    (case mn_Gate_lies=>k_is)
    (case mq_Gate_lies=>k_is)
    (case ma_Gate_bears=>k_is)
    (case mn_Gate_bears=>k_is)
    (case mq_Gate_bears=>k_is)
    (case pg_Points=>k_is)
    (case hd_Points=>k_is)
    (case po_Points=>k_is)
    (case sa_Points=>k_is)
    (case na_Points_name=>k_is)
    (case mk_Points=>k_is)
    (case mi_Points=>k_is)
    (case mf_Points=>k_is)
    (case mp_Points=>k_is)
    (case ma_Points_ends=>k_is)
    (case mn_Points_ends=>k_is)
    (case mq_Points_ends=>k_is)
    (case ma_Points_lies=>k_is)
    (case mn_Points_lies=>k_is)
    (case mq_Points_lies=>k_is)
    (case ma_Points_bears=>k_is)
    (case mn_Points_bears=>k_is)
    (case mq_Points_bears=>k_is)
    (case pg_Cross=>k_is)
    (case hd_Cross=>k_is)
    (case po_Cross=>k_is)
    (case sa_Cross=>k_is)
    (case na_Cross_name=>k_is)
    (case mk_Cross=>k_is)
    (case mi_Cross=>k_is)
    (case mf_Cross=>k_is)
    (case mp_Cross=>k_is)
    (case ma_Cross_ends=>k_is)
    (case mn_Cross_ends=>k_is)
    (case mq_Cross_ends=>k_is)
    (case ma_Cross_lies=>k_is)
    (case mn_Cross_lies=>k_is)
    (case mq_Cross_lies=>k_is)
    (case ma_Cross_bears=>k_is)
    (case mn_Cross_bears=>k_is)
    (case mq_Cross_bears=>k_is)
    (case pg_Tracks=>k_is)
    (case hd_Tracks=>k_is)
    (case po_Tracks=>k_is)
    (case sa_Tracks=>k_is)
    (case na_Tracks_part_of=>k_is)
    (case na_Tracks_joined=>k_is)
    (case na_Tracks_post_of=>k_is)
    (case na_Tracks_signal_on=>k_is)
    (case mk_Tracks=>k_is)
    (case mi_Tracks=>k_is)
    (case mf_Tracks=>k_is)
    (case mp_Tracks=>k_is)
    (case ma_Tracks_names=>k_is)
    (case mn_Tracks_names=>k_is)
    (case mq_Tracks_names=>k_is)
    (case ma_Tracks_named=>k_is)
    (case mn_Tracks_named=>k_is)
    (case mq_Tracks_named=>k_is)
    (case ma_Tracks_beyond=>k_is)
    (case mn_Tracks_beyond=>k_is)
    (case mq_Tracks_beyond=>k_is)
    (case ma_Tracks_signal_at=>k_is)
    (case mn_Tracks_signal_at=>k_is)
    (case mq_Tracks_signal_at=>k_is)
    (case ma_Tracks_signals=>k_is)
    (case mn_Tracks_signals=>k_is)
    (case mq_Tracks_signals=>k_is)
    (case ma_Tracks_end_of=>k_is)
    (case mn_Tracks_end_of=>k_is)
    (case mq_Tracks_end_of=>k_is)
    (case z_len=>k_is)
    (case z_range=>k_is)
    (case z_isinstance=>k_is)
    (case z_list=>k_is)
    (case z_dict=>k_is)
    (case z_tuple=>k_is)
    (case z_str=>k_is)
    (case z_enumerate=>k_is)
    (case z_max=>k_is)
    (case z_min=>k_is)
    (case z_sum=>k_is)
    (case z_sorted=>k_is)
    (case z_all=>k_is)
    (case y_kTT=>kit_is)
    (case y_kSS=>kit_is)
    (case y_gPart=>kit_is)
    (case y_gPlain=>kit_is)
    (case y_gStop=>kit_is)
    (case y_gGate=>kit_is)
    (case y_gPoints=>kit_is)
    (case y_gCross=>kit_is)
    (case y_pPart=>kit_is)
    (case y_pPlain=>kit_is)
    (case y_pStop=>kit_is)
    (case y_pGate=>kit_is)
    (case y_pPoints=>kit_is)
    (case y_pCross=>kit_is)
    (case y_kNS=>kit_is)
    (case y_kIS=>kit_is)
    (case y_kLS=>kit_is)
    (case y_kTS=>kit_is)
    (case y_cBB=>kernel_rfl)
    (case y_kBB=>kit_is)
    (case qx_YardError=>k_exc)
    (case qx_BadName=>k_exc)
    (case cc_LETTERS=>k_is)
    (case cc_FIGURES=>k_is)
    (case cc_LONGEST_NAME=>k_is)
    (case cc_MOST_PARTS=>k_is)
    (case cc_MOST_SIGNALS=>k_is)
    (case tG=>k_is)
    (case tK=>k_is)
    (case tc_Part=>k_is)
    (case tm_Part=>k_is)
    (case tc_Plain=>k_is)
    (case tm_Plain=>k_is)
    (case tc_Stop=>k_is)
    (case tm_Stop=>k_is)
    (case tc_Gate=>k_is)
    (case tm_Gate=>k_is)
    (case tc_Points=>k_is)
    (case tm_Points=>k_is)
    (case tc_Cross=>k_is)
    (case tm_Cross=>k_is)
