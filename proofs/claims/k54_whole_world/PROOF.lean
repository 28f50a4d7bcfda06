import PyProof.Rows.All
import Wide.All
import OpenK.AllK
import PySem.Challenge.RW_yardkeep_k54_whole_world
set_option Elab.async false
set_option linter.all false
set_option maxRecDepth 100000
set_option maxHeartbeats 4000000
local macro_rules|`(tactic|trivial)=>`(tactic|decide +kernel)
open PySem.W (Frag kitOne keepIn findIn nsIn mg_of fnOf codeIn)
namespace L2
open PySem PySem.Spec PyProof.Rows
abbrev Key:=Sum Int Str
def Zi1:Key->Value->Bool
 | .inl k,v=>Value.isInt k v
 | .inr x,v=>Value.isStrOf x v
def Yc2(w:World):Key->Int
 | .inl k=>hashInt k
 | .inr x=>hashStr w x
theorem Xi:∀{k:Key} {v:Value},Zi1 k v=true->(∃i t,k=Sum.inl i/\v=Value.int i t)\/(∃x t,k=Sum.inr x/\v=Value.str x t)
 | .inl i,v,h=>by
  obtain ⟨t,e⟩:=Value.isInt_shape (k:=i) (v:=v) h;exact .inl ⟨i,t,rfl,e⟩
 | .inr x,v,h=>by
  obtain ⟨t,e⟩:=Value.isStrOf_shape (x:=x) (v:=v) h;exact .inr ⟨x,t,rfl,e⟩
theorem Zta(i:Int)(t:Tok):Zi1 (.inl i) (.int i t)=true:=by simp [Zi1,Value.isInt]
theorem Zua(x:Str)(t:Tok):Zi1 (.inr x) (.str x t)=true:=by simp [Zi1,Value.isStrOf]
theorem Zz0(a b:Int):decide ((Sum.inl a:Key)=Sum.inl b)=(a ==b):=by
 by_cases e:a=b
 ·subst e;simp
 ·have h:¬(Sum.inl a:Key)=Sum.inl b:=fun q=>e (Sum.inl.inj q)
  rw [decide_eq_false h];exact (beq_eq_false_iff_ne.mpr e).symm
theorem Yas(a b:Str):decide ((Sum.inr a:Key)=Sum.inr b)=decide (a=b):=by
 by_cases e:a=b
 ·subst e;simp
 ·have h:¬(Sum.inr a:Key)=Sum.inr b:=fun q=>e (Sum.inr.inj q)
  rw [decide_eq_false h,decide_eq_false e]
theorem Yai(a:Int)(b:Str):decide ((Sum.inl a:Key)=Sum.inr b)=false:=decide_eq_false (fun q=>nomatch q)
theorem Zzc(a:Str)(b:Int):decide ((Sum.inr a:Key)=Sum.inl b)=false:=decide_eq_false (fun q=>nomatch q)
def Z0(prog:Program)(w:World):PySem.KeyKind prog w Key where
 is:=Zi1
 hash:=Yc2 w
 inj:=fun v a b ha hb=>by
  rcases Xi ha with ⟨i,t,rfl,rfl⟩|⟨x,t,rfl,rfl⟩
  ·rcases Xi hb with ⟨j,u,rfl,e⟩|⟨y,u,rfl,e⟩
   ·injection e with e1 _;rw [e1]
   ·exact nomatch e
  ·rcases Xi hb with ⟨j,u,rfl,e⟩|⟨y,u,rfl,e⟩
   ·exact nomatch e
   ·injection e with e1 _;rw [e1]
 byValue:=fun k v h=>by
  rcases Xi h with ⟨i,t,rfl,rfl⟩|⟨x,t,rfl,rfl⟩ <;>rfl
 pyHash:=fun hv h=>by
  rcases Xi hv with ⟨i,t,rfl,rfl⟩|⟨x,t,rfl,rfl⟩
  ·exact wpAny_pyHash_int h
  ·exact wpAny_pyHash_str h
 eqBool:=fun hu hv h=>by
  rcases Xi hu with ⟨i,t,rfl,rfl⟩|⟨x,t,rfl,rfl⟩
  ·rcases Xi hv with ⟨j,u,rfl,rfl⟩|⟨y,u,rfl,rfl⟩
   ·rw [Zz0] at h;exact wpAny_eqBool_int h
   ·rw [Yai] at h;exact SeqAt.EqAt.int_str i t y u _ _ _ _ h
  ·rcases Xi hv with ⟨j,u,rfl,rfl⟩|⟨y,u,rfl,rfl⟩
   ·rw [Zzc] at h;exact SeqAt.EqAt.str_int x t j u _ _ _ _ h
   ·rw [Yas] at h;exact wpAny_eqBool_str h
 «strs» :=fun k x t v h=>by
  rcases Xi h with ⟨i,u,rfl,e⟩|⟨y,u,rfl,e⟩
  ·exact nomatch e
  ·injection e with e1 _
   subst e1;cases v <;>rfl
theorem Zp4(prog:Program)(w:World)(i:Int)(t:Tok):(Z0 prog w).is (.inl i) (.int i t)=true:=Zta i t
theorem Zp5(prog:Program)(w:World)(x:Str)(t:Tok):(Z0 prog w).is (.inr x) (.str x t)=true:=Zua x t
end L2
namespace L2
open PySem PySem.Spec PyProof.Rows
inductive V where
 | non | bl (b:Bool) | int (i:Int) | str (x:Str) | byt (b:Array UInt8) | flt (b:UInt64) | ref (a:Addr) | ty (n:String)
 deriving DecidableEq
def Yj:V->Value->Prop
 | .non,u=>u=Value.none
 | .bl b,u=>u=Value.bool b
 | .int i,u=>∃t,u=Value.int i t
 | .str x,u=>∃t,u=Value.str x t
 | .byt b,u=>∃t,u=Value.bytes b t
 | .flt b,u=>∃t,u=Value.float b t
 | .ref a,u=>u=Value.ref a
 | .ty n,u=>u=Value.type n
abbrev Yc:List V->List Value->Prop:=Paired Yj
theorem Yc.length(r:Yc xs us):xs.length=us.length:=Paired.length r
theorem Yc.get:∀{xs:List V} {us:List Value} {i:Nat} {x:V},Yc xs us->xs[i]? =some x->∃u,us[i]? =some u/\Yj x u
 | _,_,_,_,.nil,e=>by simp at e
 | _,_,0,_,.cons r _,e=>by simp at e;subst e;exact ⟨_,rfl,r⟩
 | _,_,i+1,x,.cons _ t,e=>by
  obtain ⟨u,h1,h2⟩:=Yc.get (i:=i) (x:=x) t (by simpa using e);exact ⟨u,by simpa using h1,h2⟩
theorem Yc.set(r:Yj x u):∀{xs:List V} {us:List Value} (i:Nat),Yc xs us->Yc (xs.set i x) (us.set i u)
 | _,_,_,.nil=>.nil
 | _,_,0,.cons _ t=>.cons r t
 | _,_,i+1,.cons q t=>.cons q (Yc.set r i t)
theorem Yc.append:∀{xs ys:List V} {us ws:List Value},Yc xs us->Yc ys ws->Yc (xs++ys) (us++ws)
 | _,_,_,_,.nil,s=>s
 | _,_,_,_,.cons r t,s=>.cons r (Yc.append t s)
theorem Yc.take:∀{xs:List V} {us:List Value} (n:Nat),Yc xs us->Yc (xs.take n) (us.take n)
 | _,_,0,_=>.nil
 | _,_,_+1,.nil=>.nil
 | _,_,n+1,.cons r t=>.cons r (Yc.take n t)
theorem Yc.drop:∀{xs:List V} {us:List Value} (n:Nat),Yc xs us->Yc (xs.drop n) (us.drop n)
 | _,_,0,r=>r
 | _,_,_+1,.nil=>.nil
 | _,_,n+1,.cons _ t=>Yc.drop n t
def Zdh:Option V->Option Value->Prop
 | some v,some u=>Yj v u
 | none,none=>True
 | _,_=>False
def KV{κ:Type}:List (κ×V)->List (κ×Value)->Prop:=Paired fun (p:κ×V) (q:κ×Value)=>p.1=q.1/\Yj p.2 q.2
def kV:Key->V
 | .inl i=>.int i
 | .inr x=>.str x
inductive HO where
  | lst (xs:List V)
  | tup (xs:List V)
  | dK (kvs:List (Key×V)) | dT (kvs:List (List Key×V))
  | set (S:Int->Bool) (n:Nat)
  | ins (C dx:Addr) (fs:List (Str×V))
  | own (x:Addr)
  | xd (fs:List (Str×V))
  | met (f x:Addr)
  | rng (lo hi:Int)
  | frz (o:Obj) (u:HO)
  | tbl (ps:Array Value)
  | ext (φ:Heap->Prop)
abbrev Hp:=Addr->Option HO
def upd(H:Hp)(a:Addr)(o:HO):Hp:=fun b=>if b=a then some o else H b
theorem Zf  :upd H a o a=some o:=by unfold upd;rw [if_pos rfl]
theorem Ze(h:b≠a):upd H a o b=H b:=by unfold upd;rw [if_neg h]
theorem Zyw{H:Hp}{a b:Addr}{o u:HO}(h:H a=some o)(h':H b=some u)(d:o≠u):a≠b:=by
 intro e;subst e;rw [h] at h';exact d (Option.some.inj h')
theorem Zh{H:Hp}{a b:Addr}{o:HO}(h:H a=some o)(h':H b=none):a≠b:=by
 intro e;subst e;rw [h] at h';cases h'
def Zbt(ls:List (Nat×Nat×Str)):Array Value:=(ls.flatMap fun p=>[rawInt p.1,rawInt p.2.1,.str p.2.2 0]).toArray
def Zb0(fs:List (Nat×Nat×Str×Addr)):Array Value:=(fs.flatMap fun f=>[rawInt f.1,rawInt f.2.1,.ref f.2.2.2]).toArray
theorem Zkx{m n:Nat}(h:rawInt m=rawInt n):m=n:=by
 unfold rawInt at h
 injection h with h
 lia
theorem Zvn:∀{ls ms:List (Nat×Nat×Str)},Zbt ls=Zbt ms->ls=ms:=by
 intro ls ms h;have h:(ls.flatMap fun p=>[rawInt p.1,rawInt p.2.1,Value.str p.2.2 0])=ms.flatMap fun p=>[rawInt p.1,rawInt p.2.1,Value.str p.2.2 0]:=by
  unfold Zbt at h;simpa using h
 induction ls generalizing ms with
 | nil=>cases ms with
  | nil=>rfl
  | cons m r=>simp at h
 | cons l r ih=>cases ms with
  | nil=>simp at h
  | cons m r2 =>
   simp only [List.flatMap_cons,List.cons_append,List.nil_append,List.cons.injEq] at h;obtain ⟨h1,h2,h3,h4⟩:=h;obtain ⟨l1,l2,l3⟩:=l;obtain ⟨m1,m2,m3⟩:=m;have e1:l1=m1:=Zkx h1;have e2:l2=m2:=Zkx h2;have e3:l3=m3:=by injection h3
   have e4:r=r2:=by first | exact ih (congrArg List.toArray h4) h4 | exact ih (congrArg List.toArray h4)
   rw [e1,e2,e3,e4]
theorem Zes:∀fs:List (Nat×Nat×Str×Addr),TriplesOk (Zb0 fs).toList
 | []=>trivial
 | f ::fs=>by
  have:=Zes fs;unfold Zb0 at this ⊢;simpa [TriplesOk,rawInt] using this
theorem Zlf  :∀{fs:List (Nat×Nat×Str×Addr)},codeAmong pos (Zb0 fs).toList=some cv->∃f∈fs,cv=.ref f.2.2.2/\f.1=pos.line/\f.2.1=pos.col
 | [],h=>by simp [Zb0,codeAmong] at h
 | f ::fs,h=>by
  have e:(Zb0 (f ::fs)).toList=rawInt f.1 ::rawInt f.2.1 ::Value.ref f.2.2.2 ::(Zb0 fs).toList:=by simp [Zb0]
  rw [e] at h;have h:(if ((f.1:Int) ==(pos.line:Int) && (f.2.1:Int) ==(pos.col:Int))=true then some (Value.ref f.2.2.2) else codeAmong pos (Zb0 fs).toList)=some cv:=h;split at h
  ·rename_i z;simp only [Bool.and_eq_true,beq_iff_eq] at z;exact ⟨f,List.mem_cons_self,(Option.some.inj h).symm,by lia,by lia⟩
  ·obtain ⟨g,hg,r⟩:=Zlf h;exact ⟨g,List.mem_cons_of_mem _ hg,r⟩
theorem Zt2(fs:List (Nat×Nat×Str×Addr))(f:Nat×Nat×Str×Addr):Zb0 (fs++[f])=Zb0 fs ++ #[rawInt f.1,rawInt f.2.1,.ref f.2.2.2]:=by
 unfold Zb0;simp
section
variable (P:Program) (w:World)
def Yr(H:Hp)(h:Heap)(a:Addr):HO->Prop
 | .lst xs=>xs.length<=sizeLine/\∃(a7:List Value) (n:Nat),Yc xs a7/\h.get? a=some { cls:=.type "list",data:=.seq a7.toArray n }
 | .tup xs=>xs.length<=sizeLine/\∃a7:List Value,Yc xs a7/\IsTup h a a7.toArray
 | .dK kvs=>kvs.length<=sizeLine/\(a ==sysModules)=false/\∃vs,KV kvs vs/\h.DictOf (Z0 P w) a vs
 | .dT kvs=>kvs.length<=sizeLine/\(a ==sysModules)=false/\∃xs:List (List Key×Addr×Value),
   Paired (fun (p:List Key×V) (q:List Key×Addr×Value)=>p.1=q.1/\H q.2.1=some (.tup (p.1.map kV))/\Yj p.2 q.2.2) kvs xs /\
   ∃o es ep,h.get? a=some o/\o.ExactDict/\o.data=.dict es ep/\es.toList=xs.map (entryOfKey (tupleKind (Z0 P w)))/\(xs.map (·.1)).Nodup
 | .set S n=>h.SetOf (intKind P w) a S n
 | .ins C dx fs=>H dx=some (.own a)/\fs.length<=1000/\dx≠a/\h.get? a=some (PySem.W.instObj C dx) /\
   ∃mA,h.Ns1 dx mA/\(∀f,Zdh (fs.lookup f) (mA f))/\PySem.Within mA (fs.map (·.1))
 | .own _=>∃o,h.get? a=some o
 | .xd fs=>∃mA,h.Ns1 a mA/\∀f,Zdh (fs.lookup f) (mA f)
 | .rng lo hi=>∃t u v,h.get? a=some { cls:=.type "range",data:=.fields #[.int lo t,.int hi u,.int 1 v] }
 | .frz o u=>h.get? a=some o/\Yr H h a u
 | .tbl ps=>∃(ls:List (Nat×Nat×Str)) (fs:List (Nat×Nat×Str×Addr)),ps=Zbt ls/\(ls.map fun p=>(p.1,p.2.1)).Nodup/\h.get? a=some { cls:=.none,data:=.fields (Zb0 fs) } /\
   ∀f∈fs,((f.1,f.2.1,f.2.2.1):Nat×Nat×Str)∈ls/\∃(oc:Obj) (vs:Array Value) (tt:Nat),H f.2.2.2=some (.frz oc (.own a))/\oc.data=.fields vs/\vs[1]? =some (.str f.2.2.1 tt)
 | .met f x=>h.get? a=some (PySem.W.methodObj (.ref f) (.ref x))
 | .ext φ=>φ h/\(∃o,h.get? a=some o)/\∀h1 h2:Heap,φ h1->(∀o,h1.get? a=some o->h2.get? a=some o)->φ h2
def HOk(H:Hp)(h:Heap):Prop:=∀a o,H a=some o->Yr P w H h a o
end
section
variable {P:Program} {w:World} {H H':Hp} {h h':Heap} {a:Addr} {o:HO}
theorem Yr.lt(x:Yr P w H h a o):a<h.objs.size:=by
 cases o with
 | lst xs=>obtain ⟨_,_,_,_,e⟩:=x;exact Heap.lt_size e
 | tup xs=>obtain ⟨_,_,_,p⟩:=x;exact p.lt
 | dK kvs=>obtain ⟨_,_,_,_,o,_,_,e,_⟩:=x;exact Heap.lt_size e
 | dT kvs=>obtain ⟨_,_,_,_,o,_,_,e,_⟩:=x;exact Heap.lt_size e
 | set S n=>obtain ⟨o,_,_,_,e,_⟩:=x;exact Heap.lt_size e
 | ins C dx fs=>obtain ⟨_,_,_,e,_⟩:=x;exact Heap.lt_size e
 | own y=>obtain ⟨_,e⟩:=x;exact Heap.lt_size e
 | xd fs=>obtain ⟨_,⟨_,_,_,e,_⟩,_⟩:=x;exact Heap.lt_size e
 | rng lo hi=>obtain ⟨_,_,_,e⟩:=x;exact Heap.lt_size e
 | frz ob u=>obtain ⟨e,_⟩:=x;exact Heap.lt_size e
 | tbl ps =>
  obtain ⟨_,_,_,_,e,_⟩:=x;exact Heap.lt_size e
 | met f y=>exact Heap.lt_size (show h.get? a=some _ from x)
 | ext φ=>obtain ⟨_,⟨_,e⟩,_⟩:=x;exact Heap.lt_size e
theorem Paired.mapP{α β:Type}{F G:α->β->Prop}:∀{l₁:List α} {l₂:List β},Paired F l₁ l₂->(∀a b,F a b->G a b)->Paired G l₁ l₂
 | _,_,.nil,_=>.nil
 | _,_,.cons r t,f=>.cons (f _ _ r) (Paired.mapP t f)
theorem Yr.stay(x:Yr P w H h a o)(k:∀b u,(b=a\/H b=some (.own a))->h.get? b=some u->h'.get? b=some u)
  (ho:∀b,H b=some (.own a)->H' b=some (.own a)) (ht:∀b xs,H b=some (.tup xs)->H' b=some (.tup xs))
  (hz:∀b o,H b=some (.frz o (.own a))->H' b=some (.frz o (.own a)):=by first | exact fun _ _ q=>q | (intro b o q;rw [Ze (Zh q (by assumption))];exact q)):Yr P w H' h' a o:=by
 induction o with
 | lst xs=>obtain ⟨z,a7,n,r,e⟩:=x;exact ⟨z,a7,n,r,k _ _ (.inl rfl) e⟩
 | tup xs=>obtain ⟨z,a7,r,ob,e,c⟩:=x;exact ⟨z,a7,r,ob,k _ _ (.inl rfl) e,c⟩
 | dK kvs=>obtain ⟨z,y,vs,r,ob,es,ep,e,c⟩:=x;exact ⟨z,y,vs,r,ob,es,ep,k _ _ (.inl rfl) e,c⟩
 | dT kvs =>
  obtain ⟨z,y,xs,r,ob,es,ep,e,c⟩:=x;exact ⟨z,y,xs,Paired.mapP r fun p q z=>⟨z.1,ht _ _ z.2.1,z.2.2⟩,ob,es,ep,k _ _ (.inl rfl) e,c⟩
 | set S n=>obtain ⟨ob,es,ep,t,e,c⟩:=x;exact ⟨ob,es,ep,t,k _ _ (.inl rfl) e,c⟩
 | ins C dx fs =>
  obtain ⟨d,z,ne,e,mA,⟨od,es,ep,e2,c⟩,r⟩:=x;exact ⟨ho _ d,z,ne,k _ _ (.inl rfl) e,mA,⟨od,es,ep,k _ _ (.inr d) e2,c⟩,r⟩
 | own y=>obtain ⟨ob,e⟩:=x;exact ⟨ob,k _ _ (.inl rfl) e⟩
 | xd fs=>obtain ⟨mA,⟨od,es,ep,e,c⟩,r⟩:=x;exact ⟨mA,⟨od,es,ep,k _ _ (.inl rfl) e,c⟩,r⟩
 | rng lo hi=>obtain ⟨t,u,v,e⟩:=x;exact ⟨t,u,v,k _ _ (.inl rfl) e⟩
 | frz ob u ih=>obtain ⟨e,q⟩:=x;exact ⟨k _ _ (.inl rfl) e,ih q⟩
 | tbl ps =>
  obtain ⟨ls,fs,e1,e2,e,q⟩:=x;exact ⟨ls,fs,e1,e2,k a _ (.inl rfl) e,fun f hf=>let ⟨z1,oc,vs,tt,f1,f2,f3⟩:=q f hf;⟨z1,oc,vs,tt,hz _ _ f1,f2,f3⟩⟩
 | met f y =>
  have e:h.get? a=some (PySem.W.methodObj (.ref f) (.ref y)):=x;show h'.get? a=some (PySem.W.methodObj (.ref f) (.ref y));exact k a _ (.inl rfl) e
 | ext φ=>obtain ⟨p,⟨o,e⟩,st⟩:=x;exact ⟨st _ _ p fun o q=>k _ _ (.inl rfl) q,⟨o,k _ _ (.inl rfl) e⟩,st⟩
theorem HOk.lt(x:HOk P w H h)(e:H a=some o):a<h.objs.size:=(x a o e).lt
theorem HOk.fresh(x:HOk P w H h)(e:h.objs.size<=a):H a=none:=by
 cases q:H a with
 | none=>rfl
 | some u=>exact absurd (Nat.lt_of_lt_of_le (x.lt q) e) (Nat.lt_irrefl _)
theorem HOk.kept(x:HOk P w H h)(k:∀b u,h.get? b=some u->h'.get? b=some u):HOk P w H h':=fun a o e =>
 (x a o e).stay (fun b u _ q=>k b u q) (fun _ q=>q) fun _ _ q=>q
theorem HOk.laid(x:HOk P w H h)(k:∀b u,h.get? b=some u->h'.get? b=some u)(hp:h.objs.size<=a)(new:Yr P w (upd H a o) h' a o):HOk P w (upd H a o) h':=fun b u e=>by
 have hn:=x.fresh hp
 by_cases hb:b=a
 ·subst hb;rw [Zf] at e;cases e;exact new
 ·rw [Ze hb] at e;exact (x b u e).stay (fun c v _ q=>k c v q) (fun c q=>by rw [Ze (Zh q hn)];exact q) fun c xs q=>by rw [Ze (Zh q hn)];exact q
end
def Rd(H:Hp)(a:Addr)(u:HO):Prop:=H a=some u\/∃o,H a=some (.frz o u)
theorem Rd.ok(r:Rd H a u)(x:HOk P w H h):Yr P w H h a u:=by
 rcases r with r|⟨o,r⟩
 ·exact x a u r
 ·obtain ⟨_,q⟩:=x a _ r;exact q
def Mut:Option HO->Prop
 | some (.lst _)=>True
 | some (.dK _)=>True
 | some (.dT _)=>True
 | some (.set _ _)=>True
 | some (.ins _ _ _)=>True
 | some (.ext _)=>True
 | _=>False
section
variable {P:Program} {w:World} {H:Hp} {h h':Heap} {x e:Addr} {o':HO}
theorem HOk.write(ok:HOk P w H h)(mu:Mut (H x))(he:e=x\/H e=some (.own x))(k:∀b u,b≠e->h.get? b=some u->h'.get? b=some u)(heo:∃u,h'.get? e=some u)
  (new:Yr P w (upd H x o') h' x o'):HOk P w (upd H x o') h':=fun b u q=>by
 have nown:∀c y,H c=some (.own y)->c≠x:=fun c y r z=>by subst z;rw [r] at mu;exact mu
 have ntup:∀c xs,H c=some (.tup xs)->c≠x:=fun c xs r z=>by subst z;rw [r] at mu;exact mu
 have nfrz:∀c o y,H c=some (.frz o (.own y))->c≠x:=fun c o y r z=>by subst z;rw [r] at mu;exact mu
 by_cases hb:b=x
 ·subst hb;rw [Zf] at q;cases q;exact new
 ·rw [Ze hb] at q
  by_cases hbe:b=e
  ·have q':H b=some (.own x):=by
    rcases he with z|z
    ·exact absurd (hbe.trans z) hb
    ·rw [hbe];exact z
   rw [q] at q';cases q';obtain ⟨v,hv⟩:=heo;exact ⟨v,by rw [hbe];exact hv⟩
  ·refine (ok b u q).stay (fun c v hc r=>k c v ?_ r) (fun c r=>by rw [Ze (nown c b r)];exact r) (fun c xs r=>by rw [Ze (ntup c xs r)];exact r) (fun c o r=>by rw [Ze (nfrz c o b r)];exact r);rcases hc with rfl|hc
   ·exact hbe
   ·rintro rfl;rcases he with z|z
    ·exact nown c b hc z
    ·rw [hc] at z;cases z;exact hb rfl
end
structure Un(fs ex:List Addr)(H H':Hp)(h h':Heap):Prop where
 keep:∀b o,h.get? b=some o->H b=none->b∉fs->b∉ex->h'.get? b=some o
 slot:∀b o,h.get? b=some o->H b=none->b∈fs->b∉ex->∃sl,h'.get? b=some { o with slots:=sl }
 free:∀b o,h.get? b=some o->H b=none->b∉ex->H' b=none
 there:∀b o,h.get? b=some o->b∉ex->∃o',h'.get? b=some o'
 tups:∀b xs,H b=some (.tup xs)->H' b=some (.tup xs)
 frzs:∀b o u,H b=some (.frz o u)->H' b=some (.frz o u)
 tbls:∀b ps,H b=some (.tbl ps)->∃more,H' b=some (.tbl (ps++more))
section
variable {fs fs' ex ex':List Addr} {H H1 H2:Hp} {h h1 h2 h':Heap} {a x e:Addr} {o:HO}
theorem Un.any(u:Un fs ex H H1 h h1)(q:h.get? b=some ob)(n:H b=none)(hx:b∉ex):∃sl,h1.get? b=some { ob with slots:=sl }:=by
 by_cases hb:b∈fs
 ·exact u.slot b ob q n hb hx
 ·exact ⟨ob.slots,u.keep b ob q n hb hx⟩
theorem Un.kept(k:∀b u,h.get? b=some u->h'.get? b=some u):Un fs ex H H h h' :=
 ⟨fun b ob q _ _ _=>k b ob q,fun b ob q _ _ _=>⟨ob.slots,k b ob q⟩,fun _ _ _ n _=>n,fun b ob q _=>⟨ob,k b ob q⟩,fun _ _ q=>q,fun _ _ _ q=>q,fun _ ps q=>⟨#[],by rw [q];simp⟩⟩
theorem Un.refl:Un fs ex H H h h:=Un.kept fun _ _ q=>q
theorem Un.laid(k:∀b u,h.get? b=some u->h'.get? b=some u)(hp:h.objs.size<=a)(hn:H a=none):Un fs ex H (upd H a o) h h' where
 keep:=fun b u q _ _ _=>k b u q
 slot:=fun b u q _ _ _=>⟨u.slots,k b u q⟩
 free:=fun b u q n _=>by rw [Ze (Nat.ne_of_lt (Nat.lt_of_lt_of_le (Heap.lt_size q) hp))];exact n
 there:=fun b u q _=>⟨u,k b u q⟩
 tups:=fun b xs q=>by rw [Ze (Zh q hn)];exact q
 frzs:=fun b u xs q=>by rw [Ze (Zh q hn)];exact q
 tbls:=fun b ps q=>⟨#[],by rw [Ze (Zh q hn),q];simp⟩
theorem Un.write(mu:Mut (H x))(he:e=x\/H e=some (.own x))(k:∀b u,b≠e->h.get? b=some u->h'.get? b=some u)(heo:∃u,h'.get? e=some u):Un fs ex H (upd H x o) h h':=by
 have hx:∀b,H b=none->b≠x:=fun b n z=>by subst z;rw [n] at mu;exact mu
 have hb:∀b,H b=none->b≠e:=fun b n z=>by
  subst z;rcases he with r|r
  ·exact hx b n r
  ·rw [n] at r;cases r
 have hm:∀b u,H b=some u->¬Mut (some u)->b≠x:=fun b u q nm z=>by subst z;rw [q] at mu;exact nm mu
 refine ⟨fun b u q n _ _=>k b u (hb b n) q,fun b u q n _ _=>⟨u.slots,k b u (hb b n) q⟩,fun b u q n _=>by rw [Ze (hx b n)];exact n,fun b u q _=>?_,
  fun b xs q=>by rw [Ze (hm b _ q fun z=>z)];exact q,fun b u xs q=>by rw [Ze (hm b _ q fun z=>z)];exact q,fun b ps q=>⟨#[],by rw [Ze (hm b _ q fun z=>z),q];simp⟩⟩
 by_cases hbe:b=e
 ·subst hbe;exact heo
 ·exact ⟨u,k b u hbe q⟩
end
def trk(h:Heap)(H:Hp):List Addr:=(List.range h.objs.size).filter fun a=>(H a).isSome
def Zn3(h:Heap)(H:Hp):Heap:=PySem.W.hideAll h (trk h H)
theorem Zs0(h:Heap)(H:Hp):(Zn3 h H).objs.size=h.objs.size:=PySem.W.hideAll_size _ _
theorem Zvh(e:h.get? b=some o)(n:H b=none):(Zn3 h H).get? b=some o :=
 PySem.W.hideAll_get _ e fun hm=>by
  have q:(H b).isSome=true:=(List.mem_filter.mp hm).2;rw [n] at q;simp at q
theorem Zxw(e:(Zn3 h H).get? b=some o):h.get? b=some o/\H b=none:=by
 have e':h.get? b=some o:=PySem.W.of_hideAll (trk h H) e;refine ⟨e',?_⟩;cases q:H b with
 | none=>rfl
 | some x =>
  have hm:b∈trk h H:=List.mem_filter.mpr ⟨List.mem_range.mpr (Heap.lt_size e'),by simp [q]⟩;have z:(Zn3 h H).get? b=none:=PySem.W.hideAll_none (trk h H) hm;rw [z] at e;cases e
def Zye(g h:Heap)(L:Addr):List (Addr×Obj):=(List.range h.objs.size).filterMap fun a=>if a=L\/(g.get? a).isSome=true then none else (h.get? a).map fun o=>(a,o)
def Yo(g h:Heap)(L d:Addr):List (Addr×Obj):=(Zye g h L).filter fun p=>decide (p.1≠d)
end L2
namespace L2
open PySem PySem.Spec PyProof.Rows
def Zyu(mg:Str->Option Value)(h:Heap):Prop:=∃bm ob,mg "__builtins__" =some (.ref bm)/\bm≠builtinsNs/\h.get? bm=some ob/\ob.cls=.type "module" /\ob.dict=some builtinsNs/\ob.data=.plain
structure Mod(K:Frag)(mg:Str->Option Value)(base:Heap):Prop where
 kin:K.In base
 glob:base.Ns mainGlobals mg
 blt:∃mb,base.Ns builtinsNs mb/\∀x:Str,x ≠ "__name__" ->mb x=bootBuiltins x
 nolimit:base.NoLimit
 bm:Zyu mg base
structure Cx where
 prog:Program
 w:World
 K:Frag
 mg:Str->Option Value
 base:Heap
 A:Around
 N:List Str
 s₀:Shared
 H₀:Hp
 env:Env
 outer:List Env
 stack:List Env
 ex:List Addr
 fn:Str->Bool
 calm:Bool
 pn:List (Addr×Obj)
 xe:Value->Shared->Prop
def frs(l:List Env):List Addr:=l.filterMap (·.frame)
abbrev Cx.fs(X:Cx):List Addr:=frs X.outer
def Vis(sc:Scope)(x:Str):Prop:=sc.names.lookup x=some .local\/sc.names.lookup x=some .cell\/sc.names.lookup x=some .free
def Loc(sc:Scope)(x:Str):Prop:=sc.names.lookup x=some .local\/sc.names.lookup x=some .cell
def Ydl(env:Env)(h:Heap)(m:Str->Option Value)(x:Str)(u:Value):Prop :=
 (env.kindOf x=some .local/\m x=some u)\/((env.kindOf x=some .cell\/env.kindOf x=some .free)/\∃c,env.cells.lookup x=some c/\h.IsCell c (some u))
structure Cx.Ok(X:Cx):Prop where
 mod:Mod X.K X.mg X.base
 kind:X.env.scope.kind=.function
 glob:X.env.globals=mainGlobals
 blt:X.env.builtins=builtinsNs
 above:X.s₀.heap.objs.size<=X.env.locals
 inj:∀x y c,X.env.cells.lookup x=some c->X.env.cells.lookup y=some c->x=y
 has:∀x,(X.env.kindOf x=some .cell\/X.env.kindOf x=some .free)->∃c,X.env.cells.lookup x=some c
 cab:∀x c,X.fn x=true->X.env.cells.lookup x=some c->X.s₀.heap.objs.size<=c
 hd:X.calm=true->X.A.handled=none
 frames:X.A.frames=some X.stack
 stk:X.stack=X.outer\/(X.stack=X.env ::X.outer/\X.env.frame=some X.env.locals)
 exf:∀b∈X.ex,b≠X.env.locals/\∀x c,X.env.cells.lookup x=some c->c≠b
 bs:∀b o,X.base.get? b=some o->X.s₀.heap.get? b=some o/\X.H₀ b=none
 bsz:X.base.objs.size<=X.s₀.heap.objs.size
 noex:∀b o,X.base.get? b=some o->b∉X.ex
 exfs:∀b∈X.ex,b∉X.fs
 funs:X.s₀.heap.FunFrames X.base X.outer
 frf:∀b∈X.fs,X.H₀ b=none
structure Inv(X:Cx)(a6:List (Addr×Obj))(σ:List (Option V))(H:Hp)(s:Shared):Prop where
 ok:X.Ok
 os:s.os=X.s₀.os
 bare:AllBare s.gens
 base:Un X.fs X.ex X.H₀ H X.s₀.heap s.heap
 loc:∃m,s.heap.Ns X.env.locals m/\∀(i:Nat) (x:Str) (v:V),X.N[i]? =some x->σ[i]? =some (some v)->Vis X.env.scope x->∃u,Yj v u/\Ydl X.env s.heap m x u
 cell:∀x c,X.env.cells.lookup x=some c->∃v,s.heap.IsCell c v
 free:H X.env.locals=none
 freeC:∀x c,X.env.cells.lookup x=some c->H c=none
 pin:∀p∈X.pn++a6,s.heap.get? p.1=some p.2/\H p.1=none/\p.1≠X.env.locals/\p.1∉X.fs/\∀v,p.2.data ≠ .cell v
 hok:HOk X.prog X.w H s.heap
 len:σ.length=X.N.length
section
variable {X:Cx} {a6:List (Addr×Obj)} {σ:List (Option V)} {H H':Hp} {s:Shared} {h':Heap}
theorem Cx.Ok.nofr(ok:X.Ok)(e:X.base.get? b=some o):b∉X.fs:=fun hb=>by
 have:=(ok.funs.mem hb).1;rw [e] at this;cases this
theorem Inv.bs(I:Inv X a6 σ H s):∀b o,X.base.get? b=some o->s.heap.get? b=some o/\H b=none:=fun b o e =>
 ⟨I.base.keep b o (I.ok.bs b o e).1 (I.ok.bs b o e).2 (I.ok.nofr e) (I.ok.noex b o e),I.base.free b o (I.ok.bs b o e).1 (I.ok.bs b o e).2 (I.ok.noex b o e)⟩
theorem Inv.bk(I:Inv X a6 σ H s):∀b o,X.base.get? b=some o->s.heap.get? b=some o:=fun b o e=>(I.bs b o e).1
theorem Inv.mod(I:Inv X a6 σ H s):Mod X.K X.mg X.base:=I.ok.mod
theorem Inv.kIn(I:Inv X a6 σ H s):X.K.In s.heap:=I.ok.mod.kin.keeps I.bk
theorem Inv.fr(I:Inv X a6 σ H s):∃m,Fr X.base X.env.locals s.heap m :=
 let ⟨m,hn,_⟩:=I.loc
 ⟨m,hn,I.bk,Nat.le_trans I.ok.bsz I.ok.above⟩
theorem Inv.lt(I:Inv X a6 σ H s):X.env.locals<s.heap.objs.size:=let ⟨_,hn,_⟩:=I.loc;hn.lt
theorem Inv.sz(I:Inv X a6 σ H s):X.s₀.heap.objs.size<=s.heap.objs.size:=Nat.le_trans I.ok.above (Nat.le_of_lt I.lt)
theorem Inv.nofs(I:Inv X a6 σ H s)(h:s.heap.objs.size<=a):a∉X.fs:=fun hb=>by
 obtain ⟨_,o,ho,_⟩:=I.ok.funs.mem hb;exact absurd (Nat.lt_of_lt_of_le (Heap.lt_size ho) (Nat.le_trans I.sz h)) (Nat.lt_irrefl _)
theorem Inv.cne(I:Inv X a6 σ H s):∀x c,X.env.cells.lookup x=some c->c≠X.env.locals:=fun x c e z=>by
 obtain ⟨v,o,ho,hd⟩:=I.cell x c e;obtain ⟨m,⟨o',es,ep,T4,hd',_⟩,_⟩:=I.loc;rw [z,T4] at ho;cases ho;rw [hd'] at hd;cases hd
theorem Inv.funs(I:Inv X a6 σ H s):s.heap.FunFrames X.base X.outer:=by
 have all:∀(l:List Env),(∀b∈frs l,b∈X.fs)->X.s₀.heap.FunFrames X.base l->s.heap.FunFrames X.base l:=by
  intro l
  induction l with
  | nil=>intro _ _;trivial
  | cons env r ih =>
   intro hs hl;obtain ⟨hk,⟨L,o,hf,hn,ho,hd⟩,hr⟩:=hl;have hL:L∈X.fs:=hs L (by unfold frs;rw [List.filterMap_cons,hf];exact List.mem_cons_self);obtain ⟨sl,e⟩:=I.base.slot L o ho (I.ok.frf L hL) hL fun z=>I.ok.exfs L z hL
   exact ⟨hk,⟨L,_,hf,hn,e,hd⟩,ih (fun b hb=>hs b (by unfold frs;rw [List.filterMap_cons,hf];exact List.mem_cons_of_mem _ hb)) hr⟩
 exact all X.outer (fun _ hb=>hb) I.ok.funs
theorem Inv.stack(I:Inv X a6 σ H s):s.heap.FunFrames X.base X.stack:=by
 rcases I.ok.stk with e|⟨e,hf⟩
 ·rw [e];exact I.funs
 ·rw [e];obtain ⟨m,hn,_⟩:=I.loc;refine .cons (by rw [I.ok.kind];decide) hf hn ?_ I.funs;exact Heap.get?_none_of_le (Nat.le_trans I.ok.bsz I.ok.above)
theorem Inv.stkSub(I:Inv X a6 σ H s):∀b∈frs X.stack,b∈X.env.locals ::X.fs:=fun b hb=>by
 rcases I.ok.stk with e|⟨e,hf⟩
 ·rw [e] at hb;exact List.mem_cons_of_mem _ hb
 ·rw [e] at hb;unfold frs at hb;rw [List.filterMap_cons,hf] at hb;exact hb
theorem Inv.stkFree(I:Inv X a6 σ H s):∀b∈frs X.stack,H b=none:=fun b hb=>by
 rcases List.mem_cons.mp (I.stkSub b hb) with e|hb
 ·rw [e];exact I.free
 ·obtain ⟨_,o,ho,_⟩:=I.ok.funs.mem hb;exact I.base.free b o ho (I.ok.frf b hb) fun z=>I.ok.exfs b z hb
theorem Inv.step{g':Array GenState}{t':Nat}{d':Drawn}{ch:List Addr}(I:Inv X a6 σ H s)
  (L6:∀b∈ch,(b∈X.ex\/X.s₀.heap.objs.size<=b)/\b≠X.env.locals/\(∀x c,X.env.cells.lookup x=some c->c≠b)/\∀p∈X.pn++a6,p.1≠b)
  (keep:∀b o,b≠X.env.locals->b∉X.fs->b∉ch->s.heap.get? b=some o->H b=none->h'.get? b=some o)
  (slot:∀b o,b≠X.env.locals->b∈X.fs->b∉ch->s.heap.get? b=some o->H b=none->∃sl,h'.get? b=some { o with slots:=sl }) (free:∀b o,b∉ch->s.heap.get? b=some o->H b=none->H' b=none)
  (there:∀b o,b∉ch->s.heap.get? b=some o->∃o',h'.get? b=some o')
  (tups:∀b xs,H b=some (.tup xs)->H' b=some (.tup xs)) (frzs:∀b o u,H b=some (.frz o u)->H' b=some (.frz o u)) (tbls:∀b ps,H b=some (.tbl ps)->∃more,H' b=some (.tbl (ps++more)))
  (ns:∀m,s.heap.Ns X.env.locals m->h'.Ns X.env.locals m) (hok:HOk X.prog X.w H' h') (hg:AllBare g') :
  Inv X a6 σ H' { s with heap:=h',gens:=g',drawn:=d',toks:=t' }:=by
 have neL:∀b o,X.s₀.heap.get? b=some o->b≠X.env.locals:=fun b o e=>Nat.ne_of_lt (Nat.lt_of_lt_of_le (Heap.lt_size e) I.ok.above)
 have neC:∀b o,X.s₀.heap.get? b=some o->b∉X.ex->b∉ch:=fun b o e hx hb=>by
  rcases (L6 b hb).1 with z|z
  ·exact hx z
  ·exact absurd (Nat.lt_of_lt_of_le (Heap.lt_size e) z) (Nat.lt_irrefl _)
 have cellK:∀x c,X.env.cells.lookup x=some c->∀v,s.heap.IsCell c v->h'.IsCell c v:=fun x c e v ⟨o,ho,hd⟩=>by
  have nch:c∉ch:=fun z=>(L6 c z).2.2.1 x c e rfl
  by_cases hc:c∈X.fs
  ·obtain ⟨sl,q⟩:=slot c o (I.cne x c e) hc nch ho (I.freeC x c e);exact ⟨_,q,hd⟩
  ·exact ⟨o,keep c o (I.cne x c e) hc nch ho (I.freeC x c e),hd⟩
 refine ⟨I.ok,I.os,hg,⟨fun b o e n hb hx=>?_,fun b o e n hb hx=>?_,fun b o e n hx=>?_,fun b o e hx=>?_,fun b xs e=>tups b xs (I.base.tups b xs e),fun b o xs e=>frzs b o xs (I.base.frzs b o xs e),fun b ps e=>?_⟩,?_,fun x c e=>?_,?_,fun x c e=>?_,fun p hp=>?_,hok,I.len⟩
 ·exact keep b o (neL b o e) hb (neC b o e hx) (I.base.keep b o e n hb hx) (I.base.free b o e n hx)
 ·obtain ⟨sl,e1⟩:=I.base.slot b o e n hb hx;obtain ⟨sl',e2⟩:=slot b _ (neL b o e) hb (neC b o e hx) e1 (I.base.free b o e n hx);exact ⟨sl',e2⟩
 ·obtain ⟨o',e1⟩:=I.base.there b o e hx;exact free b o' (neC b o e hx) e1 (I.base.free b o e n hx)
 ·obtain ⟨o',e1⟩:=I.base.there b o e hx;exact there b o' (neC b o e hx) e1
 ·obtain ⟨m1,e1⟩:=I.base.tbls b ps e;obtain ⟨m2,e2⟩:=tbls b _ e1;exact ⟨m1++m2,by rw [e2,Array.append_assoc]⟩
 ·obtain ⟨m,hn,hl⟩:=I.loc;refine ⟨m,ns m hn,fun i x v e1 e2 e3=>?_⟩;obtain ⟨u,r,l⟩:=hl i x v e1 e2 e3;refine ⟨u,r,?_⟩;rcases l with l|⟨k,c,e,z⟩
  ·exact .inl l
  ·exact .inr ⟨k,c,e,cellK x c e _ z⟩
 ·obtain ⟨v,z⟩:=I.cell x c e;exact ⟨v,cellK x c e v z⟩
 ·obtain ⟨m,⟨o,_,_,ho,_⟩,_⟩:=I.loc;exact free _ o (fun z=>(L6 _ z).2.1 rfl) ho I.free
 ·obtain ⟨v,o,ho,hd⟩:=I.cell x c e;exact free c o (fun z=>(L6 c z).2.2.1 x c e rfl) ho (I.freeC x c e)
 ·obtain ⟨e,n,ne,nf,d⟩:=I.pin p hp;have nch:p.1∉ch:=fun z=>(L6 p.1 z).2.2.2 p hp rfl
  exact ⟨keep p.1 p.2 ne nf nch e n,free p.1 p.2 nch e n,ne,nf,d⟩
theorem Inv.un{t':Nat}(I:Inv X a6 σ H s)(u:Un X.fs [] H H' s.heap h')(hok:HOk X.prog X.w H' h'):Inv X a6 σ H' { s with heap:=h',toks:=t' }:=by
 obtain ⟨m,⟨o,es,ep,ho,r⟩,_⟩:=id I.loc;obtain ⟨sl,hL⟩:=u.any ho I.free (by simp);exact I.step (g':=s.gens) (d':=s.drawn) (ch:=[]) (fun _ z=>nomatch z) (fun b o _ hb _ e n=>u.keep b o e n hb (by simp)) (fun b o _ hb _ e n=>u.slot b o e n hb (by simp)) (fun b o _ e n=>u.free b o e n (by simp)) (fun b o _ e=>u.there b o e (by simp)) u.tups u.frzs u.tbls (fun m' hm=>by
  obtain ⟨o',es',ep',T4,r'⟩:=hm;rw [ho] at T4;cases T4;exact ⟨_,es',ep',hL,r'⟩) hok I.bare
theorem Inv.call{g':Array GenState}{t':Nat}{d':Drawn}{ch:List Addr}(I:Inv X a6 σ H s)(u:Un (frs X.stack) ch H H' s.heap h')(hok:HOk X.prog X.w H' h')(hg:AllBare g')
  (L6:∀b∈ch,(b∈X.ex\/X.s₀.heap.objs.size<=b)/\b≠X.env.locals/\(∀x c,X.env.cells.lookup x=some c->c≠b)/\∀p∈X.pn++a6,p.1≠b) :
  Inv X a6 σ H' { s with heap:=h',gens:=g',drawn:=d',toks:=t' }:=by
 obtain ⟨m,⟨o,es,ep,ho,r⟩,_⟩:=id I.loc;obtain ⟨sl,hL⟩:=u.any ho I.free fun z=>(L6 _ z).2.1 rfl
 exact I.step (ch:=ch) L6 (fun b o hL hb hc e n=>u.keep b o e n (fun z=>(List.mem_cons.mp (I.stkSub b z)).elim hL hb) hc) (fun b o _ _ hc e n=>u.any e n hc) (fun b o hc e n=>u.free b o e n hc) (fun b o hc e=>u.there b o e hc) u.tups u.frzs u.tbls (fun m' hm=>by
  obtain ⟨o',es',ep',T4,r'⟩:=hm;rw [ho] at T4;cases T4;exact ⟨_,es',ep',hL,r'⟩) hok hg
theorem Inv.turned{t':Nat}{it:Addr}(I:Inv X a6 σ H s)(k:∀b o,b≠it->s.heap.get? b=some o->h'.get? b=some o)(hn:H it=none)(hL:it≠X.env.locals)
  (h1:it∈X.ex\/X.s₀.heap.objs.size<=it) (h2:∀x c,X.env.cells.lookup x=some c->c≠it) (h3:∀p∈X.pn++a6,p.1≠it):Inv X a6 σ H { s with heap:=h',toks:=t' }:=by
 have nit:∀b u,H b=some u->b≠it:=fun b u e z=>by rw [z,hn] at e;cases e
 refine I.step (g':=s.gens) (d':=s.drawn) (ch:=[it]) (fun b hb=>?_) (fun b o _ _ hc e _=>k b o (fun z=>hc (by simp [z])) e) (fun b o _ _ hc e _=>⟨o.slots,k b o (fun z=>hc (by simp [z])) e⟩) (fun _ _ _ _ n=>n)
  (fun b o hc e=>⟨o,k b o (fun z=>hc (by simp [z])) e⟩) (fun _ _ e=>e) (fun _ _ _ e=>e) (fun b ps e=>⟨#[],by rw [e];simp⟩) (fun m hm=>?_) (fun b u e=>?_) I.bare
 ·have e:b=it:=by simpa using hb
  subst e;exact ⟨h1,hL,h2,h3⟩
 ·obtain ⟨o,es,ep,ho,r⟩:=hm;exact ⟨o,es,ep,k _ o (Ne.symm hL) ho,r⟩
 ·refine (I.hok b u e).stay (fun c v hc q=>k c v ?_ q) (fun _ q=>q) fun _ _ q=>q
  rcases hc with z|z
  ·rw [z];exact nit b u e
  ·exact nit c _ z
theorem Inv.tok(I:Inv X a6 σ H s)(t:Nat):Inv X a6 σ H { s with toks:=t }:=I.un (h':=s.heap) (t':=t) Un.refl I.hok
theorem Inv.kept(I:Inv X a6 σ H s)(k:∀b u,s.heap.get? b=some u->h'.get? b=some u):Inv X a6 σ H { s with heap:=h',toks:=t' }:=I.un (Un.kept k) (I.hok.kept k)
theorem Inv.laid(I:Inv X a6 σ H s)(k:∀b u,s.heap.get? b=some u->h'.get? b=some u)(hp:s.heap.objs.size<=a)(new:Yr X.prog X.w (upd H a o) h' a o) :
  Inv X a6 σ (upd H a o) { s with heap:=h',toks:=t' }:=I.un (Un.laid k hp (I.hok.fresh hp)) (I.hok.laid k hp new)
theorem Inv.write(I:Inv X a6 σ H s)(mu:Mut (H x))(he:e=x\/H e=some (.own x))(k:∀b u,b≠e->s.heap.get? b=some u->h'.get? b=some u)(heo:∃u,h'.get? e=some u)
  (new:Yr X.prog X.w (upd H x o) h' x o):Inv X a6 σ (upd H x o) { s with heap:=h',toks:=t' }:=I.un (Un.write mu he k heo) (I.hok.write mu he k heo new)
theorem Inv.weak(I:Inv X a6 σ H s)(hl:σ'.length=σ.length)(w:∀(i:Nat) v,σ'[i]? =some (some v)->σ[i]? =some (some v)):Inv X a6 σ' H s :=
 ⟨I.ok,I.os,I.bare,I.base,let ⟨m,hn,E4⟩:=I.loc;⟨m,hn,fun i x v e1 e2 e3=>E4 i x v e1 (w i v e2) e3⟩,I.cell,I.free,I.freeC,I.pin,I.hok,hl.trans I.len⟩
theorem Inv.pins_of(I:Inv X a6 σ H s)(h:∀p∈j8,s.heap.get? p.1=some p.2/\H p.1=none/\p.1≠X.env.locals/\p.1∉X.fs/\∀v,p.2.data ≠ .cell v):Inv X j8 σ H s :=
 ⟨I.ok,I.os,I.bare,I.base,I.loc,I.cell,I.free,I.freeC,fun p hp=>(List.mem_append.mp hp).elim (fun z=>I.pin p (List.mem_append_left _ z)) (h p),I.hok,I.len⟩
theorem Zpo{N:List Str}(hN:N.Nodup){i j:Nat}{x:Str}(a:N[i]? =some x)(b:N[j]? =some x):i=j:=by
 obtain ⟨h1,e1⟩:=List.getElem?_eq_some_iff.mp a;obtain ⟨h2,e2⟩:=List.getElem?_eq_some_iff.mp b;exact (List.getElem_inj hN).mp (e1.trans e2.symm)
theorem Zty{M:Model}{A:Around}{E:Value->Shared->Prop}{i:Nat}{x:Str}{v:V}{u:Value}{Q:Unit->Shared->Prop}(I:Inv X a6 σ H s)(hN:X.N.Nodup)(hi:X.N[i]? =some x)(hx:Loc X.env.scope x)(r:Yj v u)
  (h:∀s',Inv X a6 (σ.set i (some v)) H s'->(∃a,Heap.SameBut a s.heap s'.heap/\(a=X.env.locals\/X.env.cells.lookup x=some a))->Q () s') (hf:X.fn x=true\/X.env.scope.names.lookup x=some .local:=by first | exact .inl rfl | exact .inr rfl | assumption):wpAny M A (storeName X.env x u) Q E s:=by
 obtain ⟨m,hn,hl⟩:=id I.loc;have hcls:(X.env.scope.kind ==.class || (X.env.scope.kind ==.module && X.env.locals !=X.env.globals))=false:=by rw [I.ok.kind];rfl
 have hiσ:i<σ.length:=by rw [I.len];exact (List.getElem?_eq_some_iff.mp hi).1
 have cne:=I.cne;have K2:∀{a:Addr} {h':Heap},(∃o,s.heap.get? a=some o/\H a=none)->Heap.SameBut a s.heap h'->HOk X.prog X.w H h':=fun {a h'} ha hs b ob e=>by
  obtain ⟨_,_,D4⟩:=ha;refine (I.hok b ob e).stay (fun c w' hc q=>(hs.2 c ?_).trans q) (fun _ q=>q) fun _ _ q=>q
  rintro rfl;rcases hc with rfl|hc
  ·rw [D4] at e;cases e
  ·rw [D4] at hc;cases hc
 rcases hx with hk|hk
 ·refine wpAny_storeName_local hk hn (fun h' hn' hs=>?_) hcls;obtain ⟨oL,_,_,hoL,_⟩:=id hn;refine h _ ⟨I.ok,I.os,I.bare,⟨fun b o e n hb hx=>?_,fun b o e n hb hx=>?_,I.base.free,fun b o e hx=>?_,I.base.tups,I.base.frzs,I.base.tbls⟩,⟨_,hn',fun j y v' e1 e2 e3=>?_⟩,fun y c e=>?_,I.free,I.freeC,fun p hp=>?_,K2 ⟨oL,hoL,I.free⟩ hs,by simpa using I.len⟩ ⟨_,hs,.inl rfl⟩
  ·exact (hs.2 b (Nat.ne_of_lt (Nat.lt_of_lt_of_le (Heap.lt_size e) I.ok.above))).trans (I.base.keep b o e n hb hx)
  ·obtain ⟨sl,e1⟩:=I.base.slot b o e n hb hx;exact ⟨sl,(hs.2 b (Nat.ne_of_lt (Nat.lt_of_lt_of_le (Heap.lt_size e) I.ok.above))).trans e1⟩
  ·obtain ⟨o',e1⟩:=I.base.there b o e hx;exact ⟨o',(hs.2 b (Nat.ne_of_lt (Nat.lt_of_lt_of_le (Heap.lt_size e) I.ok.above))).trans e1⟩
  ·by_cases hj:j=i
   ·subst hj;rw [hi] at e1;cases e1;rw [List.getElem?_set_self hiσ] at e2;cases e2;exact ⟨u,r,.inl ⟨hk,by simp⟩⟩
   ·rw [List.getElem?_set_ne (Ne.symm hj)] at e2;obtain ⟨u',r',q⟩:=hl j y v' e1 e2 e3;refine ⟨u',r',?_⟩;rcases q with ⟨k,e⟩|⟨k,c,e,z⟩
    ·refine .inl ⟨k,?_⟩;have:y≠x:=fun e=>hj (Zpo hN e1 (e ▸ hi))
     simp [this,e]
    ·exact .inr ⟨k,c,e,z.sameBut hs (cne y c e)⟩
  ·obtain ⟨w',z⟩:=I.cell y c e;exact ⟨w',z.sameBut hs (cne y c e)⟩
  ·obtain ⟨e,n,ne,nf,d⟩:=I.pin p hp;exact ⟨(hs.2 p.1 ne).trans e,n,ne,nf,d⟩
 ·have E3:X.fn x=true:=by
   rcases hf with z|z
   ·exact z
   ·rw [z] at hk;cases hk
  obtain ⟨c,hc⟩:=I.ok.has x (.inl hk);obtain ⟨w',z⟩:=I.cell x c hc;refine wpAny_storeName_cell I.ok.kind hk hc z (fun h' S9 hs=>?_);obtain ⟨oc,hoc,hocd⟩:=id z;refine h { s with heap:=h' } ⟨I.ok,I.os,I.bare,⟨fun b o e n hb hx=>?_,fun b o e n hb hx=>?_,I.base.free,fun b o e hx=>?_,I.base.tups,I.base.frzs,I.base.tbls⟩,⟨m,hn.sameBut hs (Ne.symm (cne x c hc)),fun j y v' e1 e2 e3=>?_⟩,fun y c' e=>?_,I.free,I.freeC,fun p hp=>?_,K2 ⟨oc,hoc,I.freeC x c hc⟩ hs,by simpa using I.len⟩ ⟨c,hs,.inr hc⟩
  ·exact (hs.2 b (Nat.ne_of_lt (Nat.lt_of_lt_of_le (Heap.lt_size e) (I.ok.cab x c E3 hc)))).trans (I.base.keep b o e n hb hx)
  ·obtain ⟨sl,e1⟩:=I.base.slot b o e n hb hx;exact ⟨sl,(hs.2 b (Nat.ne_of_lt (Nat.lt_of_lt_of_le (Heap.lt_size e) (I.ok.cab x c E3 hc)))).trans e1⟩
  ·obtain ⟨o',e1⟩:=I.base.there b o e hx;exact ⟨o',(hs.2 b (Nat.ne_of_lt (Nat.lt_of_lt_of_le (Heap.lt_size e) (I.ok.cab x c E3 hc)))).trans e1⟩
  ·by_cases hj:j=i
   ·subst hj;rw [hi] at e1;cases e1;rw [List.getElem?_set_self hiσ] at e2;cases e2;exact ⟨u,r,.inr ⟨.inl hk,c,hc,S9⟩⟩
   ·rw [List.getElem?_set_ne (Ne.symm hj)] at e2;obtain ⟨u',r',q⟩:=hl j y v' e1 e2 e3;refine ⟨u',r',?_⟩;rcases q with q|⟨k,c',e,z'⟩
    ·exact .inl q
    ·refine .inr ⟨k,c',e,z'.sameBut hs ?_⟩;rintro rfl;exact hj (Zpo hN e1 (I.ok.inj _ _ _ e hc ▸ hi))
  ·by_cases hcc:c'=c
   ·subst hcc;exact ⟨_,S9⟩
   ·obtain ⟨w2,z2⟩:=I.cell y c' e;exact ⟨w2,z2.sameBut hs hcc⟩
  ·obtain ⟨e,n,ne,nf,d⟩:=I.pin p hp;refine ⟨(hs.2 p.1 ?_).trans e,n,ne,nf,d⟩;intro q;rw [q,hoc] at e;have q':oc=p.2:=Option.some.inj e;exact d w' (by rw [<-q'];exact hocd)
theorem Zp2{E:Value->Shared->Prop}{Q:Unit->Shared->Prop}(I:Inv X a6 σ H s)(hN:X.N.Nodup)(hi:X.N[i]? =some x)(hx:Loc X.env.scope x)(r:Yj v u)
  (h:∀s',Inv X a6 (σ.set i (some v)) H s'->Q () s') (hf:X.fn x=true\/X.env.scope.names.lookup x=some .local:=by first | exact .inl rfl | exact .inr rfl | assumption):wpAny M A (storeName X.env x u) Q E s :=
 Zty I hN hi hx r (fun s' I' _=>h s' I') hf
theorem Inv.call'(I:Inv X a6 σ H s)(ho:s'.os=s.os)(u:Un (frs X.stack) ch H H' s.heap s'.heap)(hok:HOk X.prog X.w H' s'.heap)(hg:AllBare s'.gens)
  (L6:∀b∈ch,(b∈X.ex\/X.s₀.heap.objs.size<=b)/\b≠X.env.locals/\(∀x c,X.env.cells.lookup x=some c->c≠b)/\∀p∈X.pn++a6,p.1≠b):Inv X a6 σ H' s':=by
 obtain ⟨h',g',d',t',o'⟩:=s';have e:o'=s.os:=ho;subst e;exact I.call (g':=g') (t':=t') (d':=d') u hok hg L6
end
abbrev XK:=Value->Option Addr->Hp->Prop
abbrev St:=List (Option V)
abbrev VK:=V->Hp->Prop
abbrev TE:=St->Hp->VK->Prop
abbrev TT:=St->Hp->(Bool->Hp->Prop)->Prop
abbrev TA:=St->Hp->(List V->Hp->Prop)->Prop
structure Zh3 where
 nx:St->Hp->Prop
 rt:VK
 bk:St->Hp->Prop:=fun _ _=>False
 ct:St->Hp->Prop:=fun _ _=>False
abbrev TS:=Zh3->St->Hp->Prop
def EP(X:Cx)(a6:List (Addr×Obj))(σ:St)(Q:VK)(u:Value)(s':Shared):Prop:=∃v H',Inv X a6 σ H' s'/\Yj v u/\Q v H'
def TP(X:Cx)(a6:List (Addr×Obj))(σ:St)(Q:Bool->Hp->Prop)(b:Bool)(s':Shared):Prop:=∃H',Inv X a6 σ H' s'/\Q b H'
def AP(X:Cx)(a6:List (Addr×Obj))(σ:St)(Q:List V->Hp->Prop)(us:List Value)(s':Shared):Prop:=∃vs H',Inv X a6 σ H' s'/\Yc vs us/\Q vs H'
def SP(X:Cx)(a6:List (Addr×Obj))(D:Zh3)(f:Flow)(s':Shared):Prop :=
 match f with
 | .next=>∃σ' H',Inv X a6 σ' H' s'/\D.nx σ' H'
 | .brk=>∃σ' H',Inv X a6 σ' H' s'/\D.bk σ' H'
 | .cont=>∃σ' H',Inv X a6 σ' H' s'/\D.ct σ' H'
 | .ret u=>∃v σ' H',Inv X a6 σ' H' s'/\Yj v u/\D.rt v H'
def PE(X:Cx)(e:Expr)(t:TE):Prop :=
 ∀(a6:List (Addr×Obj)) (s:Shared) (σ:St) (H:Hp) (Q:VK),Inv X a6 σ H s->t σ H Q->wpAny (model X.prog X.w) X.A (eval e X.env) (EP X a6 σ Q) X.xe s
def PT(X:Cx)(e:Expr)(t:TT):Prop :=
 ∀(a6:List (Addr×Obj)) (s:Shared) (σ:St) (H:Hp) (Q:Bool->Hp->Prop),Inv X a6 σ H s->t σ H Q->wpAny (model X.prog X.w) X.A (isTrue e X.env (eval e X.env)) (TP X a6 σ Q) X.xe s
def PW(X:Cx)(e:Expr)(t:TT):Prop :=
 ∀(L1:Sem Value) (a6:List (Addr×Obj)) (s:Shared) (σ:St) (H:Hp) (Q:Bool->Hp->Prop),Inv X a6 σ H s->t σ H Q->wpAny (model X.prog X.w) X.A (isTrue e X.env L1) (TP X a6 σ Q) X.xe s
theorem PW.pt(h:PW X e t):PT X e t:=h _
def PA(X:Cx)(es:List Expr)(t:TA):Prop :=
 ∀(pos:Pos) (a6:List (Addr×Obj)) (s:Shared) (σ:St) (H:Hp) (Q:List V->Hp->Prop),Inv X a6 σ H s->t σ H Q->wpAny (model X.prog X.w) X.A (spliced (backTo pos (starEach es X.env))) (AP X a6 σ Q) X.xe s
def PS(X:Cx)(st:Stmt)(t:TS):Prop :=
 ∀(a6:List (Addr×Obj)) (s:Shared) (σ:St) (H:Hp) (D:Zh3),Inv X a6 σ H s->t D σ H->wpAny (model X.prog X.w) X.A (exec st X.env) (SP X a6 D) X.xe s
def PSs(X:Cx)(st:List Stmt)(t:TS):Prop :=
 ∀(a6:List (Addr×Obj)) (s:Shared) (σ:St) (H:Hp) (D:Zh3),Inv X a6 σ H s->t D σ H->wpAny (model X.prog X.w) X.A (execs st X.env) (SP X a6 D) X.xe s
theorem thn{α:Type}{t:Sem α}{Q Q':α->Shared->Prop}{E:Value->Shared->Prop}(h:wpAny M A t Q E s)(hQ:∀a s,Q a s->Q' a s):wpAny M A t Q' E s:=wpAny_mono h hQ fun _ _ x=>x
end L2
namespace L2
open PySem PySem.Spec PyProof.Rows
section
variable {X:Cx}
theorem bin(ha:PE X a ta)(hb:PE X b tb){R:V->V->Hp->Prop}(I:Inv X a6 σ H s)(h:ta σ H fun x H1=>tb σ H1 fun y H2=>R x y H2)
  {α:Type} {Q:α->Shared->Prop} {f:Value->Value->Sem α}
  (hf:∀v u s2 x y H2,Inv X a6 σ H2 s2->Yj x v->Yj y u->R x y H2->wpAny (model X.prog X.w) X.A (f v u) Q X.xe s2) :
  wpAny (model X.prog X.w) X.A (eval a X.env) (fun v s₁=>wpAny (model X.prog X.w) X.A (eval b X.env) (fun u s₂=>wpAny (model X.prog X.w) X.A (f v u) Q X.xe s₂) X.xe s₁) X.xe s:=by
 refine thn (ha a6 s σ H _ I h) fun v s1 ⟨x,H1,I1,r1,q1⟩=>?_
 refine thn (hb a6 s1 σ H1 _ I1 q1) fun u s2 ⟨y,H2,I2,r2,q2⟩=>?_
 exact hf v u s2 x y H2 I2 r1 r2 q2
def Zjv(i:Nat):TE:=fun σ H Q=>∃v,σ[i]? =some (some v)/\Q v H
def tC(v:V):TE:=fun _ H Q=>Q v H
theorem Zuq(hN:X.N[i]? =some x)(hv:Vis X.env.scope x) (hd:(x ==("__debug__" :Str))=false:=by decide) (F0:(x ==("__classdict__" :Str))=false:=by decide):PE X (.Name x pos) (Zjv i):=by
 intro a6 s σ H Q I h;obtain ⟨v,e,h⟩:=h;obtain ⟨m,hn,hl⟩:=I.loc;obtain ⟨u,r,l⟩:=hl i x v hN e hv;have fin:EP X a6 σ Q u s:=⟨v,H,I,r,h⟩
 rcases l with ⟨hk,hm⟩|⟨hk,c,hc,hcell⟩
 ·exact wpAny_Name (wpAny_loadName_local I.ok.kind hk hn hm fin) hd
 ·rcases hk with hk|hk
  ·exact wpAny_Name (wpAny_loadName_cell I.ok.kind hk hc hcell fin) hd
  ·exact wpAny_Name (wpAny_loadName_free I.ok.kind hk hc hcell fin F0) hd
theorem Zd{i j pos}:PE X (.Constant (.int i) j pos) (tC (.int i)):=fun _ _ _ H _ I h=>wpAny_Constant_int ⟨.int i,H,I.tok _,⟨_,rfl⟩,h⟩
theorem Zi5{b j pos}:PE X (.Constant (.bool b) j pos) (tC (.bl b)):=fun _ _ _ H _ I h=>Constant_bool ⟨.bl b,H,I,rfl,h⟩
theorem Zlq{j pos}:PE X (.Constant .none j pos) (tC .non):=fun _ _ _ H _ I h=>Constant_none ⟨.non,H,I,rfl,h⟩
theorem Zg{x j pos}:PE X (.Constant (.str x) j pos) (tC (.str x)):=fun _ _ _ H _ I h=>Calls.Constant_str ⟨.str x,H,I.tok _,⟨_,rfl⟩,h⟩
def Gl(X:Cx)(x:Str):Prop:=X.env.kindOf x=some .globalImplicit
theorem Zjz{E:Value->Shared->Prop}{Q:Value->Shared->Prop}(I:Inv X a6 σ H s)(hg:Gl X x)(hm:X.mg x=some u)(h:Q u s)
  (hd:(x ==("__debug__" :Str))=false:=by decide):wpAny (model X.prog X.w) X.A (eval (.Name x pos) X.env) Q E s :=
 Calls.Name_function_global I.ok.kind hg (Calls.loadGlobal_global (by rw [I.ok.glob];exact I.mod.glob.keeps I.bk) hm h) hd
theorem Zfr{E:Value->Shared->Prop}{Q:Value->Shared->Prop}(I:Inv X a6 σ H s)(hg:Gl X x)(hm:X.mg x=none)(hv:bootBuiltins x=some u)(h:Q u s)
  (hn:x ≠ "__name__" :=by decide) (hd:(x ==("__debug__" :Str))=false:=by decide):wpAny (model X.prog X.w) X.A (eval (.Name x pos) X.env) Q E s:=by
 obtain ⟨mb,h1,h2⟩:=I.mod.blt;exact Calls.Name_function_global I.ok.kind hg (Calls.loadGlobal_builtin (by rw [I.ok.glob];exact I.mod.glob.keeps I.bk) hm (by rw [I.ok.blt];exact h1.keeps I.bk) ((h2 x hn).trans hv) h) hd
theorem Zhk(hg:Gl X x)(hm:X.mg x=some u)(r:Yj v u) (hd:(x ==("__debug__" :Str))=false:=by decide):PE X (.Name x pos) (tC v) :=
 fun _ _ _ H _ I h=>Zjz I hg hm ⟨v,H,I,r,h⟩ hd
theorem Zd7(hg:Gl X x)(hm:X.mg x=none)(hv:bootBuiltins x=some u)(r:Yj v u) (hn:x ≠ "__name__" :=by decide) (hd:(x ==("__debug__" :Str))=false:=by decide):PE X (.Name x pos) (tC v) :=
 fun _ _ _ H _ I h=>Zfr I hg hm hv ⟨v,H,I,r,h⟩ hn hd
variable {a b:Expr} {ta tb:TE} {pos:Pos}
def PC(X:Cx)(op:CmpOp)(a b:Expr)(t:TE):Prop :=
 ∀(a6:List (Addr×Obj)) (s:Shared) (σ:St) (H:Hp) (Q:VK),Inv X a6 σ H s->t σ H Q ->
  wpAny (model X.prog X.w) X.A (eval a X.env) (fun v s₁=>wpAny (model X.prog X.w) X.A (eval b X.env) (fun u s₂=>wpAny (model X.prog X.w) X.A (compareOp op v u) (EP X a6 σ Q) X.xe s₂) X.xe s₁) X.xe s
def tB(t:TE):TT:=fun σ H Q=>t σ H fun x H1=>∃c,x=.bl c/\Q c H1
theorem Ydq(h:PC X op a b t)(h1:behindInMarks op b=false:=by first | exact nobehind _ (by decide) (by decide) | rfl):PT X (.Compare a [op] [b] pos) (tB t):=by
 intro a6 s σ H Q I hw;refine wpAny_isTrue_Compare1 (thn (h a6 s σ H _ I hw) fun v s1 h1=>thn h1 fun u s2 h2=>thn h2 fun c s3 ⟨x,H1,I1,r1,q1⟩=>?_) h1;obtain ⟨d,rfl,q⟩:=q1;cases r1;exact wpAny_truthy_bool ⟨H1,I1,q⟩
theorem Xl(h:PE X e t)(he:∀L1,isTrue e X.env L1=(do let v <-L1;standAt e.pos;holding [v] (truthy v)):=by intro _;rfl):PT X e (tB t):=by
 intro a6 s σ H Q I hw;refine isTrue_plain (thn (h a6 s σ H _ I hw) fun v s1 ⟨x,H1,I1,r1,q1⟩=>?_) (he _);obtain ⟨d,rfl,q⟩:=q1;cases r1;exact wpAny_truthy_bool ⟨H1,I1,q⟩
variable {tA tB':TT} {Yo:List Expr}
def Ydg(t u:TT):TT:=fun σ H Q=>t σ H fun c H1=>if c=true then u σ H1 Q else Q false H1
def tOr(t u:TT):TT:=fun σ H Q=>t σ H fun c H1=>if c=true then Q true H1 else u σ H1 Q
def Ydp(t:TT):TT:=fun σ H Q=>t σ H fun c H1=>Q (!c) H1
theorem Zbe(ha:PT X a tA):PW X (.BoolOp .And [a] pos) tA:=by
 intro wh a6 s σ H Q I h;refine isTrue_and (thn (ha a6 s σ H Q I h) fun c s1 e=>?_);cases c with
 | true=>exact isTrue_and_nil e
 | false=>exact e
theorem Zda(ha:PT X a tA):PW X (.BoolOp .Or [a] pos) tA:=by
 intro wh a6 s σ H Q I h;refine isTrue_or (thn (ha a6 s σ H Q I h) fun c s1 e=>?_);cases c with
 | false=>exact isTrue_or_nil e
 | true=>exact e
theorem Zdk(ha:PT X a tA)(hb:PW X (.BoolOp .And (b ::Yo) pos) tB'):PW X (.BoolOp .And (a ::b ::Yo) pos) (Ydg tA tB'):=by
 intro wh a6 s σ H Q I h;refine isTrue_and (thn (ha a6 s σ H _ I h) fun c s1 ⟨H1,I1,q1⟩=>?_);cases c with
 | true=>exact hb wh a6 s1 σ H1 Q I1 q1
 | false=>exact ⟨H1,I1,q1⟩
theorem Zfc(ha:PT X a tA)(hb:PW X (.BoolOp .Or (b ::Yo) pos) tB'):PW X (.BoolOp .Or (a ::b ::Yo) pos) (tOr tA tB'):=by
 intro wh a6 s σ H Q I h;refine isTrue_or (thn (ha a6 s σ H _ I h) fun c s1 ⟨H1,I1,q1⟩=>?_);cases c with
 | true=>exact ⟨H1,I1,q1⟩
 | false=>exact hb wh a6 s1 σ H1 Q I1 q1
theorem W1(ha:PT X a tA):PT X (.UnaryOp .Not a pos) (Ydp tA):=by
 intro a6 s σ H Q I h;exact isTrue_not (ha a6 s σ H (fun c H1=>Q (!c) H1) I h)
def Yb2(ta tb:TE):TE:=fun σ H Q=>ta σ H fun x H1=>∃c,x=.bl c/\if c=true then tb σ H1 Q else Q (.bl false) H1
theorem Zq6{op}(h:PE X a t):PE X (.BoolOp op [a] pos) t:=fun a6 s σ H Q I hw=>BoolOp_one (h a6 s σ H Q I hw)
theorem Zkh(ha:PE X a ta)(hb:PE X (.BoolOp .And (b ::Yo) pos) tb):PE X (.BoolOp .And (a ::b ::Yo) pos) (Yb2 ta tb):=by
 intro a6 s σ H Q I h;refine BoolOp_and (thn (ha a6 s σ H _ I h) fun v s1 ⟨x,H1,I1,r1,q1⟩=>?_);obtain ⟨c,rfl,q1⟩:=q1;cases r1;refine wpAny_truthy_bool ?_;cases c with
 | true=>exact hb a6 s1 σ H1 Q I1 q1
 | false=>exact ⟨.bl false,H1,I1,rfl,q1⟩
def tIf(t:TT)(ta tb:TE):TE:=fun σ H Q=>t σ H fun c H1=>if c=true then ta σ H1 Q else tb σ H1 Q
theorem Zff(hc:PT X c tA)(ha:PE X a ta)(hb:PE X b tb):PE X (.IfExp c a b pos) (tIf tA ta tb):=by
 intro a6 s σ H Q I h;refine wpAny_IfExp (thn (hc a6 s σ H _ I h) fun d s1 ⟨H1,I1,q1⟩=>?_);cases d with
 | true=>exact ha a6 s1 σ H1 Q I1 q1
 | false=>exact hb a6 s1 σ H1 Q I1 q1
end
end L2
namespace L2
open PySem PySem.Spec PyProof.Rows
def SqL(K:Frag)(H:Hp)(a:Addr)(xs:List V):Prop :=
 Rd H a (.lst xs) \/
  ∃(o:Obj) (a7:Array Value) (n:Nat),K.lookup a=some o/\o.cls=.type "list" /\o.dict=none/\o.data=.seq a7 n/\a7.size<=sizeLine/\Yc xs a7.toList
def SqT(K:Frag)(H:Hp)(a:Addr)(xs:List V):Prop :=
 Rd H a (.tup xs) \/
  ∃(o:Obj) (a7:Array Value) (n:Nat),K.lookup a=some o/\o.cls=.type "tuple" /\o.data=.seq a7 n/\a7.size<=sizeLine/\Yc xs a7.toList
def Yc8:Value->Option V
 | .none=>some .non
 | .bool b=>some (.bl b)
 | .int i _=>some (.int i)
 | .str x _=>some (.str x)
 | .bytes b _=>some (.byt b)
 | .float b _=>some (.flt b)
 | .ref a=>some (.ref a)
 | .type n=>some (.ty n)
 | _=>none
theorem Yj.abs(r:Yj x u):Yc8 u=some x:=by
 cases x with
 | non=>cases r;rfl
 | bl _=>cases r;rfl
 | int _=>obtain ⟨t,rfl⟩:=r;rfl
 | str _=>obtain ⟨t,rfl⟩:=r;rfl
 | byt _=>obtain ⟨t,rfl⟩:=r;rfl
 | flt _=>obtain ⟨t,rfl⟩:=r;rfl
 | ref _=>cases r;rfl
 | ty _=>cases r;rfl
theorem Yj.inj(r:Yj x u)(q:Yj y u):x=y:=Option.some.inj (r.abs.symm.trans q.abs)
theorem Yc.inj{xs ys:List V}{us:List Value}(h:Yc xs us)(h':Yc ys us):xs=ys:=by
 induction h generalizing ys with
 | nil=>cases h';rfl
 | cons r t ih=>cases h' with
  | cons r' t'=>rw [r.inj r',ih t']
section
variable {X:Cx} {a6:List (Addr×Obj)} {σ:St} {H:Hp} {s:Shared} {a:Addr} {xs ys:List V}
theorem SqL.of{K:Frag}(h:H a=some (.lst xs)):SqL K H a xs:=.inl (.inl h)
theorem SqT.of{K:Frag}(h:H a=some (.tup xs)):SqT K H a xs:=.inl (.inl h)
theorem Inv.list(I:Inv X a6 σ H s)(h:SqL X.K H a xs):∃a7:List Value,Yc xs a7/\PlainL s.heap a a7.toArray/\xs.length<=sizeLine:=by
 rcases h with h|⟨o,a7,n,hk,hc,hd,hs,hz,r⟩
 ·obtain ⟨z,a7,n,r,e⟩:=h.ok I.hok;exact ⟨a7,r,⟨_,n,e,rfl,rfl,rfl⟩,z⟩
 ·refine ⟨a7.toList,r,⟨o,n,I.kIn a o hk,hc,hd,by simpa using hs⟩,?_⟩;have e:=r.length;simp only [Array.length_toList] at e;lia
theorem Inv.tuple(I:Inv X a6 σ H s)(h:SqT X.K H a xs):∃a7:List Value,Yc xs a7/\IsTup s.heap a a7.toArray/\xs.length<=sizeLine:=by
 rcases h with h|⟨o,a7,n,hk,hc,hs,hz,r⟩
 ·obtain ⟨z,a7,r,p⟩:=h.ok I.hok;exact ⟨a7,r,p,z⟩
 ·refine ⟨a7.toList,r,⟨o,I.kIn a o hk,hc,n,by simpa using hs⟩,?_⟩;have e:=r.length;simp only [Array.length_toList] at e;lia
theorem Inv.list_inj(I:Inv X a6 σ H s)(h:SqL X.K H a xs)(h':SqL X.K H a ys):xs=ys:=by
 obtain ⟨a7,r,⟨o,n,e,_,_,d⟩,_⟩:=I.list h;obtain ⟨its',r',⟨o',n',e',_,_,d'⟩,_⟩:=I.list h';rw [e] at e';cases e';rw [d] at d'
 injection d' with d1 _
 have:a7=its':=by simpa using congrArg Array.toList d1
 subst this;exact r.inj r'
theorem Inv.tuple_inj(I:Inv X a6 σ H s)(h:SqT X.K H a xs)(h':SqT X.K H a ys):xs=ys:=by
 obtain ⟨a7,r,⟨o,e,_,n,d⟩,_⟩:=I.tuple h;obtain ⟨its',r',⟨o',e',_,n',d'⟩,_⟩:=I.tuple h';rw [e] at e';cases e';rw [d] at d'
 injection d' with d1 _
 have:a7=its':=by simpa using congrArg Array.toList d1
 subst this;exact r.inj r'
end
abbrev Cx.wish(X:Cx)(E:Value->Shared->Prop):Cx:={ X with xe:=E }
abbrev Cx.nox(X:Cx):Cx:=X.wish fun _ _=>False
theorem Cx.Ok.wish{X:Cx}(ok:X.Ok)(E:Value->Shared->Prop):(X.wish E).Ok :=
 ⟨ok.mod,ok.kind,ok.glob,ok.blt,ok.above,ok.inj,ok.has,ok.cab,ok.hd,ok.frames,ok.stk,ok.exf,ok.bs,ok.bsz,ok.noex,ok.exfs,ok.funs,ok.frf⟩
theorem Cx.Ok.unwish{X:Cx}{E:Value->Shared->Prop}(ok:(X.wish E).Ok):X.Ok :=
 ⟨ok.mod,ok.kind,ok.glob,ok.blt,ok.above,ok.inj,ok.has,ok.cab,ok.hd,ok.frames,ok.stk,ok.exf,ok.bs,ok.bsz,ok.noex,ok.exfs,ok.funs,ok.frf⟩
section
variable {X:Cx} {a6:List (Addr×Obj)} {σ:St} {H:Hp} {s:Shared} {E:Value->Shared->Prop}
theorem Inv.wish(I:Inv X a6 σ H s)(E:Value->Shared->Prop):Inv (X.wish E) a6 σ H s:=⟨I.ok.wish E,I.os,I.bare,I.base,I.loc,I.cell,I.free,I.freeC,I.pin,I.hok,I.len⟩
theorem Inv.unwish(I:Inv (X.wish E) a6 σ H s):Inv X a6 σ H s:=⟨I.ok.unwish,I.os,I.bare,I.base,I.loc,I.cell,I.free,I.freeC,I.pin,I.hok,I.len⟩
theorem SP.unwish(h:SP (X.wish E) a6 D f s'):SP X a6 D f s':=by
 cases f with
 | next=>obtain ⟨σ',H',I,q⟩:=h;exact ⟨σ',H',I.unwish,q⟩
 | brk=>obtain ⟨σ',H',I,q⟩:=h;exact ⟨σ',H',I.unwish,q⟩
 | cont=>obtain ⟨σ',H',I,q⟩:=h;exact ⟨σ',H',I.unwish,q⟩
 | ret u=>obtain ⟨v,σ',H',I,r,q⟩:=h;exact ⟨v,σ',H',I.unwish,r,q⟩
theorem PSs.nox{st:List Stmt}{t:TS}(h:PSs X.nox st t):PSs X st t:=fun a6 s σ H D I hw =>
 wpAny_mono (h a6 s σ H D (I.wish _) hw) (fun _ _ q=>q.unwish) fun _ _ z=>False.elim z
end
section
variable {X:Cx} {st:Stmt} {Yo:List Stmt} {t u:TS} {e:Expr} {te:TE} {pos:Pos}
def Yco:TS:=fun D σ H=>D.nx σ H
def Yc4(t u:TS):TS:=fun D σ H=>t { D with nx:=u D } σ H
theorem Zp:PSs X [] Yco:=fun _ _ σ H _ I h=>wpAny_execs_nil ⟨σ,H,I,h⟩
theorem Zu2(h1:PS X st t)(h2:PSs X Yo u):PSs X (st ::Yo) (Yc4 t u):=by
 intro a6 s σ H D I h;refine wpAny_execs_cons (thn (h1 a6 s σ H { D with nx:=u D } I h) fun f s1 q=>?_);cases f with
 | next =>
  obtain ⟨σ',H',I',q⟩:=q;exact h2 a6 s1 σ' H' D I' q
 | ret v=>exact q
 | brk=>exact q
 | cont=>exact q
theorem Zxd(h1:PS X st t):PSs X [st] t:=by
 intro a6 s σ H D I h;refine wpAny_execs_cons (thn (h1 a6 s σ H D I h) fun f s1 q=>?_);cases f with
 | next=>exact wpAny_execs_nil q
 | ret v=>exact q
 | brk=>exact q
 | cont=>exact q
def Yb5:TS:=fun D σ H=>D.ct σ H
theorem Zpi:PS X (.Continue pos) Yb5:=fun _ _ σ H _ I h=>wpAny_Continue ⟨σ,H,I,h⟩
theorem Inv.quiet(I:Inv X a6 σ H s):interactive X.env=false:=by simp [interactive,I.ok.kind]
def Ybl(te:TE):TS:=fun D σ H=>te σ H fun _ H1=>D.nx σ H1
theorem Yi(he:PE X e te)(hs:swapsWith e none pos.line X.env=pure false:=by rfl):PS X (.Expr e pos) (Ybl te):=by
 intro a6 s σ H D I h;exact wpAny_Expr_any (thn (he a6 s σ H _ I h) fun v s1 ⟨x,H1,I1,r1,q1⟩=>⟨σ,H1,I1,q1⟩) I.quiet hs
def Yc6(te:TE):TS:=fun D σ H=>te σ H D.rt
theorem Zo(he:PE X e te):PS X (.Return (some e) pos) (Yc6 te):=by
 intro a6 s σ H D I h;exact wpAny_Return_some (thn (he a6 s σ H _ I h) fun v s1 ⟨x,H1,I1,r1,q1⟩=>⟨x,σ,H1,I1,r1,q1⟩)
def Ycv(c:TT)(t u:TS):TS:=fun D σ H=>c σ H fun b H1=>if b=true then t D σ H1 else u D σ H1
theorem Zx(hc:PT X c tc)(ha:PSs X a t)(hb:PSs X b u):PS X (.If c a b pos) (Ycv tc t u):=by
 intro a6 s σ H D I h;refine wpAny_If (thn (hc a6 s σ H _ I h) fun d s1 ⟨H1,I1,q1⟩=>?_);cases d with
 | true=>exact ha a6 s1 σ H1 D I1 q1
 | false=>exact hb a6 s1 σ H1 D I1 q1
end
abbrev TG:=V->St->Hp->(St->Hp->Prop)->Prop
abbrev TGs:=List V->St->Hp->(St->Hp->Prop)->Prop
def PG(X:Cx)(A2:Expr)(t:TG):Prop :=
 ∀(a6:List (Addr×Obj)) (s:Shared) (σ:St) (H:Hp) (v:V) (u:Value) (Q:St->Hp->Prop),Inv X a6 σ H s->Yj v u->t v σ H Q ->
  wpAny (model X.prog X.w) X.A (assign A2 X.env u) (fun _ s'=>∃σ' H',Inv X a6 σ' H' s'/\Q σ' H') X.xe s
def PGs(X:Cx)(ts:List Expr)(t:TGs):Prop :=
 ∀(a6:List (Addr×Obj)) (s:Shared) (σ:St) (H:Hp) (vs:List V) (us:List Value) (Q:St->Hp->Prop),Inv X a6 σ H s->Yc vs us->t vs σ H Q ->
  wpAny (model X.prog X.w) X.A (assignInOrder ((assignEach ts X.env).map (·.2)) us) (fun _ s'=>∃σ' H',Inv X a6 σ' H' s'/\Q σ' H') X.xe s
section
variable {X:Cx} {pos:Pos}
def Ze1(i:Nat):TG:=fun v σ H Q=>Q (σ.set i (some v)) H
theorem Zoe(hN:X.N.Nodup)(hi:X.N[i]? =some x)(hx:Loc X.env.scope x)(hf:X.fn x=true\/X.env.scope.names.lookup x=some .local:=by first | exact .inl rfl | exact .inr rfl | assumption):PG X (.Name x pos) (Ze1 i):=by
 intro a6 s σ H v u Q I r h;exact wpAny_assign_Name (Zp2 I hN hi hx r (fun s' I'=>⟨_,H,I',h⟩) hf)
def Ybr:TGs:=fun vs σ H Q=>vs=[]/\Q σ H
def Zva(t:TG)(u:TGs):TGs:=fun vs σ H Q=>∃v r,vs=v ::r/\t v σ H fun σ' H'=>u r σ' H' Q
theorem Xb:PGs X [] Ybr:=by
 intro a6 s σ H vs us Q I r h;obtain ⟨e,h⟩:=h;subst e;cases r;exact assignInOrder_nil ⟨σ,H,I,h⟩
theorem Zw(h1:PG X e t)(h2:PGs X es u)
  (hs:(assignEach (e ::es) X.env).map (·.2)=assign e X.env ::(assignEach es X.env).map (·.2):=by rfl):PGs X (e ::es) (Zva t u):=by
 intro a6 s σ H vs us Q I r h;obtain ⟨v,vr,e1,h⟩:=h;subst e1;cases r with
 | cons r rr =>
  rw [hs];refine assignInOrder_cons (thn (h1 a6 s σ H _ _ _ I r h) fun _ s1 ⟨σ1,H1,I1,q1⟩=>?_);exact h2 a6 s1 σ1 H1 _ _ Q I1 rr q1
def Zzw(K:Frag)(n:Nat)(t:TGs):TG:=fun v σ H Q=>∃a xs,v=.ref a/\SqT K H a xs/\xs.length=n/\t xs σ H Q
theorem Wr(hc:X.calm=true)(h:PGs X es t)
  (hn:(assignEach es X.env).length=n:=by rfl) (A1:(assignEach es X.env).findIdx? (·.1)=none:=by rfl):PG X (.Tuple es k pos) (Zzw X.K n t):=by
 intro a6 s σ H v u Q I r hw;obtain ⟨a,xs,e1,hq,hl,hw⟩:=hw;subst e1;cases r;obtain ⟨a7,rv,ht,hz⟩:=I.tuple hq;refine assign_Tuple_tuple (I.ok.hd hc) ht (by simp [hn,<-hl,rv.length]) A1 fun h' hx=>?_
 have I1:Inv X a6 σ H { s with heap:=h' }:=I.kept (t':=s.toks) fun b o e=>hx b o (Nat.ne_of_lt (Heap.lt_size e)) e
 exact h a6 _ σ H xs _ Q I1 (by simpa using rv) hw
def Zyc(te:TE)(g:TG):TS:=fun D σ H=>te σ H fun x H1=>g x σ H1 D.nx
theorem Zkn(he:PE X e te)(hg:PG X tg g)(hs:swapsWithSole [tg] e pos.line X.env=pure false:=by rfl)(hw:swappedStores [tg] e X.env=pure none:=by rfl)
  (h1:(assignEach [tg] X.env).map (·.2)=[assign tg X.env]:=by rfl):PS X (.Assign [tg] e pos) (Zyc te g):=by
 intro a6 s σ H D I h;refine wpAny_Assign_stores (thn (he a6 s σ H _ I h) fun v s1 ⟨x,H1,I1,r1,q1⟩=>?_) hs hw;rw [h1];exact thn (hg a6 s1 σ H1 x v _ I1 r1 q1) fun _ s2 q=>q
theorem Yae(hN:X.N.Nodup)(hi:X.N[i]? =some x)(hx:Loc X.env.scope x)(he:PE X e te)(hs:swapsWith e (some (.Name x A3)) pos.line X.env=pure false:=by rfl)(hf:X.fn x=true\/X.env.scope.names.lookup x=some .local:=by first | exact .inl rfl | exact .inr rfl | assumption) :
  PS X (.Assign [.Name x A3] e pos) (Zyc te (Ze1 i)):=by
 intro a6 s σ H D I h;refine wpAny_Assign_Name (thn (he a6 s σ H _ I h) fun v s1 ⟨y,H1,I1,r1,q1⟩=>?_) hs;exact Zp2 I1 hN hi hx r1 (fun s2 I2=>⟨_,H1,I2,q1⟩) hf
theorem Zy{i:Nat}{x:Str}{e:Expr}{te:TE}{A3:Pos}(hN:X.N.Nodup)(he:PE X e te)(hi:X.N[i]? =some x:=by rfl)(hx:Loc X.env.scope x:=by first | exact Or.inl rfl | exact Or.inr rfl)(hs:swapsWith e (some (.Name x A3)) pos.line X.env=pure false:=by rfl)(hf:X.fn x=true\/X.env.scope.names.lookup x=some .local:=by first | exact .inl rfl | exact .inr rfl | assumption):PS X (.Assign [.Name x A3] e pos) (Zyc te (Ze1 i)):=Yae hN hi hx he hs hf
theorem Yw{i:Nat}{x:Str}(hN:X.N.Nodup)(hi:X.N[i]? =some x:=by rfl)(hx:Loc X.env.scope x:=by first | exact Or.inl rfl | exact Or.inr rfl)(hf:X.fn x=true\/X.env.scope.names.lookup x=some .local:=by first | exact .inl rfl | exact .inr rfl | assumption):PG X (.Name x pos) (Ze1 i):=Zoe hN hi hx hf
theorem W6{i:Nat}{x:Str}(hN:X.N.Nodup)(hi:X.N[i]? =some x:=by rfl)(hx:Loc X.env.scope x:=by exact Or.inl (lookup_relabel_local rfl))(hf:X.fn x=true\/X.env.scope.names.lookup x=some .local:=by exact Or.inr (lookup_relabel_local rfl)):PG X (.Name x pos) (Ze1 i):=Zoe hN hi hx hf
end
section
variable {X:Cx} {pos:Pos}
end
structure It where
 go:Nat->Hp->Prop
 yld:Nat->Hp->V->Hp->Prop
 stop:Nat->Hp->Prop
def Zju(X:Cx)(a6:List (Addr×Obj))(H:Hp)(b:Addr):Prop :=
 H b=none/\b≠X.env.locals/\b∉X.fs/\(b∈X.ex\/X.s₀.heap.objs.size<=b)/\(∀x c,X.env.cells.lookup x=some c->c≠b)/\∀p∈X.pn++a6,p.1≠b
theorem Inv.fpOk(I:Inv X a6 σ H s)(hb:s.heap.objs.size<=b)(hn:H' b=none):Zju X a6 H' b:=by
 refine ⟨hn,Nat.ne_of_gt (Nat.lt_of_lt_of_le I.lt hb),I.nofs hb,.inr (Nat.le_trans I.sz hb),fun x c e z=>?_,fun p hp z=>?_⟩
 ·obtain ⟨v,q⟩:=I.cell x c e;exact absurd (Nat.lt_of_lt_of_le q.lt (by rw [z];exact hb)) (Nat.lt_irrefl _)
 ·exact absurd (Nat.lt_of_lt_of_le (Heap.lt_size (I.pin p hp).1) (by rw [z];exact hb)) (Nat.lt_irrefl _)
structure Zmg(P:Program)(w:World)(K:Frag)(tg:Expr)(J:It)(fp:List Addr)(it:Addr)(tn:Nat->Heap->Prop):Prop where
 mem:it∈fp
 obj:∀i h,tn i h->∀b∈fp,∃o,h.get? b=some o/\∀v,o.data ≠ .cell v
 keep:∀i h h',tn i h->(∀b∈fp,∀o,h.get? b=some o->h'.get? b=some o)->tn i h'
 item:∀(X:Cx),X.prog=P->X.w=w->X.K=K->X.calm=true->∀(i:Nat) (a6:List (Addr×Obj)) (s:Shared) (σ:St) (H:Hp) (E:Value->Shared->Prop),Inv X a6 σ H s->(∀b∈fp,Zju X a6 H b)->tn i s.heap->J.go i H ->
  wpAny (model P w) X.A (pyNext (.ref it)) (fun r s1=>∃u,r=some u /\
   wpAny (model P w) X.A (letOwnedTupleGo tg (.ref it) u) (fun _ s2=>∃x H',Inv X a6 σ H' s2/\Yj x u/\J.yld i H x H'/\tn (i+1) s2.heap/\∀b∈fp,H' b=none) E s1) E s
 done:∀(X:Cx),X.prog=P->X.w=w->X.K=K->X.calm=true->∀(i:Nat) (a6:List (Addr×Obj)) (s:Shared) (σ:St) (H:Hp) (E:Value->Shared->Prop),Inv X a6 σ H s->(∀b∈fp,Zju X a6 H b)->tn i s.heap->J.stop i H ->
  wpAny (model P w) X.A (pyNext (.ref it)) (fun r s1=>r=none/\Inv X a6 σ H s1) E s
 self:∀(A:Around) (i:Nat) (s:Shared) (Q:Value->Shared->Prop) (E:Value->Shared->Prop),tn i s.heap->Q (.ref it) s->wpAny (model P w) A (pyIter (.ref it)) Q E s
abbrev TI:=St->Hp->(It->Hp->Prop)->Prop
def PIE(X:Cx)(a6:List (Addr×Obj))(σ:St)(tg:Expr)(R:It->Hp->Prop)(itv:Value)(s2:Shared):Prop :=
 ∃(it:Addr) (fp:List Addr) (tn:Nat->Heap->Prop) (J:It) (H':Hp),itv=.ref it/\Inv X a6 σ H' s2/\Zmg X.prog X.w X.K tg J fp it tn/\tn 0 s2.heap/\(∀b∈fp,Zju X a6 H' b)/\R J H'
def PI(X:Cx)(tg m7:Expr)(wi:TI):Prop :=
 ∀(a6:List (Addr×Obj)) (s:Shared) (σ:St) (H:Hp) (R:It->Hp->Prop),Inv X a6 σ H s->wi σ H R ->
  wpAny (model X.prog X.w) X.A (eval m7 X.env) (fun v s1=>wpAny (model X.prog X.w) X.A (pyIter v) (PIE X a6 σ tg R) X.xe s1) X.xe s
theorem Zl6{E:Value->Shared->Prop}{Q:Unit->Shared->Prop}(ho:s.heap.get? it=some o)(hc:o.cls=.type n)(hd:o.data=.fields vs)
    (hn:["enumerate", "zip", "dict_itemiterator", "dict_reverseitemiterator", "odict_iterator", "itertools.zip_longest", "itertools.pairwise"].contains n=false) (hQ:Q () s):wpAny M A (letOwnedTupleGo tg (.ref it) u) Q E s:=by
  unfold letOwnedTupleGo;cases tg <;>first
    | exact wpAny_pure hQ
    | (cases u <;>first
        | exact wpAny_pure hQ
        | (refine wpAny_bind (wpAny_load ho ?_)
           rw [hc,hd];show wpAny M A (if (["enumerate", "zip", "dict_itemiterator", "dict_reverseitemiterator", "odict_iterator", "itertools.zip_longest", "itertools.pairwise"].contains n && vs[0]? ==some (rawInt _))=true then _ else _) Q E s;rw [if_neg (by intro h;rw [hn,Bool.false_and] at h;cases h)];exact wpAny_pure hQ))
def Itl(K:Frag)(a:Addr):It :=
 ⟨fun i H=>∃xs x,SqL K H a xs/\xs[i]? =some x,fun i H x H'=>H'=H/\∀xs,SqL K H a xs->xs[i]? =some x,fun i H=>∃xs,SqL K H a xs/\xs.length<=i⟩
def Itt(K:Frag)(a:Addr):It :=
 ⟨fun i H=>∃xs x,SqT K H a xs/\xs[i]? =some x,fun i H x H'=>H'=H/\∀xs,SqT K H a xs->xs[i]? =some x,fun i H=>∃xs,SqT K H a xs/\xs.length<=i⟩
def Itr(lo:Int)(n:Nat):It:=⟨fun i _=>i<n,fun i H x H'=>H'=H/\x=.int (lo+i),fun i _=>n<=i⟩
theorem Ztt{P:Program}{w:World}{K:Frag}{tg:Expr}(a it:Addr):Zmg P w K tg (Itl K a) [it] it (fun i h=>h.IsListIter it a i) where
 mem:=by simp
 obj:=fun i h st b hb=>by
  have e:b=it:=by simpa using hb
  subst e;obtain ⟨o,e,c,d⟩:=st;exact ⟨o,e,fun v z=>by rw [d] at z;cases z⟩
 keep:=fun i h h' st k=>st.at fun o e=>k it (by simp) o e
 item:=by
  intro X hP hw hK hc i a6 s σ H E I hf st hg;subst hP hw hK;obtain ⟨xs,x,hq,hx⟩:=hg;obtain ⟨a7,rv,p,hz⟩:=I.list hq;obtain ⟨u,hu,ru⟩:=rv.get hx;obtain ⟨f0,f1,f2,f3,f4,f5⟩:=hf it (by simp);refine wpAny_pyNext_list_item st p.isList (x:=u) (by simpa using hu) fun h' x0 sb=>?_
  have I1:Inv X a6 σ H { s with heap:=h' }:=I.turned (t':=s.toks) (fun b o hb e=>(sb.2 b hb).trans e) f0 f1 f3 f4 f5;obtain ⟨o,e,c,d⟩:=id x0;exact ⟨u,rfl,Zl6 (s:={ s with heap:=h' }) e c d (by decide) ⟨x,H,I1,ru,⟨rfl,fun ys hy=>by rw [I.list_inj hy hq];exact hx⟩,x0,fun b hb=>(hf b hb).1⟩⟩
 done:=by
  intro X hP hw hK hc i a6 s σ H E I hf st hg;subst hP hw hK;obtain ⟨xs,hq,hx⟩:=hg;obtain ⟨a7,rv,p,hz⟩:=I.list hq;obtain ⟨f0,f1,f2,f3,f4,f5⟩:=hf it (by simp);have hl:=rv.length;exact wpAny_pyNext_list_end (I.ok.hd hc) st p.isList (by simp;lia) fun h' eb=>⟨rfl,I.turned (t':=s.toks) (fun b o hb e=>eb b o hb e) f0 f1 f3 f4 f5⟩
 self:=fun _ _ _ _ _ st h=>wpAny_pyIter_listiter st h
theorem Zqt{P:Program}{w:World}{K:Frag}{tg:Expr}(a it:Addr):Zmg P w K tg (Itt K a) [it] it (fun i h=>h.IsTupleIter it a i) where
 mem:=by simp
 obj:=fun i h st b hb=>by
  have e:b=it:=by simpa using hb
  subst e;obtain ⟨o,e,c,d⟩:=st;exact ⟨o,e,fun v z=>by rw [d] at z;cases z⟩
 keep:=fun i h h' st k=>st.at fun o e=>k it (by simp) o e
 item:=by
  intro X hP hw hK hc i a6 s σ H E I hf st hg;subst hP hw hK;obtain ⟨xs,x,hq,hx⟩:=hg;obtain ⟨a7,rv,p,hz⟩:=I.tuple hq;obtain ⟨u,hu,ru⟩:=rv.get hx;obtain ⟨f0,f1,f2,f3,f4,f5⟩:=hf it (by simp);refine wpAny_pyNext_tuple_item st (show s.heap.IsTuple a a7.toArray from p) (x:=u) (by simpa using hu) fun h' x0 sb=>?_
  have I1:Inv X a6 σ H { s with heap:=h' }:=I.turned (t':=s.toks) (fun b o hb e=>(sb.2 b hb).trans e) f0 f1 f3 f4 f5;obtain ⟨o,e,c,d⟩:=id x0;exact ⟨u,rfl,Zl6 (s:={ s with heap:=h' }) e c d (by decide) ⟨x,H,I1,ru,⟨rfl,fun ys hy=>by rw [I.tuple_inj hy hq];exact hx⟩,x0,fun b hb=>(hf b hb).1⟩⟩
 done:=by
  intro X hP hw hK hc i a6 s σ H E I hf st hg;subst hP hw hK;obtain ⟨xs,hq,hx⟩:=hg;obtain ⟨a7,rv,p,hz⟩:=I.tuple hq;obtain ⟨f0,f1,f2,f3,f4,f5⟩:=hf it (by simp);have hl:=rv.length;exact wpAny_pyNext_tuple_end (I.ok.hd hc) st (show s.heap.IsTuple a a7.toArray from p) (by simp;lia) fun h' eb=>⟨rfl,I.turned (t':=s.toks) (fun b o hb e=>eb b o hb e) f0 f1 f3 f4 f5⟩
 self:=fun _ _ _ _ _ st h=>wpAny_pyIter_tupleiter st h
theorem Zrv{P:Program}{w:World}{K:Frag}{tg:Expr}(it:Addr)(lo:Int)(n:Nat):Zmg P w K tg (Itr lo n) [it] it (fun i h=>IsRangeIter h it (lo+(i:Nat) * 1) ((n:Int)-(i:Nat)) 1) where
 mem:=by simp
 obj:=fun i h st b hb=>by
  have e:b=it:=by simpa using hb
  subst e;exact ⟨_,st,fun v z=>by
   have z':Data.fields _=Data.cell v:=z;cases z'⟩
 keep:=fun i h h' st k=>k it (by simp) _ st
 item:=by
  intro X hP hw hK hc i a6 s σ H E I hf st hg;subst hP hw hK;obtain ⟨f0,f1,f2,f3,f4,f5⟩:=hf it (by simp);have W:=Walks.range (prog:=X.prog) (w:=X.w) (I.ok.hd hc) it lo 1 n;refine W.item i s _ _ hg st fun v h' tk hv x0 kk=>?_
  obtain ⟨t,rfl⟩:=hv;have I1:Inv X a6 σ H { s with heap:=h',toks:=tk }:=I.turned (fun b o hb e=>kk b o (by simpa using hb) e) f0 f1 f3 f4 f5;refine ⟨_,rfl,Zl6 (s:={ s with heap:=h',toks:=tk }) (n := "range_iterator") x0 rfl rfl (by decide) ⟨.int (lo+i),H,I1,⟨t,?_⟩,⟨rfl,rfl⟩,x0,fun b hb=>(hf b hb).1⟩⟩;rw [Int.mul_one]
 done:=by
  intro X hP hw hK hc i a6 s σ H E I hf st hg;subst hP hw hK;obtain ⟨f0,f1,f2,f3,f4,f5⟩:=hf it (by simp);exact wpAny_pyNext_range_end (I.ok.hd hc) st (by have:n<=i:=hg;lia) fun h' eb=>⟨rfl,I.turned (t':=s.toks) (fun b o hb e=>eb b o hb e) f0 f1 f3 f4 f5⟩
 self:=fun _ _ _ _ _ st h=>wpAny_pyIter_rangeiter st h
end L2
namespace L2
open PySem PySem.Spec PyProof.Rows
section
variable {X:Cx} {tg:Expr}
def Ycf(K:Frag)(tl:TE):TI:=fun σ H R=>tl σ H fun x H1=>∃a,x=.ref a/\(∃xs,SqL K H1 a xs)/\R (Itl K a) H1
def Yde(K:Frag)(tl:TE):TI:=fun σ H R=>tl σ H fun x H1=>∃a,x=.ref a/\(∃xs,SqT K H1 a xs)/\R (Itt K a) H1
theorem Ym{l:Expr}{tl:TE}(hl:PE X l tl):PI X tg l (Ycf X.K tl):=by
 intro a6 s σ H R I h;refine thn (hl a6 s σ H _ I h) fun v s1 ⟨x,H1,I1,r1,q1⟩=>?_
 obtain ⟨a,e,⟨xs,hq⟩,q⟩:=q1;subst e;cases r1;obtain ⟨a7,rv,p,hz⟩:=I1.list hq;refine wpAny_pyIter_list p.isList ?_;refine ⟨s1.heap.objs.size,[s1.heap.objs.size],_,_,H1,rfl,I1.kept (t':=s1.toks) fun b o e=>Heap.get?_push_of_some _ e,Ztt a _,⟨_,Heap.get?_push_size _ rfl,rfl,rfl⟩,fun b hb=>?_,q⟩;have e:b=s1.heap.objs.size:=by simpa using hb
 subst e;exact I1.fpOk (Nat.le_refl _) (I1.hok.fresh (Nat.le_refl _))
theorem Zzq{l:Expr}{tl:TE}(hl:PE X l tl):PI X tg l (Yde X.K tl):=by
 intro a6 s σ H R I h;refine thn (hl a6 s σ H _ I h) fun v s1 ⟨x,H1,I1,r1,q1⟩=>?_
 obtain ⟨a,e,⟨xs,hq⟩,q⟩:=q1;subst e;cases r1;obtain ⟨a7,rv,p,hz⟩:=I1.tuple hq;refine wpAny_pyIter_tuple (show s1.heap.IsTuple a a7.toArray from p) ?_;refine ⟨s1.heap.objs.size,[s1.heap.objs.size],_,_,H1,rfl,I1.kept (t':=s1.toks) fun b o e=>Heap.get?_push_of_some _ e,Zqt a _,⟨_,Heap.get?_push_size _ rfl,rfl,rfl⟩,fun b hb=>?_,q⟩;have e:b=s1.heap.objs.size:=by simpa using hb
 subst e;exact I1.fpOk (Nat.le_refl _) (I1.hok.fresh (Nat.le_refl _))
theorem Zp6{a6:List (Addr×Obj)}{σ:St}{H:Hp}{s:Shared}{R:It->Hp->Prop}{E:Value->Shared->Prop}{lo hi:Int}{t u v:Tok}{tk:Nat}(I:Inv X a6 σ H s)(h1:-(2 ^ 62)<=lo)(h2:lo<2 ^ 62)(h3:-(2 ^ 62)<=hi)(h4:hi<2 ^ 62)
  (q:R (Itr lo (hi-lo).toNat) H):wpAny (model X.prog X.w) X.A (pyIter (.ref s.heap.objs.size)) (PIE X a6 σ tg R) E { s with heap:=s.heap.push { cls:=.type "range",data:=.fields #[.int lo t,.int hi u,.int 1 v] },toks:=tk }:=by
 refine wpAny_pyIter_range (IsRange.new ..) (small_one h1 h2 h3 h4) ?_;have I1:Inv X a6 σ H { s with heap:=s.heap.push { cls:=.type "range",data:=.fields #[.int lo t,.int hi u,.int 1 v] },toks:=tk }:=I.kept fun b o e=>Heap.get?_push_of_some _ e
 refine ⟨(s.heap.push { cls:=.type "range",data:=.fields #[.int lo t,.int hi u,.int 1 v] }).objs.size,[(s.heap.push { cls:=.type "range",data:=.fields #[.int lo t,.int hi u,.int 1 v] }).objs.size],_,_,H,rfl,
  I1.kept (t':=tk) fun b o e=>Heap.get?_push_of_some _ e,Zrv _ lo (hi-lo).toNat,?_,fun b hb=>?_,q⟩
 ·have e1:lo+((0:Nat):Int) * 1=lo:=by simp
  have e2:(((hi-lo).toNat:Nat):Int)-((0:Nat):Int)=Builtin.Range.rangeSize lo hi 1:=by rw [rangeSize_one];split <;>lia
  show IsRangeIter _ _ (lo+((0:Nat):Int) * 1) ((((hi-lo).toNat:Nat):Int)-((0:Nat):Int)) 1;rw [e1,e2];exact Heap.get?_push_size _ rfl
 ·have e:b=(s.heap.push { cls:=.type "range",data:=.fields #[.int lo t,.int hi u,.int 1 v] }).objs.size:=by simpa using hb
  subst e;exact I1.fpOk (Nat.le_refl _) (I1.hok.fresh (Nat.le_refl _))
def Ybe(ta:TA):TI:=fun σ H R=>ta σ H fun vs H1=>∃j:Int,vs=[.int j]/\-(2 ^ 62)<=j/\j<2 ^ 62/\R (Itr 0 j.toNat) H1
def Ya1(ta:TA):TI:=fun σ H R=>ta σ H fun vs H1=>∃i j:Int,vs=[.int i,.int j]/\(-(2 ^ 62)<=i/\i<2 ^ 62/\-(2 ^ 62)<=j/\j<2 ^ 62)/\R (Itr i (j-i).toNat) H1
theorem Znl{a:Expr}{ta:TA}{p pos:Pos} (hg:Gl X "range") (hm:X.mg "range" =none) (ha:PA X [a] ta) (hs:starEach [a] X.env=[(false,eval a X.env)]:=by rfl):PI X tg (.Call (.Name "range" p) [a] [] pos) (Ybe ta):=by
 intro a6 s σ H R I h;refine Call_ (Zfr I hg hm boot_range (PyProof.Rows.callWith_type1 (thn (ha pos a6 s σ H _ I h) fun us s1 ⟨vs,H1,I1,r1,q1⟩=>?_) hs rfl));obtain ⟨j,e,q1,q2,q⟩:=q1;subst e;cases r1 with
 | cons r rr =>
  cases rr;obtain ⟨t,rfl⟩:=r;exact call_range_1 (Zp6 I1 (by lia) (by lia) q1 q2 (by simpa using q))
theorem Znx  (hg:Gl X "range") (hm:X.mg "range" =none) (ha:PA X [a,b] ta) (hs:starEach [a,b] X.env=[(false,eval a X.env),(false,eval b X.env)]:=by rfl) (N9:starEach [b] X.env=[(false,eval b X.env)]:=by rfl) :
  PI X tg (.Call (.Name "range" p) [a,b] [] pos) (Ya1 ta):=by
 intro a6 s σ H R I h;refine Call_ (Zfr I hg hm boot_range (PyProof.Rows.callWith_type1 (thn (ha pos a6 s σ H _ I h) fun us s1 ⟨vs,H1,I1,r1,q1⟩=>?_) (by rw [hs,N9]) (by rw [N9];rfl)));obtain ⟨i,j,e,⟨q1,q2,q3,q4⟩,q⟩:=q1;subst e;cases r1 with
 | cons r rr =>
  cases rr with
  | cons r' rr =>
   cases rr;obtain ⟨t,rfl⟩:=r;obtain ⟨t',rfl⟩:=r';exact call_range_2 (Zp6 I1 q1 q2 q3 q4 q)
def Ydu(wi:TI)(g:TG)(tb:TS):TS:=fun D σ H=>wi σ H fun J H1=>∃W:Nat->Nat->St->Hp->Prop,(∃m,W 0 m σ H1)/\∀i m σ H,W i m σ H ->
 (J.stop i H/\D.nx σ H)\/(J.go i H/\∃N:St->Hp->Prop,(∀σ' H',N σ' H'->∃m',m'<m/\W (i+1) m' σ' H')/\∀x H',J.yld i H x H'->g x σ H' fun σ2 H2=>tb { D with nx:=N,ct:=N,bk:=D.nx } σ2 H2)
def Zid(fp:List Addr)(h:Heap):List (Addr×Obj):=fp.filterMap fun b=>(h.get? b).map fun o=>(b,o)
theorem Za1(hb:b∈fp)(e:h.get? b=some o):(b,o)∈Zid fp h:=List.mem_filterMap.mpr ⟨b,hb,by rw [e];rfl⟩
theorem Zs6(hp:p∈Zid fp h):p.1∈fp/\h.get? p.1=some p.2:=by
 obtain ⟨b,hb,e⟩:=List.mem_filterMap.mp hp;cases q:h.get? b with
 | none=>rw [q] at e;cases e
 | some o =>
  rw [q] at e;have e':(b,o)=p:=Option.some.inj e;subst e';exact ⟨hb,q⟩
theorem Inv.pinned(I:Inv X a6 σ H s)(hf:∀b∈fp,Zju X a6 H b)(ho:∀b∈fp,∃o,s.heap.get? b=some o/\∀v,o.data ≠ .cell v):Inv X (a6++Zid fp s.heap) σ H s :=
 I.pins_of fun p hp=>(List.mem_append.mp hp).elim (fun z=>I.pin p (List.mem_append_right _ z)) fun z=>by
  obtain ⟨hb,e⟩:=Zs6 z;obtain ⟨f0,f1,f2,_⟩:=hf p.1 hb;obtain ⟨o,e',d⟩:=ho p.1 hb;rw [e] at e';cases e';exact ⟨e,f0,f1,f2,d⟩
theorem Inv.unpinned(I:Inv X (a6++pl) σ H s):Inv X a6 σ H s:=I.pins_of fun p hp=>I.pin p (List.mem_append_right _ (List.mem_append_left _ hp))
theorem Xn(hp:PassesOwn (model X.prog X.w) X.A X.env X.xe)(hc:X.calm=true)(hi:PI X tg m7 wi)(hg:PG X tg g)(hb:PSs X body tb)
  (hs:∀x,foldedSetIterable m7 X.env x=pure x:=by intro _;rfl):PS X (.For tg m7 body [] pos) (Ydu wi g tb):=by
 intro a6 s σ H D I h;refine wpAny_For (thn (hi a6 s σ H _ I h) fun v s1 h1=>thn h1 fun itv s2 h2=>?_) hs;obtain ⟨it,fp,tn,J,H2,e,I2,T,O2,f2,W,⟨m0,w0⟩,F1⟩:=h2;subst e;have z6:∀{H':Hp},(∀b∈fp,H' b=none)->∀b∈fp,Zju X a6 H' b:=fun hn b hb=>⟨hn b hb,(f2 b hb).2⟩
 refine codeAny_forLoop_any (fun n s'=>∃i σ' H',Inv X a6 σ' H' s'/\tn i s'.heap/\(∀b∈fp,H' b=none)/\W i n σ' H') ?_ m0 ⟨0,σ,H2,I2,O2,fun b hb=>(f2 b hb).1,w0⟩;rintro n s3 ⟨i,σ3,H3,I3,T5,fr3,w3⟩;rcases F1 i n σ3 H3 w3 with ⟨stop,qn⟩|⟨go,N,hN,step⟩
 ·refine wpAny_passesOwn hp (thn (T.done X rfl rfl rfl hc i a6 s3 σ3 H3 X.xe I3 (z6 fr3) T5 stop) fun r s4 ⟨hr,I4⟩=>?_);subst hr;exact wpAny_execs_nil ⟨σ3,H3,I4,qn⟩
 ·refine wpAny_passesOwn hp (thn (T.item X rfl rfl rfl hc i a6 s3 σ3 H3 X.xe I3 (z6 fr3) T5 go) fun r s4 ⟨u,hr,h4⟩=>?_);subst hr;refine wpAny_passesOwn hp (thn h4 fun _ s5 ⟨x,H5,I5,r5,y5,N8,fr5⟩=>?_);have I5':=I5.pinned (z6 fr5) (T.obj _ _ N8);refine wpAny_passesOwn hp (thn (hg _ s5 σ3 H5 x u _ I5' r5 (step x H5 y5)) fun _ s6 ⟨σ6,H6,I6,q6⟩=>?_);refine wpAny_passesOwn hp (thn (hb _ s6 σ6 H6 _ I6 q6) fun f s7 q7=>?_);have w6:∀{σ7:St} {H7:Hp},Inv X (a6++Zid fp s5.heap) σ7 H7 s7->N σ7 H7->∃m,m<n/\∃i σ' H',Inv X a6 σ' H' s7/\tn i s7.heap/\(∀b∈fp,H' b=none)/\W i m σ' H':=fun {σ7 H7} I7 n7=>by
   obtain ⟨m',hm,w7⟩:=hN σ7 H7 n7;refine ⟨m',hm,i+1,σ7,H7,I7.unpinned,T.keep _ _ _ N8 fun b hb o e=>(I7.pin (b,o) (List.mem_append_right _ (List.mem_append_right _ (Za1 hb e)))).1,fun b hb=>?_,w7⟩;obtain ⟨o,e,d⟩:=T.obj _ _ N8 b hb;exact (I7.pin (b,o) (List.mem_append_right _ (List.mem_append_right _ (Za1 hb e)))).2.1
  cases f with
  | next=>obtain ⟨σ7,H7,I7,n7⟩:=q7;exact w6 I7 n7
  | cont=>obtain ⟨σ7,H7,I7,n7⟩:=q7;exact w6 I7 n7
  | brk=>obtain ⟨σ7,H7,I7,q7⟩:=q7;exact ⟨σ7,H7,I7.unpinned,q7⟩
  | ret v=>obtain ⟨x7,σ7,H7,I7,r7,q7⟩:=q7;exact ⟨x7,σ7,H7,I7.unpinned,r7,q7⟩
end
theorem X0{K:Frag}{a:Addr}{xs:List V}{g:TG}{tb:TS}{D:Zh3}{σ:St}{H:Hp}(Pv:Nat->St->Hp->Prop)(h0:Pv 0 σ H)(hl:∀i σ H,i<=xs.length->Pv i σ H->SqL K H a xs)
  (hs:∀i x σ H,xs[i]? =some x->Pv i σ H->g x σ H fun σ2 H2=>tb { D with nx:=Pv (i+1),ct:=Pv (i+1),bk:=D.nx } σ2 H2) (hd:∀σ H,Pv xs.length σ H->D.nx σ H) :
  ∃W:Nat->Nat->St->Hp->Prop,(∃m,W 0 m σ H)/\∀i m σ H,W i m σ H ->
   ((Itl K a).stop i H/\D.nx σ H)\/((Itl K a).go i H/\∃N:St->Hp->Prop,(∀σ' H',N σ' H'->∃m',m'<m/\W (i+1) m' σ' H')/\∀x H',(Itl K a).yld i H x H'->g x σ H' fun σ2 H2=>tb { D with nx:=N,ct:=N,bk:=D.nx } σ2 H2):=by
 refine ⟨fun i m σ H=>m=xs.length-i/\i<=xs.length/\Pv i σ H,⟨xs.length,by simp,Nat.zero_le _,h0⟩,?_⟩;rintro i m σ H ⟨rfl,hi,p⟩;have q:=hl i σ H hi p
 by_cases c6:i<xs.length
 ·refine .inr ⟨⟨xs,xs[i],q,by simp [c6]⟩,Pv (i+1),fun σ' H' p'=>⟨xs.length-(i+1),by lia,rfl,c6,p'⟩,fun x H' y=>?_⟩;obtain ⟨e,y⟩:=y;subst e;exact hs i x σ _ (y xs q) p
 ·have e:i=xs.length:=by lia
  subst e;exact .inl ⟨⟨xs,q,Nat.le_refl _⟩,hd σ H p⟩
theorem Zwx{K:Frag}{a:Addr}{xs:List V}{g:TG}{tb:TS}{D:Zh3}{σ:St}{H:Hp}(Pv:Nat->St->Hp->Prop)(h0:Pv 0 σ H)(hl:∀i σ H,i<=xs.length->Pv i σ H->SqT K H a xs)
  (hs:∀i x σ H,xs[i]? =some x->Pv i σ H->g x σ H fun σ2 H2=>tb { D with nx:=Pv (i+1),ct:=Pv (i+1),bk:=D.nx } σ2 H2) (hd:∀σ H,Pv xs.length σ H->D.nx σ H) :
  ∃W:Nat->Nat->St->Hp->Prop,(∃m,W 0 m σ H)/\∀i m σ H,W i m σ H ->
   ((Itt K a).stop i H/\D.nx σ H)\/((Itt K a).go i H/\∃N:St->Hp->Prop,(∀σ' H',N σ' H'->∃m',m'<m/\W (i+1) m' σ' H')/\∀x H',(Itt K a).yld i H x H'->g x σ H' fun σ2 H2=>tb { D with nx:=N,ct:=N,bk:=D.nx } σ2 H2):=by
 refine ⟨fun i m σ H=>m=xs.length-i/\i<=xs.length/\Pv i σ H,⟨xs.length,by simp,Nat.zero_le _,h0⟩,?_⟩;rintro i m σ H ⟨rfl,hi,p⟩;have q:=hl i σ H hi p
 by_cases c6:i<xs.length
 ·refine .inr ⟨⟨xs,xs[i],q,by simp [c6]⟩,Pv (i+1),fun σ' H' p'=>⟨xs.length-(i+1),by lia,rfl,c6,p'⟩,fun x H' y=>?_⟩;obtain ⟨e,y⟩:=y;subst e;exact hs i x σ _ (y xs q) p
 ·have e:i=xs.length:=by lia
  subst e;exact .inl ⟨⟨xs,q,Nat.le_refl _⟩,hd σ H p⟩
theorem Ziw{lo:Int}{n:Nat}{g:TG}{tb:TS}{D:Zh3}{σ:St}{H:Hp}(Pv:Nat->St->Hp->Prop)(h0:Pv 0 σ H)
  (hs:∀i σ H,i<n->Pv i σ H->g (.int (lo+i)) σ H fun σ2 H2=>tb { D with nx:=Pv (i+1),ct:=Pv (i+1),bk:=D.nx } σ2 H2) (hd:∀σ H,Pv n σ H->D.nx σ H) :
  ∃W:Nat->Nat->St->Hp->Prop,(∃m,W 0 m σ H)/\∀i m σ H,W i m σ H ->
   ((Itr lo n).stop i H/\D.nx σ H)\/((Itr lo n).go i H/\∃N:St->Hp->Prop,(∀σ' H',N σ' H'->∃m',m'<m/\W (i+1) m' σ' H')/\∀x H',(Itr lo n).yld i H x H'->g x σ H' fun σ2 H2=>tb { D with nx:=N,ct:=N,bk:=D.nx } σ2 H2):=by
 refine ⟨fun i m σ H=>m=n-i/\i<=n/\Pv i σ H,⟨n,by simp,Nat.zero_le _,h0⟩,?_⟩;rintro i m σ H ⟨rfl,hi,p⟩
 by_cases c6:i<n
 ·refine .inr ⟨c6,Pv (i+1),fun σ' H' p'=>⟨n-(i+1),by lia,rfl,c6,p'⟩,fun x H' y=>?_⟩;obtain ⟨e,y⟩:=y;subst e y;exact hs i σ _ c6 p
 ·have e:i=n:=by lia
  subst e;exact .inl ⟨Nat.le_refl _,hd σ H p⟩
end L2
namespace L2
open PySem PySem.Spec PyProof.Rows
abbrev R2:=V->V->Hp->VK->Prop
def OpR(X:Cx)(f:Value->Value->Sem Value)(r:R2):Prop :=
 ∀(a6:List (Addr×Obj)) (s:Shared) (σ:St) (H:Hp) (x y:V) (v u:Value) (Q:VK),Inv X a6 σ H s->Yj x v->Yj y u->r x y H Q ->
  wpAny (model X.prog X.w) X.A (f v u) (EP X a6 σ Q) X.xe s
def UnR(X:Cx)(f:Value->Sem Value)(r:V->Hp->VK->Prop):Prop :=
 ∀(a6:List (Addr×Obj)) (s:Shared) (σ:St) (H:Hp) (x:V) (v:Value) (Q:VK),Inv X a6 σ H s->Yj x v->r x H Q ->
  wpAny (model X.prog X.w) X.A (f v) (EP X a6 σ Q) X.xe s
def Xu(X:Cx)(f:Value)(r:List V->Hp->VK->Prop):Prop :=
 ∀(a6:List (Addr×Obj)) (s:Shared) (σ:St) (H:Hp) (xs:List V) (us:List Value) (Q:VK),Inv X a6 σ H s->Yc xs us->r xs H Q ->
  wpAny (model X.prog X.w) X.A (call f us) (EP X a6 σ Q) X.xe s
def tOp(r:R2)(ta tb:TE):TE:=fun σ H Q=>ta σ H fun x H1=>tb σ H1 fun y H2=>r x y H2 Q
def tUn(r:V->Hp->VK->Prop)(ta:TE):TE:=fun σ H Q=>ta σ H fun x H1=>r x H1 Q
def rI(C:Int->Int->Prop)(g:Int->Int->V):R2:=fun x y H Q=>∃i j,x=.int i/\y=.int j/\C i j/\Q (g i j) H
def rI0(g:Int->Int->V):R2:=fun x y H Q=>∃i j,x=.int i/\y=.int j/\Q (g i j) H
def rU(g:Int->V):V->Hp->VK->Prop:=fun x H Q=>∃i,x=.int i/\Q (g i) H
section
variable {X:Cx} {a b c:Expr} {ta tb tc:TE} {pos:Pos}
theorem Zz8(ha:PE X a ta)(hb:PE X b tb){R:V->V->Hp->Prop}(I:Inv X a6 σ H s)
  (h:ta σ H fun x H1=>tb σ H1 fun y H2=>R x y H2) {Q:Value->Shared->Prop} {f:Value->Value->Sem Value}
  (hf:∀v u s2 x y H2,Inv X a6 σ H2 s2->Yj x v->Yj y u->R x y H2->wpAny (model X.prog X.w) X.A (f v u) Q X.xe s2) :
  wpAny (model X.prog X.w) X.A (eval a X.env) (fun v s₁=>wpAny (model X.prog X.w) X.A (eval b X.env) (fun u s₂=>wpAny (model X.prog X.w) X.A (f v u) Q X.xe s₂) X.xe s₁) X.xe s:=by
 refine thn (ha a6 s σ H _ I h) fun v s1 ⟨x,H1,I1,r1,q1⟩=>?_
 refine thn (hb a6 s1 σ H1 _ I1 q1) fun u s2 ⟨y,H2,I2,r2,q2⟩=>?_
 exact hf v u s2 x y H2 I2 r1 r2 q2
theorem Zu(ho:OpR X (binaryOp op) r)(ha:PE X a ta)(hb:PE X b tb):PE X (.BinOp a op b pos) (tOp r ta tb):=by
 intro a6 s σ H Q I h;exact wpAny_BinOp (Zz8 ha hb I h fun v u s2 x y H2 I2 rx ry q=>ho a6 s2 σ H2 x y v u Q I2 rx ry q)
theorem Znc{r:V->Hp->VK->Prop}(ho:UnR X (unaryOp op) r)(ha:PE X a ta):PE X (.UnaryOp op a pos) (tUn r ta):=by
 intro a6 s σ H Q I h;exact UnaryOp_ (thn (ha a6 s σ H _ I h) fun v s1 ⟨x,H1,I1,r1,q1⟩=>ho a6 s1 σ H1 x v Q I1 r1 q1)
theorem opI{f:Value->Value->Sem Value}{C:Int->Int->Prop}{g:Int->Int->Int}
  (J7:∀(i j:Int) (t u:Tok) (s:Shared) (Q:Value->Shared->Prop) (E:Value->Shared->Prop),C i j->Q (.int (g i j) s.toks) { s with toks:=s.toks+1 }->wpAny (model X.prog X.w) X.A (f (.int i t) (.int j u)) Q E s) :
  OpR X f (rI C fun i j=>.int (g i j)):=by
 intro a6 s σ H x y v u Q I rx ry h;obtain ⟨i,j,rfl,rfl,hc,q⟩:=h;obtain ⟨t,rfl⟩:=rx;obtain ⟨t',rfl⟩:=ry;exact J7 i j t t' s _ _ hc ⟨.int (g i j),H,I.tok _,⟨_,rfl⟩,q⟩
theorem Ya3{f:Value->Value->Sem Value}{g:Int->Int->Int}
  (J7:∀(i j:Int) (t u:Tok) (s:Shared) (Q:Value->Shared->Prop) (E:Value->Shared->Prop),Q (.int (g i j) s.toks) { s with toks:=s.toks+1 }->wpAny (model X.prog X.w) X.A (f (.int i t) (.int j u)) Q E s) :
  OpR X f (rI0 fun i j=>.int (g i j)):=by
 intro a6 s σ H x y v u Q I rx ry h;obtain ⟨i,j,rfl,rfl,q⟩:=h;obtain ⟨t,rfl⟩:=rx;obtain ⟨t',rfl⟩:=ry;exact J7 i j t t' s _ _ ⟨.int (g i j),H,I.tok _,⟨_,rfl⟩,q⟩
theorem Zz1{f:Value->Value->Sem Value}{g:Int->Int->Bool}
  (J7:∀(i j:Int) (t u:Tok) (s:Shared) (Q:Value->Shared->Prop) (E:Value->Shared->Prop),Q (.bool (g i j)) s->wpAny (model X.prog X.w) X.A (f (.int i t) (.int j u)) Q E s) :
  OpR X f (rI0 fun i j=>.bl (g i j)):=by
 intro a6 s σ H x y v u Q I rx ry h;obtain ⟨i,j,rfl,rfl,q⟩:=h;obtain ⟨t,rfl⟩:=rx;obtain ⟨t',rfl⟩:=ry;exact J7 i j t t' s _ _ ⟨.bl (g i j),H,I,rfl,q⟩
def Ydj(i j:Int):Prop:=0<j/\j<1073741824
def Zzy(i j:Int):Prop:=(-(2 ^ 64)<i/\i<2 ^ 64)\/(-(2 ^ 64)<j/\j<2 ^ 64)
theorem Zzy.ok(h:Zzy i j):IntMulOk i j:=by
 rcases h with ⟨h1,h2⟩|⟨h1,h2⟩
 ·exact .of_left (intBits_le_64 h1 h2)
 ·exact .of_right (intBits_le_64 h1 h2)
theorem Yag:OpR X (binaryOp .Add) (rI0 fun i j=>.int (i+j)):=Ya3 fun _ _ _ _ _ _ _ q=>add_int q
theorem Zvy:OpR X (binaryOp .Sub) (rI0 fun i j=>.int (i-j)):=Ya3 fun _ _ _ _ _ _ _ q=>sub_int q
theorem Zgz:OpR X (binaryOp .Mult) (rI Zzy fun i j=>.int (i * j)):=opI fun _ _ _ _ _ _ _ hc q=>mul_int q hc.ok
theorem Ys:OpR X (binaryOp .FloorDiv) (rI Ydj fun i j=>.int (i / j)):=opI fun i j _ _ _ _ _ hc q=>by
 have h1:(0:Int)<j:=hc.1;have h2:j<1073741824:=hc.2;exact floordiv_int (by lia) (by rw [Int.fdiv_eq_ediv_of_nonneg i (by lia)];exact q) (.inl (PyProof.noPylong_small (by lia)))
theorem Yu:OpR X (binaryOp .Mod) (rI (fun _ j=>0<j) fun i j=>.int (i%j)):=opI fun i j _ _ _ _ _ hc q=>by
 have h1:(0:Int)<j:=hc;exact mod_int' (by lia) (by rw [Int.fmod_eq_emod_of_nonneg i (by lia)];exact q)
theorem unI{f:Value->Sem Value}{g:Int->Int}
  (J7:∀(i:Int) (t:Tok) (s:Shared) (Q:Value->Shared->Prop) (E:Value->Shared->Prop),Q (.int (g i) s.toks) { s with toks:=s.toks+1 }->wpAny (model X.prog X.w) X.A (f (.int i t)) Q E s) :
  UnR X f (rU fun i=>.int (g i)):=by
 intro a6 s σ H x v Q I rx h;obtain ⟨i,rfl,q⟩:=h;obtain ⟨t,rfl⟩:=rx;exact J7 i t s _ _ ⟨.int (g i),H,I.tok _,⟨_,rfl⟩,q⟩
theorem Zin:UnR X (unaryOp .USub) (rU fun i=>.int (-i)):=unI fun _ _ _ _ _ q=>neg_int q
end
def Yb3:V->V->Bool
 | .non,.non=>true | .non,.int _=>true | .int _,.non=>true | .non,.bl _=>true | .bl _,.non=>true | .non,.str _=>true | .str _,.non=>true
 | .int _,.int _=>true | .bl _,.bl _=>true | .str _,.str _=>true | .byt _,.byt _=>true
 | .int _,.str _=>true | .str _,.int _=>true | .bl _,.str _=>true | .str _,.bl _=>true
 | _,_=>false
def rEq:R2:=fun x y H Q=>Yb3 x y=true/\Q (.bl (decide (x=y))) H
def rNe:R2:=fun x y H Q=>Yb3 x y=true/\Q (.bl (!decide (x=y))) H
theorem Zsl:decide (V.int i=V.int j)=(i ==j):=by
 rw [Bool.eq_iff_iff];simp
theorem Zvj:decide (V.bl i=V.bl j)=(i ==j):=by
 rw [Bool.eq_iff_iff];simp
theorem Zso:decide (V.str i=V.str j)=(i ==j):=by
 rw [Bool.eq_iff_iff];simp
theorem Zsk:decide (V.byt i=V.byt j)=(i.toList ==j.toList):=by
 rw [Bool.eq_iff_iff];cases i;cases j;simp
section
variable {X:Cx} {a b c:Expr} {ta tb tc:TE} {pos:Pos}
theorem Y2(I:Inv X a6 σ H s)(q:Q (.bl k) H)(e:k=k'):EP X a6 σ Q (.bool k') s:=by
 subst e;exact ⟨.bl k,H,I,rfl,q⟩
theorem Ycb:OpR X (compareOp .Eq) rEq:=by
 intro a6 s σ H x y v u Q I rx ry h;obtain ⟨hs,q⟩:=h;cases x with
 | non =>
  cases rx;cases y with
  | non=>cases ry;exact PySem.EqNone.eq_none_none (Y2 I q (by simp))
  | bl j=>cases ry;exact PySem.EqNone.eq_none_bool (Y2 I q (by simp))
  | int j=>obtain ⟨t',rfl⟩:=ry;exact PySem.EqNone.eq_none_int (Y2 I q (by simp))
  | str j=>obtain ⟨t',rfl⟩:=ry;exact PySem.EqNone.eq_none_str (Y2 I q (by simp))
  | _=>exact absurd (show false=true from hs) Bool.false_ne_true
 | bl i =>
  cases rx;cases y with
  | non=>cases ry;exact PySem.EqNone.eq_bool_none (Y2 I q (by simp))
  | bl j=>cases ry;exact eq_bool (Y2 I q Zvj)
  | str j=>obtain ⟨t',rfl⟩:=ry;exact PySem.EqMixed.eq_bool_str (Y2 I q (by simp))
  | _=>exact absurd (show false=true from hs) Bool.false_ne_true
 | int i =>
  obtain ⟨t,rfl⟩:=rx;cases y with
  | non=>cases ry;exact PySem.EqNone.eq_int_none (Y2 I q (by simp))
  | int j=>obtain ⟨t',rfl⟩:=ry;exact eq_int (Y2 I q Zsl)
  | str j=>obtain ⟨t',rfl⟩:=ry;exact PySem.EqMixed.eq_int_str (Y2 I q (by simp))
  | _=>exact absurd (show false=true from hs) Bool.false_ne_true
 | str i =>
  obtain ⟨t,rfl⟩:=rx;cases y with
  | non=>cases ry;exact PySem.EqNone.eq_str_none (Y2 I q (by simp))
  | bl j=>cases ry;exact PySem.EqMixed.eq_str_bool (Y2 I q (by simp))
  | int j=>obtain ⟨t',rfl⟩:=ry;exact PySem.EqMixed.eq_str_int (Y2 I q (by simp))
  | str j=>obtain ⟨t',rfl⟩:=ry;exact eq_str (Y2 I q Zso)
  | _=>exact absurd (show false=true from hs) Bool.false_ne_true
 | byt i =>
  obtain ⟨t,rfl⟩:=rx;cases y with
  | byt j=>obtain ⟨t',rfl⟩:=ry;exact PySem.W.eq_bytes (Y2 I q Zsk)
  | _=>exact absurd (show false=true from hs) Bool.false_ne_true
 | _=>cases y <;>exact absurd (show false=true from hs) Bool.false_ne_true
theorem Ybd:OpR X (compareOp .NotEq) rNe:=by
 intro a6 s σ H x y v u Q I rx ry h;obtain ⟨hs,q⟩:=h;cases x with
 | non =>
  cases rx;cases y with
  | non=>cases ry;exact PySem.EqNone.ne_none_none (Y2 I q (by simp))
  | bl j=>cases ry;exact PySem.EqNone.ne_none_bool (Y2 I q (by simp))
  | int j=>obtain ⟨t',rfl⟩:=ry;exact PySem.EqNone.ne_none_int (Y2 I q (by simp))
  | str j=>obtain ⟨t',rfl⟩:=ry;exact PySem.EqNone.ne_none_str (Y2 I q (by simp))
  | _=>exact absurd (show false=true from hs) Bool.false_ne_true
 | bl i =>
  cases rx;cases y with
  | non=>cases ry;exact PySem.EqNone.ne_bool_none (Y2 I q (by simp))
  | bl j=>cases ry;exact ne_bool (Y2 I q (congrArg not Zvj))
  | str j=>obtain ⟨t',rfl⟩:=ry;exact PySem.EqMixed.ne_bool_str (Y2 I q (by simp))
  | _=>exact absurd (show false=true from hs) Bool.false_ne_true
 | int i =>
  obtain ⟨t,rfl⟩:=rx;cases y with
  | non=>cases ry;exact PySem.EqNone.ne_int_none (Y2 I q (by simp))
  | int j=>obtain ⟨t',rfl⟩:=ry;exact ne_int (Y2 I q (congrArg not Zsl))
  | str j=>obtain ⟨t',rfl⟩:=ry;exact PySem.EqMixed.ne_int_str (Y2 I q (by simp))
  | _=>exact absurd (show false=true from hs) Bool.false_ne_true
 | str i =>
  obtain ⟨t,rfl⟩:=rx;cases y with
  | non=>cases ry;exact PySem.EqNone.ne_str_none (Y2 I q (by simp))
  | bl j=>cases ry;exact PySem.EqMixed.ne_str_bool (Y2 I q (by simp))
  | int j=>obtain ⟨t',rfl⟩:=ry;exact PySem.EqMixed.ne_str_int (Y2 I q (by simp))
  | str j=>obtain ⟨t',rfl⟩:=ry;exact ne_str (Y2 I q (congrArg not Zso))
  | _=>exact absurd (show false=true from hs) Bool.false_ne_true
 | byt i =>
  obtain ⟨t,rfl⟩:=rx;cases y with
  | byt j=>obtain ⟨t',rfl⟩:=ry;exact PySem.W.ne_bytes (Y2 I q (congrArg not Zsk))
  | _=>exact absurd (show false=true from hs) Bool.false_ne_true
 | _=>cases y <;>exact absurd (show false=true from hs) Bool.false_ne_true
theorem Znk:OpR X (compareOp .Lt) (rI0 fun i j=>.bl (decide (i<j))):=Zz1 fun _ _ _ _ _ _ _ q=>lt_int q
theorem Zyp:OpR X (compareOp .LtE) (rI0 fun i j=>.bl (decide (i<=j))):=Zz1 fun _ _ _ _ _ _ _ q=>le_int q
theorem Znw:OpR X (compareOp .Gt) (rI0 fun i j=>.bl (decide (j<i))):=Zz1 fun _ _ _ _ _ _ _ q=>gt_int q
theorem Zs9:OpR X (compareOp .In) (fun x y H Q=>∃i j,x=.str i/\y=.str j/\Q (.bl (!(Builtin.Str.occurrences j i 0 j.length 1).isEmpty)) H):=by
 intro a6 s σ H x y v u Q I rx ry h;obtain ⟨i,j,rfl,rfl,q⟩:=h;obtain ⟨t,rfl⟩:=rx;obtain ⟨t',rfl⟩:=ry;exact in_str (Y2 I q rfl)
theorem Zlg:OpR X (compareOp .Is) (fun x y H Q=>y=.non/\Q (.bl (decide (x=.non))) H):=by
 intro a6 s σ H x y v u Q I rx ry h;obtain ⟨rfl,q⟩:=h;cases ry;refine is_none_gen (Y2 I q ?_);cases x <;>first
  | (cases rx;rfl)
  | (obtain ⟨t,rfl⟩:=rx;rfl)
theorem OpR.or{f:Value->Value->Sem Value}(h:OpR X f r)(h':OpR X f r'):OpR X f (fun x y H Q=>r x y H Q\/r' x y H Q):=by
 intro a6 s σ H x y v u Q I rx ry q;rcases q with q|q
 ·exact h a6 s σ H x y v u Q I rx ry q
 ·exact h' a6 s σ H x y v u Q I rx ry q
theorem Zr(b:Expr)(h:op ≠ .In:=by decide)(h2:op ≠ .NotIn:=by decide):behindInMarks op b=false:=by
 have e1:(op ==CmpOp.In)=false:=by cases op <;>first | rfl | exact absurd rfl h
 have e2:(op ==CmpOp.NotIn)=false:=by cases op <;>first | rfl | exact absurd rfl h2
 cases b <;>simp [behindInMarks,e1,e2]
theorem W0(ho:OpR X (compareOp op) r)(ha:PE X a ta)(hb:PE X b tb)(hm:behindInMarks op b=false):PE X (.Compare a [op] [b] pos) (tOp r ta tb):=by
 intro a6 s σ H Q I h;exact wpAny_Compare1 (Zz8 ha hb I h fun v u s2 x y H2 I2 rx ry q=>ho a6 s2 σ H2 x y v u Q I2 rx ry q) hm
def Zvb(t:TE):TT:=fun σ H Q=>t σ H fun x H'=>∃k,x=.bl k/\Q k H'
theorem Zj(ho:OpR X (compareOp op) r)(ha:PE X a ta)(hb:PE X b tb)(hm:behindInMarks op b=false):PT X (.Compare a [op] [b] pos) (Zvb (tOp r ta tb)):=by
 intro a6 s σ H Q I h;refine wpAny_isTrue_Compare1 (thn (ha a6 s σ H _ I h) fun v s1 ⟨x,H1,I1,r1,q1⟩=>thn (hb a6 s1 σ H1 _ I1 q1) fun u s2 ⟨y,H2,I2,r2,q2⟩ =>
  thn (ho a6 s2 σ H2 x y v u _ I2 r1 r2 q2) fun c s3 ⟨z,H3,I3,r3,k,e,q3⟩=>?_) hm
 subst e;cases r3;exact wpAny_truthy_bool ⟨H3,I3,q3⟩
def Zz3(r r':R2)(ta tb tc:TE):TE:=fun σ H Q=>ta σ H fun x H1=>tb σ H1 fun y H2=>r x y H2 fun z H3=>∃k,z=.bl k /\
 (if k=true then tc σ H3 fun w' H4=>r' y w' H4 Q else Q (.bl false) H3)
theorem Zu8(ho:OpR X (compareOp op) r)(T4:OpR X (compareOp op') r')(ha:PE X a ta)(hb:PE X b tb)(hc:PE X c tc)
  (hm:lastMarks [op,op'] [b,c]=false:=by with_unfolding_all rfl):PT X (.Compare a [op,op'] [b,c] pos) (Zvb (Zz3 r r' ta tb tc)):=by
 intro a6 s σ H Q I h;refine isTrue_chain (thn (ha a6 s σ H _ I h) fun v s1 ⟨x,H1,I1,r1,q1⟩=>test_link (thn (hb a6 s1 σ H1 _ I1 q1) fun u s2 ⟨y,H2,I2,r2,q2⟩ =>
  thn (ho a6 s2 σ H2 x y v u _ I2 r1 r2 q2) fun d s3 ⟨z,H3,I3,r3,k,e,q3⟩=>?_)) hm
 subst e;cases r3;refine wpAny_truthy_bool ?_;cases k with
 | false =>
  obtain ⟨k',e',q'⟩:=q3;cases e';exact ite_ff ⟨H3,I3,q'⟩
 | true =>
  refine ite_tt (test_last (thn (hc a6 s3 σ H3 _ I3 q3) fun w' s4 ⟨z',H4,I4,r4,q4⟩=>thn (T4 a6 s4 σ H4 y z' u w' _ I4 r2 r4 q4) fun d' s5 ⟨z2,H5,I5,r5,k2,e2,q5⟩=>?_));subst e2;cases r5;exact wpAny_truthy_bool ⟨H5,I5,q5⟩
theorem Zk1:(sizeLine:Nat)<2 ^ 63:=by rw [sizeLine_eq];decide
theorem Zqu:OpR X (binaryOp .Add) (fun x y H Q=>∃i j,x=.str i/\y=.str j/\i.length+j.length<=sizeLine/\Q (.str (i++j)) H):=by
 intro a6 s σ H x y v u Q I rx ry h;obtain ⟨i,j,rfl,rfl,hz,q⟩:=h;obtain ⟨t,rfl⟩:=rx;obtain ⟨t',rfl⟩:=ry;exact add_str (fun t' tk=>⟨.str (i++j),H,I.tok _,⟨_,rfl⟩,q⟩) hz
theorem Zaz(r:Yc [x] us):∃u,us=[u]/\Yj x u:=by
 cases r with
 | cons r1 r2=>cases r2;exact ⟨_,rfl,r1⟩
theorem Zpy(r:Yc [x,y] us):∃u w',us=[u,w']/\Yj x u/\Yj y w':=by
 cases r with
 | cons r1 r2 =>
  cases r2 with
  | cons r3 r4=>cases r4;exact ⟨_,_,rfl,r1,r3⟩
theorem Zte(hc:X.calm=true):Xu X (.builtin "max") (fun xs H Q=>∃i j,xs=[.int i,.int j]/\Q (.int (if j >i then j else i)) H):=by
 intro a6 s σ H xs us Q I r h;obtain ⟨i,j,rfl,q⟩:=h;obtain ⟨u,w',rfl,⟨t,rfl⟩,⟨t',rfl⟩⟩:=Zpy r;refine max_two_ints (I.ok.hd hc) fun h' tk k=>⟨_,H,I.kept k,?_,q⟩
 by_cases hj:j >i
 ·rw [if_pos hj,if_pos hj];exact ⟨_,rfl⟩
 ·rw [if_neg hj,if_neg hj];exact ⟨_,rfl⟩
theorem Ztk(hc:X.calm=true):Xu X (.builtin "min") (fun xs H Q=>∃i j,xs=[.int i,.int j]/\Q (.int (if j<i then j else i)) H):=by
 intro a6 s σ H xs us Q I r h;obtain ⟨i,j,rfl,q⟩:=h;obtain ⟨u,w',rfl,⟨t,rfl⟩,⟨t',rfl⟩⟩:=Zpy r;refine min_two_ints (I.ok.hd hc) fun h' tk k=>⟨_,H,I.kept k,?_,q⟩
 by_cases hj:j<i
 ·rw [if_pos hj,if_pos hj];exact ⟨_,rfl⟩
 ·rw [if_neg hj,if_neg hj];exact ⟨_,rfl⟩
theorem Zb3:Xu X (.type "str") (fun xs H Q=>∃i,xs=[.int i]/\i.natAbs.log2<1920/\Q (.str (toString i)) H):=by
 intro a6 s σ H xs us Q I r h;obtain ⟨i,rfl,hz,q⟩:=h;obtain ⟨u,rfl,t,rfl⟩:=Zaz r;exact PySem.P.str_of_int hz ⟨.str _,H,I.tok _,⟨_,rfl⟩,q⟩
end
end L2
namespace L2
open PySem PySem.Spec PyProof.Rows
structure Zrt(h:Heap)(x dx C:Addr)(mA:Str->Option Value):Prop where
 obj:h.get? x=some (PySem.W.instObj C dx)
 ns:h.Ns1 dx mA
 ne:dx≠x
theorem Ztx{h:Heap}{dx:Addr}{mA:Str->Option Value}(n:h.Ns1 dx mA):∃od,h.get? dx=some od/\∀name,PySem.W.lookIn name od=some (mA name):=by
 obtain ⟨o,es,ep,ho,hd,hk,_,hm⟩:=n;refine ⟨o,ho,fun name=>?_⟩;have e:=hm name;unfold nsFind findBy at e;rw [<-Array.find?_toList] at e;unfold PySem.W.lookIn;rw [hd];dsimp only;split
 ·rename_i y q;rw [q] at e;exact congrArg some e
 ·rename_i q;rw [q] at e;have a:es.toList.any (·.refKey)=false:=by
   rw [List.any_eq_false];intro y hy;obtain ⟨z,t,E8⟩:=hk y (Array.mem_toList_iff.mp hy);simp [DictEntry.refKey,E8]
  have a':¬es.toList.any (·.refKey)=true:=by rw [a];exact Bool.false_ne_true
  rw [if_neg a'];exact congrArg some e
theorem Zrt.look{mA:Str->Option Value}(I:Zrt h x dx C mA):∃od,PySem.W.InstAt h x (PySem.W.instObj C dx) C (some od)/\∀name,PySem.W.lookIn name od=some (mA name) :=
 let ⟨od,ho,hl⟩:=Ztx I.ns
 ⟨od,⟨I.obj,rfl,rfl,ho⟩,hl⟩
section
variable {prog:Program} {w:World} {A:Around} {E:Value->Shared->Prop} {s:Shared} {K:Frag} {x dx C f:Addr} {mA:Str->Option Value} {name:Str} {v:Value}
theorem Zxt{Q:Value->Shared->Prop}(X:K.In s.heap)(I:Zrt s.heap x dx C mA)(hg:PySem.W.plainGet K C name=true)(hh:PySem.W.hasDictIn K C=true)
  (ha:findIn K (.ref C) name=some none) (hv:mA name=some v) (hv':PySem.W.handedIn v=true) (h:Q v { s with toks:=s.toks+1 }) :
  wpAny (model prog w) A (getAttr (.ref x) name expr) Q E s:=by
 obtain ⟨od,J,hl⟩:=I.look;exact PySem.W.get_value X J (PySem.W.plainGet_of hg).1 (PySem.W.findObj_own hh ha rfl (by rw [hl,hv])) hv' h
theorem Zwl{Q:Value×List Value->Shared->Prop}(X:K.In s.heap)(I:Zrt s.heap x dx C mA)(hg:PySem.W.plainGet K C name=true)
  (hf:findIn K (.ref C) name=some (some (.ref f))) (ht:PySem.W.isFn K (.ref f)=true) (hv:mA name=none) (h:Q (.ref f,[.ref x]) s) :
  wpAny (model prog w) A (getMethod (.ref x) name pl) Q E s:=by
 obtain ⟨od,J,hl⟩:=I.look;exact PySem.W.method_fn X J (PySem.W.plainGet_of hg).1 (PySem.W.plainGet_of hg).2 hf (beq_iff_eq.mp ht) (by show (PySem.W.lookIn name od).map (·.isSome)=some false;rw [hl,hv];rfl) h
theorem Zx9{Q:Unit->Shared->Prop}(X:K.In s.heap)(I:Zrt s.heap x dx C mA)
  (hs:findIn K (.ref C) "__setattr__" =some (some (.builtin "object.__setattr__"))) (hp:PySem.W.plainOver K C=true) (ht:PySem.W.takerIn K C name=some none) (hh:PySem.W.hasDictIn K C=true)
  (hw:PySem.Within mA ns) (hsz:ns.length<=sizeLine)
  (h:∀h',Zrt h' x dx C (fun y=>if y=name then some v else mA y)->Heap.SameBut dx s.heap h'->Q () { s with heap:=h',toks:=s.toks+2 }) :
  wpAny (model prog w) A (setAttr (.ref x) name v) Q E s:=by
 obtain ⟨od,J,hl⟩:=I.look;refine PySem.W.set_plain X J hs (PySem.W.osa_open (s:={ s with toks:=s.toks+1 }) (r:=none) X J hp ht fun b=>?_);obtain ⟨cd,hc,hd'⟩:=PySem.W.any_some hh;have hx:s.heap.get? x=some ⟨.ref C,some dx,.plain,#[]⟩:=I.obj;refine wpAny_bind (wpAny_pure (wpAny_bind (wpAny_bind (wpAny_loadPart hx (wpAny_bind (PySem.W.Looks.here (s:={ s with toks:=s.toks+1 }) (PySem.W.looks_clsIn X hc) ?_))))));rw [hd'];refine wpAny_pure (a:=some dx) (wpAny_bind (wpAny_pure (wpAny_bind ?_)));refine wpAny_nsSet1 (s:={ s with toks:=s.toks+1 }) I.ns fun h' hn2 N9=>?_
 obtain ⟨oD,esD,epD,hoD,hdD,hcD⟩:=hn2.count (PySem.Within.cons name v hw);refine wpAny_bind (wpAny_lookBehind hoD (by rw [hdD];exact pastItsLine_dict (Nat.le_trans hcD (by rw [List.length_cons];lia))) ?_);exact wpAny_pure (h _ ⟨(N9.2 _ (Ne.symm I.ne)).trans I.obj,hn2,I.ne⟩ N9)
theorem Zwm{R:Result->Shared->Prop}(X:K.In s.heap)(hm:PySem.W.makesIn K C=true)
  (hi:findIn K (.ref C) "__init__" =some (some (.ref f))) (hf:PySem.W.typeIn K (.ref f)=some (.type "function"))
  (h:codeAny (model prog w) (A.under (.builtin "type.__call__" ⟨.ref C ::vs,kw⟩)) (.call (.ref f) ⟨.ref (s.heap.objs.size+1) ::vs,kw⟩) (PySem.W.InitBack (s.heap.objs.size+1) R)
   { s with heap:=(s.heap.push PySem.W.emptyDict).push (PySem.W.instObj C s.heap.objs.size) }) :
  codeAny (model prog w) A (.call (.ref C) ⟨vs,kw⟩) R s:=by
 obtain ⟨hh,g,d,t,os⟩:=s;exact PySem.W.make_core (PySem.W.makes_of X hm) (PySem.W.looks_findIn X hi) (fun self=>PySem.W.bind_fn X self hf) (.inl rfl) h
end
def Zge(f:Str)(v:V):List (Str×V)->List (Str×V)
 | []=>[(f,v)]
 | (g,x) ::r=>if g=f then (g,v) ::r else (g,x) ::Zge f v r
theorem Zjd(f g:Str)(v:V):∀fs:List (Str×V),(Zge f v fs).lookup g=if g=f then some v else fs.lookup g
 | []=>by
  show List.lookup g [(f,v)]=_
  by_cases h:g=f
  ·have hb:(g ==f)=true:=beq_iff_eq.mpr h;simp only [List.lookup,hb,if_pos h]
  ·have hb:(g ==f)=false:=beq_eq_false_iff_ne.mpr h;simp only [List.lookup,hb,if_neg h]
 | (k,x) ::r=>by
  have ih:=Zjd f g v r;rw [show Zge f v ((k,x) ::r)=(if k=f then (k,v) ::r else (k,x) ::Zge f v r) from rfl]
  by_cases hk:k=f
  ·rw [if_pos hk]
   by_cases h:g=k
   ·have hb:(g ==k)=true:=beq_iff_eq.mpr h;simp only [List.lookup,hb,if_pos (h.trans hk)]
   ·have hb:(g ==k)=false:=beq_eq_false_iff_ne.mpr h;simp only [List.lookup,hb,if_neg (fun e:g=f=>h (e.trans hk.symm))]
  ·rw [if_neg hk]
   by_cases h:g=k
   ·have hb:(g ==k)=true:=beq_iff_eq.mpr h;simp only [List.lookup,hb,if_neg (fun e:g=f=>hk (h.symm.trans e))]
   ·have hb:(g ==k)=false:=beq_eq_false_iff_ne.mpr h;simp only [List.lookup,hb];exact ih
theorem Ziu(f:Str)(v:V):∀fs:List (Str×V),f∈(Zge f v fs).map (·.1)/\∀g,g∈fs.map (·.1)->g∈(Zge f v fs).map (·.1)
 | []=>⟨by simp [Zge],fun g h=>by simp at h⟩
 | (k,x) ::r=>by
  obtain ⟨i1,i2⟩:=Ziu f v r;rw [show Zge f v ((k,x) ::r)=(if k=f then (k,v) ::r else (k,x) ::Zge f v r) from rfl]
  by_cases hk:k=f
  ·rw [if_pos hk];subst hk;exact ⟨by simp,fun g h=>by simpa using h⟩
  ·rw [if_neg hk];refine ⟨?_,fun g h=>?_⟩
   ·rw [List.map_cons];exact List.mem_cons_of_mem _ i1
   ·rw [List.map_cons] at h ⊢;rcases List.mem_cons.mp h with e|e
    ·exact List.mem_cons.mpr (.inl e)
    ·exact List.mem_cons_of_mem _ (i2 g e)
theorem Zi7(f:Str)(v:V):∀fs:List (Str×V),(Zge f v fs).length<=fs.length+1
 | []=>by simp [Zge]
 | (k,x) ::r=>by
  have ih:=Zi7 f v r;rw [show Zge f v ((k,x) ::r)=(if k=f then (k,v) ::r else (k,x) ::Zge f v r) from rfl]
  by_cases hk:k=f
  ·rw [if_pos hk,List.length_cons,List.length_cons];lia
  ·rw [if_neg hk,List.length_cons,List.length_cons];lia
theorem Zdh.some_of(r:Zdh (some v) o):∃u,o=some u/\Yj v u:=by
 cases o with
 | none=>exact (show False from r).elim
 | some u=>exact ⟨u,rfl,r⟩
theorem Zdh.none_of(r:Zdh none o):o=none:=by
 cases o with
 | none=>rfl
 | some u=>exact (show False from r).elim
theorem Zsx(r:Yj v u):PySem.W.handedIn u=true:=by
 cases v with
 | non=>cases (show u=Value.none from r);rfl
 | bl b=>cases (show u=Value.bool b from r);rfl
 | int i=>obtain ⟨t,e⟩:=(show ∃t,u=Value.int i t from r);cases e;rfl
 | str x=>obtain ⟨t,e⟩:=(show ∃t,u=Value.str x t from r);cases e;rfl
 | byt b=>obtain ⟨t,e⟩:=(show ∃t,u=Value.bytes b t from r);cases e;rfl
 | flt b=>obtain ⟨t,e⟩:=(show ∃t,u=Value.float b t from r);cases e;rfl
 | ref a=>cases (show u=Value.ref a from r);rfl
 | ty n=>cases (show u=Value.type n from r);rfl
section
variable {P:Program} {w:World} {H H':Hp} {h h':Heap} {a C dx:Addr} {fs fs':List (Str×V)}
theorem Zj5(hok:HOk P w H h)(e:H a=some (.ins C dx fs)):∃mA,Zrt h a dx C mA/\(∀f,Zdh (fs.lookup f) (mA f))/\PySem.Within mA (fs.map (·.1))/\fs.length<=1000/\H dx=some (.own a):=by
 obtain ⟨d,z,ne,ob,mA,n,r,q⟩:=(show Yr P w H h a (.ins C dx fs) from hok a _ e)
 exact ⟨mA,⟨ob,n,ne⟩,r,q,z,d⟩
end
structure Cls(K:Frag)(C:Addr):Prop where
 pg:PySem.W.plainGet K C Str.empty=true
 hd:PySem.W.hasDictIn K C=true
 po:PySem.W.plainOver K C=true
 sa:findIn K (.ref C) "__setattr__" =some (some (.builtin "object.__setattr__"))
theorem Cls.get{K:Frag}{C:Addr}(c:Cls K C)(f:Str):PySem.W.plainGet K C f=true:=c.pg
def Xf(K:Frag)(C:Addr)(f:Str):Prop:=findIn K (.ref C) f=some none
theorem Xf.taker{K:Frag}{C:Addr}{f:Str}(n:Xf K C f):PySem.W.takerIn K C f=some none:=by
 unfold PySem.W.takerIn;rw [show findIn K (.ref C) f=some none from n]
 rfl
structure Z4(K:Frag)(C:Addr)(m:Str)(f:Addr):Prop where
 at_:findIn K (.ref C) m=some (some (.ref f))
 fn:PySem.W.isFn K (.ref f)=true
 kp:keepIn K (.ref f)=true
section
variable {X:Cx} {a6:List (Addr×Obj)} {σ:St} {H:Hp} {s:Shared} {a C dx:Addr} {fs:List (Str×V)} {f:Str} {v:V} {A:Around} {E:Value->Shared->Prop}
theorem Zrx{Q:Value->Shared->Prop}(I:Inv X a6 σ H s)(e:H a=some (.ins C dx fs))(c:Cls X.K C)(n:Xf X.K C f)(l:fs.lookup f=some v)
  (h:∀u s',Inv X a6 σ H s'->Yj v u->Q u s'):wpAny (model X.prog X.w) A (getAttr (.ref a) f b) Q E s:=by
 obtain ⟨mA,O,r,_,_,_⟩:=Zj5 I.hok e;obtain ⟨u,hu,ru⟩:=Zdh.some_of (v:=v) (o:=mA f) (by rw [<-l];exact r f);exact Zxt I.kIn O (c.get f) c.hd n hu (Zsx ru) (h u _ (I.tok _) ru)
theorem Zd9{Q:Value×List Value->Shared->Prop}(I:Inv X a6 σ H s)(e:H a=some (.ins C dx fs))(c:Cls X.K C)(k:Z4 X.K C m g)(l:fs.lookup m=none)
  (h:Q (.ref g,[.ref a]) s):wpAny (model X.prog X.w) A (getMethod (.ref a) m pl) Q E s:=by
 obtain ⟨mA,O,r,_,_,_⟩:=Zj5 I.hok e;have hn:mA m=none:=Zdh.none_of (by rw [<-l];exact r m);exact Zwl I.kIn O (c.get m) k.at_ k.fn hn h
theorem Zrm{Q:Unit->Shared->Prop}(I:Inv X a6 σ H s)(e:H a=some (.ins C dx fs))(c:Cls X.K C)(n:Xf X.K C f)(hl:fs.length<1000)(ry:Yj y u)
  (h:∀s',Inv X a6 σ (upd H a (.ins C dx (Zge f y fs))) s'->Q () s'):wpAny (model X.prog X.w) A (setAttr (.ref a) f u) Q E s:=by
 obtain ⟨mA,O,r,wi,_,ho⟩:=Zj5 I.hok e;have hz:(fs.map (·.1)).length<=sizeLine:=by rw [List.length_map,sizeLine_eq];lia
 refine Zx9 I.kIn O c.sa c.po n.taker c.hd wi hz fun h' O' sb=>h _ ?_
 have hd:∃o,h'.get? dx=some o:=let ⟨o,_,_,e',_⟩:=O'.ns;⟨o,e'⟩;refine I.write (x:=a) (e:=dx) (by rw [e];exact True.intro) (.inr ho) (fun b q hb z=>(sb.2 b hb).trans z) hd ?_;refine ⟨by rw [Ze O.ne];exact ho,?_,O.ne,O'.obj,_,O'.ns,fun g=>?_,fun g hg=>?_⟩
 ·have:=Zi7 f y fs;lia
 ·show Zdh ((Zge f y fs).lookup g) (if g=f then some u else mA g);rw [Zjd]
  by_cases q:g=f
  ·rw [if_pos q,if_pos q];exact ry
  ·rw [if_neg q,if_neg q];exact r g
 ·by_cases q:g=f
  ·rw [q];exact (Ziu f y fs).1
  ·refine (Ziu f y fs).2 g (wi g fun z=>hg ?_);show (if g=f then some u else mA g)=none;rw [if_neg q];exact z
theorem Inv.made(I:Inv X a6 σ H s):Inv X a6 σ (upd (upd H s.heap.objs.size (.own (s.heap.objs.size+1))) (s.heap.objs.size+1) (.ins C s.heap.objs.size []))
  { s with heap:=(s.heap.push PySem.W.emptyDict).push (PySem.W.instObj C s.heap.objs.size) }:=by
 have e1:(s.heap.push PySem.W.emptyDict).get? s.heap.objs.size=some PySem.W.emptyDict:=Heap.get?_push_size s.heap rfl;have e2:((s.heap.push PySem.W.emptyDict).push (PySem.W.instObj C s.heap.objs.size)).get? (s.heap.objs.size+1)=some (PySem.W.instObj C s.heap.objs.size):=by
  have:=Heap.get?_push_size (s.heap.push PySem.W.emptyDict) (o:=PySem.W.instObj C s.heap.objs.size) rfl;rwa [Heap.size_push] at this
 have e3:(s.heap.push PySem.W.emptyDict).Ns s.heap.objs.size (fun _=>none):=⟨PySem.W.emptyDict,#[],_,e1,rfl,(fun e he=>absurd he (by simp)),fun _=>rfl⟩
 have I1:=I.laid (a:=s.heap.objs.size) (o:=.own (s.heap.objs.size+1)) (h':=s.heap.push PySem.W.emptyDict) (t':=s.toks) (fun b u q=>Heap.get?_push_of_some _ q) (Nat.le_refl _) ⟨_,e1⟩;refine I1.laid (a:=s.heap.objs.size+1) (o:=.ins C s.heap.objs.size []) (t':=s.toks) (fun b u q=>Heap.get?_push_of_some _ q) (Nat.le_of_eq (Heap.size_push _ _)) ?_;have ne:s.heap.objs.size≠s.heap.objs.size+1:=Nat.ne_of_lt (Nat.lt_succ_self _);refine ⟨by rw [Ze ne,Zf],Nat.zero_le _,ne,e2,fun _=>none,(Heap.Ns1.of_empty e3).at fun o q=>Heap.get?_push_of_some _ q,fun _=>True.intro,fun y hy=>absurd rfl hy⟩
theorem Zxe{Q:Value->Shared->Prop}(hb:attributeBase e f env (eval e env)=eval e env)
  (h:wpAny (model prog w) A (eval e env) (fun o s₁=>wpAny (model prog w) A (getAttr o f true) Q E s₁) E s):wpAny (model prog w) A (eval (.Attribute e f pos) env) Q E s :=
 Attribute_any_ h (by rw [arm_eval_Attribute,hb])
end
def Ydc(K:Frag)(ta:TE)(f:Str):TE:=fun σ H Q=>ta σ H fun x H1=>∃a C dx fs v,x=.ref a/\H1 a=some (.ins C dx fs)/\Cls K C/\Xf K C f/\fs.lookup f=some v/\Q v H1
def Ycx(K:Frag)(ta tv:TE)(f:Str):TS:=fun D σ H=>tv σ H fun y H1=>ta σ H1 fun x H2=>∃a C dx fs,x=.ref a/\H2 a=some (.ins C dx fs)/\Cls K C/\Xf K C f/\fs.length<1000 /\
 D.nx σ (upd H2 a (.ins C dx (Zge f y fs)))
section
variable {X:Cx} {o e value:Expr} {f:Str} {pos A3 R0:Pos} {ta tv:TE}
theorem Yd(he:PE X e ta)(hb:attributeBase e f X.env (eval e X.env)=eval e X.env):PE X (.Attribute e f pos) (Ydc X.K ta f):=by
 intro a6 s σ H Q I h;refine Zxe hb (thn (he a6 s σ H _ I h) fun u s1 zz=>?_);obtain ⟨x,H1,I1,rx,a,C,dx,fs,v,ex,ea,c,n,l,q⟩:=zz;subst ex;obtain rfl:u=Value.ref a:=rx;exact Zrx I1 ea c n l fun u' s2 I2 ru=>⟨v,H1,I2,ru,q⟩
theorem Zav(ha:PE X o ta)(hv:PE X value tv)(hs:swapsWith value (some (.Attribute o f A3)) pos.line X.env=pure false):PS X (.Assign [.Attribute o f A3] value pos) (Ycx X.K ta tv f):=by
 intro a6 s σ H D I h;refine plainObj_wpAny_Assign_Attribute (thn (hv a6 s σ H _ I h) fun u s1 ⟨y,H1,I1,ry,q⟩=>thn (ha a6 s1 σ H1 _ I1 q) fun ov s2 zz=>?_) hs;obtain ⟨x,H2,I2,rx,a,C,dx,fs,ex,ea,c,n,l,q2⟩:=zz;subst ex;obtain rfl:ov=Value.ref a:=rx;exact Zrm I2 ea c n l ry fun s3 I3=>⟨σ,_,I3,q2⟩
theorem Zys{pl:Sem Bool}{m:Str}{c7:Pos}{args:List Expr}{a6:List (Addr×Obj)}{s:Shared}{σ:St}{H:Hp}{Q:Value->Shared->Prop}{te:TE}(he:PE X e te)(I:Inv X a6 σ H s)
  (h:te σ H fun x H1=>∃a C dx fs g,x=.ref a/\H1 a=some (.ins C dx fs)/\Cls X.K C/\Z4 X.K C m g/\fs.lookup m=none /\
   ∀s1,Inv X a6 σ H1 s1->wpAny (model X.prog X.w) X.A (callWith pos (.ref g) [.ref a] (backTo pos (starEach args X.env)) (backToKw pos (keywordEach [] X.env))) Q X.xe s1)
  (ht:eval (.Call (.Attribute e m c7) args [] pos) X.env=(do
   let ov <-eval e X.env
   standAt c7.atName
   let (f,first) <-holding [ov] (getMethod ov m pl)
   callWith pos f first (backTo pos (starEach args X.env)) (backToKw pos (keywordEach [] X.env)))) :
  wpAny (model X.prog X.w) X.A (eval (.Call (.Attribute e m c7) args [] pos) X.env) Q X.xe s:=by
 refine PySem.W.methodCall_KW (pl:=pl) (thn (he a6 s σ H _ I h) fun u s1 zz=>?_) ht;obtain ⟨x,H1,I1,rx,a,C,dx,fs,g,ex,ea,c,k,l,q⟩:=zz;subst ex;obtain rfl:u=Value.ref a:=rx;exact Zd9 I1 ea c k l (q s1 I1)
end
section
variable {X:Cx} {a6:List (Addr×Obj)} {σ:St} {H:Hp} {s:Shared} {A:Around} {E:Value->Shared->Prop} {Q:Value->Shared->Prop} {c:Value} {b:Bool}
inductive Xy(K:Frag)(H:Hp):V->Value->Prop where
 | non:Xy K H .non (.type "NoneType")
 | bl (x:Bool):Xy K H (.bl x) (.type "bool")
 | int (i:Int):Xy K H (.int i) (.type "int")
 | str (x:Str):Xy K H (.str x) (.type "str")
 | flt (x:UInt64):Xy K H (.flt x) (.type "float")
 | lst {a:Addr} {xs:List V} (e:H a=some (.lst xs)):Xy K H (.ref a) (.type "list")
 | frz {a:Addr} {o:Obj} {xs:List V} (e:H a=some (.frz o (.lst xs))):Xy K H (.ref a) (.type "list")
 | tup {a:Addr} {xs:List V} (e:H a=some (.tup xs)):Xy K H (.ref a) (.type "tuple")
 | dK {a:Addr} {kvs:List (Key×V)} (e:H a=some (.dK kvs)):Xy K H (.ref a) (.type "dict")
 | dT {a:Addr} {kvs:List (List Key×V)} (e:H a=some (.dT kvs)):Xy K H (.ref a) (.type "dict")
 | ins {a C dx:Addr} {fs:List (Str×V)} (e:H a=some (.ins C dx fs)) (cl:Cls K C) (ha:findIn K (.ref C) "__class__" =some (some (.builtin "object.__class__")))
   (hn:PySem.W.specialIn K (.builtin "object.__class__") "__get__" =some (some (.builtin "getset_descriptor.__get__"))) (htk:PySem.W.takesIn K (.builtin "object.__class__")=some true)
   (hm:PySem.W.mroIn K C (.type "object")=some true):Xy K H (.ref a) (.ref C)
theorem Zni(I:Inv X a6 σ H s)(rx:Yj x u)(ty:Xy X.K H x t)(e:kitOne X.K t c=some b)(h:∀tk,Q (.bool b) { s with toks:=tk }) :
  wpAny (model X.prog X.w) A (call (.builtin "isinstance") [u,c]) Q E s:=by
 cases ty with
 | non=>cases (show u=Value.none from rx);exact PySem.W.kia_one PySem.W.kitx_none I.kIn True.intro e (fun z=>nomatch z) h
 | bl y=>cases (show u=Value.bool y from rx);exact PySem.W.kia_one PySem.W.kitx_bool I.kIn True.intro e (fun z=>nomatch z) h
 | int i=>obtain ⟨t,q⟩:=(show ∃t,u=Value.int i t from rx);cases q;exact PySem.W.kia_one PySem.W.kitx_int I.kIn True.intro e (fun z=>nomatch z) h
 | str y=>obtain ⟨t,q⟩:=(show ∃t,u=Value.str y t from rx);cases q;exact PySem.W.kia_one PySem.W.kitx_str I.kIn True.intro e (fun z=>nomatch z) h
 | flt y=>obtain ⟨t,q⟩:=(show ∃t,u=Value.float y t from rx);cases q;exact PySem.W.kia_one PySem.W.kitx_float I.kIn True.intro e (fun z=>nomatch z) h
 | @lst a xs ea =>
  cases (show u=Value.ref a from rx);obtain ⟨_,_,n,_,h1⟩:=(show Yr X.prog X.w H s.heap a (.lst xs) from I.hok a _ ea)
  exact PySem.W.kia_one PySem.W.kitx_list I.kIn ⟨_,h1,rfl⟩ e (fun z=>nomatch z) h
 | @frz a ob xs ea =>
  cases (show u=Value.ref a from rx);obtain ⟨_,_,_,n,_,h1⟩:=(show Yr X.prog X.w H s.heap a (.frz ob (.lst xs)) from I.hok a _ ea)
  exact PySem.W.kia_one PySem.W.kitx_list I.kIn ⟨_,h1,rfl⟩ e (fun z=>nomatch z) h
 | @tup a xs ea =>
  cases (show u=Value.ref a from rx);obtain ⟨_,_,_,p⟩:=(show Yr X.prog X.w H s.heap a (.tup xs) from I.hok a _ ea)
  obtain ⟨o,h1,h2,_⟩:=p;exact PySem.W.kia_one PySem.W.kitx_tuple I.kIn ⟨o,h1,h2⟩ e (fun z=>nomatch z) h
 | @dK a kvs ea =>
  cases (show u=Value.ref a from rx);obtain ⟨_,_,vs,_,p⟩:=(show Yr X.prog X.w H s.heap a (.dK kvs) from I.hok a _ ea)
  obtain ⟨o,es,ep,h1,h2,_⟩:=p;exact PySem.W.kia_one PySem.W.kitx_dict I.kIn ⟨o,h1,h2.1⟩ e (fun z=>nomatch z) h
 | @dT a kvs ea =>
  cases (show u=Value.ref a from rx);obtain ⟨_,_,xs,_,o,es,ep,h1,h2,_⟩:=(show Yr X.prog X.w H s.heap a (.dT kvs) from I.hok a _ ea)
  exact PySem.W.kia_one PySem.W.kitx_dict I.kIn ⟨o,h1,h2.1⟩ e (fun z=>nomatch z) h
 | @ins a C dx fs ea cl ha hn htk hm =>
  cases (show u=Value.ref a from rx);obtain ⟨mA,O,_⟩:=Zj5 I.hok ea;obtain ⟨od,J,_⟩:=O.look;exact PySem.W.kia_one (PySem.W.kitx_own (cl.get _) cl.hd ha hn htk hm) I.kIn J e (fun z=>nomatch z) h
end
end L2
namespace L2
open PySem PySem.Spec PyProof.Rows
structure X2(k:Nat)(A:Around):Prop where
 hd:A.handled=none
 dp:A.depth+3 * k+5<recursionLimit
 un:A.units+16 * k+200<cLine
 gd:A.guards=some []
theorem X2.mono(r:X2 k A)(h:j<=k):X2 j A:=⟨r.hd,by have:=r.dp;lia,by have:=r.un;lia,r.gd⟩
theorem X2.m{j k:Nat}{A:Around}(r:X2 k A)(h:j<=k:=by decide):X2 j A:=r.mono h
theorem X2.deeper(r:X2 (k+1) A)(env:Env):X2 k (A.deeper env) :=
 ⟨r.hd,by have:=r.dp;show A.depth+1+3 * k+5<_;lia,by have:=r.un;show A.units+3+16 * k+200<_;lia,r.gd⟩
theorem Zrj{A:Around}{C:Addr}{us:List Value}{kw:List (Str×Value)}:(A.under (.builtin "type.__call__" ⟨.ref C ::us,kw⟩)).depth=A.depth+1:=by
 first | rfl | simp [Around.under,Code.weight,Code.isCreation,Code.isGuard,Code.isCaller,Code.frames,Code.isFrame,guardIds]
theorem Zqv{A:Around}{C:Addr}{us:List Value}{kw:List (Str×Value)}:(A.under (.builtin "type.__call__" ⟨.ref C ::us,kw⟩)).units=A.units+1:=by
 first | rfl | simp [Around.under,Code.cUnits,Code.frames,Code.isFrame]
theorem Zpd{A:Around}{C:Addr}{us:List Value}{kw:List (Str×Value)}:(A.under (.builtin "type.__call__" ⟨.ref C ::us,kw⟩)).guards=A.guards:=by
 first | rfl | simp [Around.under,Code.guards,Code.isGuard,guardIds,pushGuards]
theorem X2.make{k:Nat}{A:Around}(r:X2 (k+1) A)(C:Addr)(us:List Value)(kw:List (Str×Value)):X2 k (A.under (.builtin "type.__call__" ⟨.ref C ::us,kw⟩)) :=
 ⟨r.hd,by have:=r.dp;rw [Zrj];lia,by have:=r.un;rw [Zqv];lia,Zpd.trans r.gd⟩
theorem X2.depth(r:X2 k A):A.depth<recursionLimit:=by have:=r.dp;lia
theorem X2.units(r:X2 k A):A.units+64<cLine:=by have:=r.un;lia
def Zuk:TA:=fun _ H Q=>Q [] H
def Zlo(ta:TE)(tr:TA):TA:=fun σ H Q=>ta σ H fun x H1=>tr σ H1 fun xs H2=>Q (x ::xs) H2
section
variable {X:Cx} {e:Expr} {es:List Expr} {te:TE} {t:TA} {pos:Pos}
theorem Za:PA X [] Zuk:=fun _ _ _ _ H Q I h=>Calls.spliced_nil ⟨[],H,I,.nil,h⟩
theorem Zyi(ha:PE X e te)(hr:PA X es t)(hs:starEach (e ::es) X.env=(false,eval e X.env) ::starEach es X.env:=by rfl):PA X (e ::es) (Zlo te t):=by
 intro pos a6 s σ H Q I h;rw [hs];show wpAny _ _ (spliced ((false,eval e X.env) ::backTo pos (starEach es X.env))) _ _ s;refine Calls.spliced_cons (thn (ha a6 s σ H _ I h) fun u s1 ⟨x,H1,I1,r1,q1⟩=>?_);exact thn (hr pos a6 s1 σ H1 _ I1 q1) fun us s2 ⟨xs,H2,I2,r2,q2⟩=>⟨x ::xs,H2,I2,.cons r1 r2,q2⟩
end
abbrev Sp:=List V->Hp->VK->XK->Prop
abbrev CXT:=List Env->Hp->Shared->XK->Value->Shared->Prop
structure Zoq(P:Program)(w:World)(K:Frag)(mg:Str->Option Value)(base:Heap)(A:Around)(outer:List Env)(s:Shared)(H:Hp):Prop where
 frames:A.frames=some outer
 mod:Mod K mg base
 bs:∀b o,base.get? b=some o->s.heap.get? b=some o/\H b=none
 bsz:base.objs.size<=s.heap.objs.size
 funs:s.heap.FunFrames base outer
 frf:∀b∈frs outer,H b=none
 hok:HOk P w H s.heap
 bare:AllBare s.gens
def CE(outer:List Env)(P:Program)(w:World)(H:Hp)(s:Shared)(Q:VK)(u:Value)(s':Shared):Prop :=
 ∃v H',s'.os=s.os/\AllBare s'.gens/\Un (frs outer) [] H H' s.heap s'.heap/\HOk P w H' s'.heap/\Yj v u/\Q v H'
def CR(CX:CXT)(outer:List Env)(P:Program)(w:World)(H:Hp)(s:Shared)(Q:VK)(E:XK)(r:Result)(s':Shared):Prop :=
 match r with
 | .ok (.ret u)=>CE outer P w H s Q u s'
 | .ok _=>False
 | .error e=>CX outer H s E e s'
structure Z2(P:Program)(w:World)(K:Frag)(mg:Str->Option Value)(base:Heap)(CX:CXT)(k:Nat)(f:Addr)(fd:FuncData)(ps:List Str)(sp:Sp):Prop where
 len:∀vs H Q E,sp vs H Q E->vs.length=ps.length
 run:∀(A:Around) (outer:List Env) (s:Shared) (H:Hp) (args:Args) (us:List Value) (vs:List V) (Q:VK) (E:XK),X2 k A->Zoq P w K mg base A outer s H->BindsTo s fd args (ps.zip us)->Yc vs us->sp vs H Q E ->
  codeAny (model P w) A (.call (.ref f) args) (CR CX outer P w H s Q E) s
theorem Z2.mono{P:Program}{w:World}{K:Frag}{mg:Str->Option Value}{base:Heap}{CX:CXT}{j k:Nat}{f:Addr}{fd:FuncData}{ps:List Str}{sp:Sp}(F:Z2 P w K mg base CX j f fd ps sp)(h:j<=k) :
  Z2 P w K mg base CX k f fd ps sp:=⟨F.len,fun A outer s H args us vs Q E hr=>F.run A outer s H args us vs Q E (hr.mono h)⟩
theorem Zoq.make{P:Program}{w:World}{K:Frag}{mg:Str->Option Value}{base:Heap}{A:Around}{outer:List Env}{s:Shared}{H:Hp}(e:Zoq P w K mg base A outer s H)(C:Addr)(us:List Value)(kw:List (Str×Value)) :
  Zoq P w K mg base (A.under (.builtin "type.__call__" ⟨.ref C ::us,kw⟩)) outer s H:=⟨by first | exact e.frames | (simpa [Around.under,Code.envs,Code.isFrame,pushEnvs] using e.frames),e.mod,e.bs,e.bsz,e.funs,e.frf,e.hok,e.bare⟩
section
variable {X:Cx} {a6:List (Addr×Obj)} {σ:St} {H:Hp} {s s':Shared}
theorem Inv.env0(I:Inv X a6 σ H s):Zoq X.prog X.w X.K X.mg X.base X.A X.stack s H :=
 ⟨I.ok.frames,I.ok.mod,I.bs,Nat.le_trans I.ok.bsz I.sz,I.stack,I.stkFree,I.hok,I.bare⟩
theorem Inv.after(I:Inv X a6 σ H s)(h:CE X.stack X.prog X.w H s Q u s'):EP X a6 σ Q u s':=by
 obtain ⟨v,H',os,bare,un,hok,r,q⟩:=h;obtain ⟨hh,g,d,t,os'⟩:=s';obtain rfl:os'=s.os:=os;exact ⟨v,H',I.call (h':=hh) (g':=g) (d':=d) (t':=t) (ch:=[]) un hok bare (fun b z=>absurd z (by simp)),r,q⟩
end
def Zyx(sp:Sp)(C4:List V)(E:XK)(t:TA):TE:=fun σ H Q=>t σ H fun vs H1=>sp (vs++C4) H1 Q E
def Zug(C:Addr)(m:Str)(sp:Sp)(C4:List V)(E:XK)(ta:TE)(t:TA):TE:=fun σ H Q=>ta σ H fun x H1=>∃a dx fs,x=.ref a/\H1 a=some (.ins C dx fs)/\fs.lookup m=none /\
 t σ H1 fun vs H2=>sp (x ::(vs++C4)) H2 Q E
def Zau(K:Frag)(fd:FuncData)(ps:List Str)(ds:List Value):Prop :=
 ∀(s:Shared) (us:List Value),K.In s.heap->(us++ds).length=ps.length->BindsTo s fd ⟨us,[]⟩ (ps.zip (us++ds))
theorem Zau.all{K:Frag}{fd:FuncData}{ps:List Str}(h:∀us:List Value,us.length=ps.length->bindArgs fd ⟨us,[]⟩=pure (ps.zip us)):Zau K fd ps []:=fun s us _ hl=>by
 rw [List.append_nil] at hl ⊢;exact .of_eq (h us hl)
def Zg6(CX:CXT)(X:Cx)(E:XK):Prop:=∀(a6:List (Addr×Obj)) (σ:St) (H:Hp) (s:Shared) (e:Value) (s':Shared),Inv X a6 σ H s->CX X.stack H s E e s'->X.xe e s'
section
variable {X:Cx} {CX:CXT} {k:Nat} {f C:Addr} {fd:FuncData} {ps:List Str} {sp:Sp} {C4:List V} {ds:List Value} {E:XK} {x m:Str} {p pos c7:Pos} {e o:Expr} {es:List Expr} {ta:TE} {t:TA}
theorem Zrp(F:Z2 X.prog X.w X.K X.mg X.base CX k f fd ps sp)(hr:X2 k X.A)(hb:Zau X.K fd ps ds)(hd:Yc C4 ds)(hx:Zg6 CX X E)
  (I:Inv X a6 σ H s) (r:Yc vs us) (h:sp (vs++C4) H Q E):wpAny (model X.prog X.w) X.A (call (.ref f) us) (EP X a6 σ Q) X.xe s:=by
 have r2:Yc (vs++C4) (us++ds):=r.append hd;have hl:(us++ds).length=ps.length:=by rw [<-r2.length];exact F.len _ _ _ _ h
 refine wpAny_call (codeAny_mono (F.run X.A X.stack s H ⟨us,[]⟩ (us++ds) (vs++C4) Q E hr I.env0 (hb s us I.kIn hl) r2 h) fun r s' hq=>?_);cases r with
 | error e=>exact hx a6 σ H s e s' I hq
 | ok fl =>
  cases fl with
  | ret u=>exact I.after hq
  | next=>exact False.elim hq
  | brk=>exact False.elim hq
  | cont=>exact False.elim hq
theorem Zeg(F:Z2 X.prog X.w X.K X.mg X.base CX k f fd ps sp)(hr:X2 k X.A)(hg:Gl X x)(hm:X.mg x=some (.ref f))(hk:keepIn X.K (.ref f)=true)(hb:Zau X.K fd ps ds)(hd:Yc C4 ds)(hx:Zg6 CX X E)
  (ha:PA X (e ::es) t) (R1:(x ==("__debug__" :Str))=false:=by decide) (he:starEach (e ::es) X.env=(false,eval e X.env) ::starEach es X.env:=by rfl) (i4:(backTo pos (starEach es X.env)).any (·.1)=false:=by rfl) :
  PE X (.Call (.Name x p) (e ::es) [] pos) (Zyx sp C4 E t):=by
 intro a6 s σ H Q I h;refine wpAny_Call_Name_kw (Zjz I hg hm ?_ R1);refine PySem.W.callWith_K (h₀:=X.base) I.ok.mod.kin hk (thn (ha pos a6 s σ H _ I h) fun us s1 ⟨vs,H1,I1,r,q⟩=>⟨I1.kIn,?_⟩) he i4;exact Zrp F hr hb hd hx I1 r q
theorem Y0(he:PE X o ta)(c:Cls X.K C)(hm:Z4 X.K C m f)(F:Z2 X.prog X.w X.K X.mg X.base CX k f fd ps sp)(hr:X2 k X.A)(hb:Zau X.K fd ps ds)(hd:Yc C4 ds)(hx:Zg6 CX X E)(ha:PA X (e ::es) t)
  (A1:starEach (e ::es) X.env=(false,eval e X.env) ::starEach es X.env:=by rfl) (i4:(backTo pos (starEach es X.env)).any (·.1)=false:=by rfl)
  (ht:eval (.Call (.Attribute o m c7) (e ::es) [] pos) X.env=(do
   let ov <-eval o X.env
   standAt c7.atName
   let (f,first) <-holding [ov] (getMethod ov m pl)
   callWith pos f first (backTo pos (starEach (e ::es) X.env)) (backToKw pos (keywordEach [] X.env))):=by rfl) :
  PE X (.Call (.Attribute o m c7) (e ::es) [] pos) (Zug C m sp C4 E ta t):=by
 intro a6 s σ H Q I h;refine PySem.W.methodCall_KW (pl:=pl) (thn (he a6 s σ H _ I h) fun u s1 ⟨x,H1,I1,rx,a,dx,fs,ex,ea,l,q⟩=>?_) ht;subst ex;obtain rfl:u=Value.ref a:=rx;refine Zd9 I1 ea c hm l ?_;refine PySem.W.callWith_K (first:=[.ref a]) (h₀:=X.base) I.ok.mod.kin hm.kp (thn (ha pos a6 s1 σ H1 _ I1 q) fun us s2 ⟨vs,H2,I2,r,q2⟩=>⟨I2.kIn,?_⟩) A1 i4;exact Zrp (us:=.ref a ::us) (vs:=.ref a ::vs) F hr hb hd hx I2 (.cons rfl r) q2
theorem Yv{pl:Sem Bool}(he:PE X o ta)(c:Cls X.K C)(hm:Z4 X.K C m f)(F:Z2 X.prog X.w X.K X.mg X.base CX k f fd ps sp)(hr:X2 k X.A)(hb:Zau X.K fd ps ds)(hd:Yc C4 ds)(hx:Zg6 CX X E)
  (ht:eval (.Call (.Attribute o m c7) [] [] pos) X.env=(do
   let ov <-eval o X.env
   standAt c7.atName
   let (f,first) <-holding [ov] (getMethod ov m pl)
   callWith pos f first (backTo pos (starEach [] X.env)) (backToKw pos (keywordEach [] X.env))):=by rfl) :
  PE X (.Call (.Attribute o m c7) [] [] pos) (Zug C m sp C4 E ta Zuk):=by
 intro a6 s σ H Q I h;refine PySem.W.methodCall_KW (pl:=pl) (thn (he a6 s σ H _ I h) fun u s1 zz=>?_) ht;obtain ⟨x,H1,I1,rx,a,dx,fs,ex,ea,l,q⟩:=zz;subst ex;obtain rfl:u=Value.ref a:=rx;refine Zd9 I1 ea c hm l ?_;exact PySem.W.callWith_K0 (first:=[.ref a]) I1.kIn hm.kp (Zrp (us:=[.ref a]) (vs:=[.ref a]) F hr hb hd hx I1 (.cons rfl .nil) q)
structure Mk(K:Frag)(C f:Addr):Prop where
 makes:PySem.W.makesIn K C=true
 init:findIn K (.ref C) "__init__" =some (some (.ref f))
 fn:PySem.W.isFn K (.ref f)=true
 kp:keepIn K (.ref C)=true
theorem Zvu(M:Mk X.K C f)(F:Z2 X.prog X.w X.K X.mg X.base CX k f fd ps sp)(hr:X2 (k+1) X.A)(hb:Zau X.K fd ps ds)(hd:Yc C4 ds)
  (hx:Zg6 CX X E) (I:Inv X a6 σ H s) (r:Yc vs us)
  (h:∀x dx,H x=none->H dx=none->dx≠x->sp (.ref x ::(vs++C4)) (upd (upd H dx (.own x)) x (.ins C dx [])) (fun v H2=>v=.non/\Q (.ref x) H2) E) :
  wpAny (model X.prog X.w) X.A (call (.ref C) us) (EP X a6 σ Q) X.xe s:=by
 have hq:=h (s.heap.objs.size+1) s.heap.objs.size (I.hok.fresh (Nat.le_succ _)) (I.hok.fresh (Nat.le_refl _)) (Nat.ne_of_lt (Nat.lt_succ_self _));have I2:=Inv.made (C:=C) I;have r2:Yc (V.ref (s.heap.objs.size+1) ::(vs++C4)) (Value.ref (s.heap.objs.size+1) ::(us++ds)):=.cons rfl (r.append hd);have hl:(Value.ref (s.heap.objs.size+1) ::us++ds).length=ps.length:=by
  have e:=r2.length;rw [F.len _ _ _ _ hq] at e;exact e.symm
 refine wpAny_call (Zwm (f:=f) I.kIn M.makes M.init (beq_iff_eq.mp M.fn) (codeAny_mono (F.run _ X.stack _ _ ⟨Value.ref (s.heap.objs.size+1) ::us,[]⟩ (Value.ref (s.heap.objs.size+1) ::(us++ds)) _ _ E (hr.make C us [])
  (I2.env0.make C us []) (hb _ (Value.ref (s.heap.objs.size+1) ::us) I2.kIn hl) r2 hq) fun r s' hq'=>?_))
 cases r with
 | error e=>exact hx a6 σ _ _ e s' I2 hq'
 | ok fl =>
  cases fl with
  | ret u =>
   obtain ⟨v,H',I3,rv,ev,q3⟩:=I2.after hq';subst ev;exact ⟨rv,⟨V.ref (s.heap.objs.size+1),H',I3,rfl,q3⟩⟩
  | next=>exact False.elim hq'
  | brk=>exact False.elim hq'
  | cont=>exact False.elim hq'
end
section
variable {X:Cx} {CX:CXT} {k:Nat} {f C:Addr} {fd:FuncData} {ps ks:List Str} {sp:Sp} {E:XK} {x m:Str} {p pos c7 kpos:Pos} {e o:Expr} {es:List Expr} {kws:List Keyword} {te ta:TE} {t tk:TA} {nm:Option Str}
variable {g:List Value->List Value->List Value} {gV:List V->List V->List V}
end
structure Zn(N P:List Str)(sc:Scope):Prop where
 kind:sc.kind=.function:=by rfl
 co:sc.isCoroutine=false:=by rfl
 gen:sc.isGenerator=false:=by rfl
 nd:N.Nodup:=by trivial
 pre:N.take P.length=P:=by rfl
 par:∀x∈P,sc.names.lookup x=some .local\/sc.names.lookup x=some .cell:=by trivial
 nofree:∀y∈sc.names,y.2 ≠ .free:=by trivial
theorem Zno{kindOf:Str->Option NameKind}:∀{binds:List (Str×Value)} {m:Str->Option Value},(∀v,(x,v)∉binds)->bindL kindOf binds m x=m x
 | [],_,_=>rfl
 | (n,v) ::r,m,h=>by
  unfold bindL;rw [Zno fun w hw=>h w (List.mem_cons_of_mem _ hw)];split
  ·have:x≠n:=by rintro rfl;exact h v List.mem_cons_self
   simp [this]
  ·rfl
theorem Zmz{kindOf:Str->Option NameKind}:∀{binds:List (Str×Value)} {m:Str->Option Value},(∀v,(x,v)∉binds)->bindC kindOf binds m x=m x
 | [],_,_=>rfl
 | (n,v) ::r,m,h=>by
  unfold bindC;rw [Zmz fun w hw=>h w (List.mem_cons_of_mem _ hw)];split
  ·rfl
  ·have:x≠n:=by rintro rfl;exact h v List.mem_cons_self
   simp [this]
theorem Zm9{kindOf:Str->Option NameKind}  :∀{P:List Str} {vs:List Value} {i:Nat} {m:Str->Option Value},P.Nodup->P[i]? =some x->vs[i]? =some v->kindOf x=some .local ->
  bindL kindOf (P.zip vs) m x=some v
 | [],_,_,_,_,h,_,_=>by simp at h
 | _ ::_,[],_,_,_,_,h,_=>by simp at h
 | p ::P,w ::vs,0,m,nd,h1,h2,hk=>by
  simp at h1 h2;subst h1;subst h2;show bindL kindOf ((p,w) ::P.zip vs) m p=_;unfold bindL;rw [Zno fun v hv=>(List.nodup_cons.mp nd).1 (List.of_mem_zip hv).1,if_pos hk];simp
 | p ::P,w ::vs,i+1,m,nd,h1,h2,hk=>by
  show bindL kindOf ((p,w) ::P.zip vs) m x=_;unfold bindL;exact Zm9 (i:=i) (List.nodup_cons.mp nd).2 (by simpa using h1) (by simpa using h2) hk
theorem Zny{kindOf:Str->Option NameKind}  :∀{P:List Str} {vs:List Value} {i:Nat} {m:Str->Option Value},P.Nodup->P[i]? =some x->vs[i]? =some v->kindOf x≠some .local ->
  bindC kindOf (P.zip vs) m x=some v
 | [],_,_,_,_,h,_,_=>by simp at h
 | _ ::_,[],_,_,_,_,h,_=>by simp at h
 | p ::P,w ::vs,0,m,nd,h1,h2,hk=>by
  simp at h1 h2;subst h1;subst h2;show bindC kindOf ((p,w) ::P.zip vs) m p=_;unfold bindC;rw [Zmz fun v hv=>(List.nodup_cons.mp nd).1 (List.of_mem_zip hv).1,if_neg hk];simp
 | p ::P,w ::vs,i+1,m,nd,h1,h2,hk=>by
  show bindC kindOf ((p,w) ::P.zip vs) m x=_;unfold bindC;exact Zny (i:=i) (List.nodup_cons.mp nd).2 (by simpa using h1) (by simpa using h2) hk
def start(N:List Str)(vs:List V):St:=vs.map some++List.replicate (N.length-vs.length) none
def Zme(CX:CXT)(P:Program)(w:World)(K:Frag)(mg:Str->Option Value)(base:Heap)(N:List Str)(qual:Str)(scope:Scope)(f:Addr)(cd:Value)(A:Around)(outer:List Env)(s:Shared)(H:Hp)(E:XK):Cx where
 prog:=P
 w:=w
 K:=K
 mg:=mg
 base:=base
 A:=A.deeper (envOfC qual scope s.heap.objs.size f cd)
 N:=N
 s₀:=s
 H₀:=H
 env:=envOfC qual scope s.heap.objs.size f cd
 outer:=outer
 stack:=envOfC qual scope s.heap.objs.size f cd ::outer
 ex:=[]
 calm:=true
 fn:=fun _=>true
 pn:=[]
 xe:=fun e s'=>wpAny (model P w) (A.deeper (envOfC qual scope s.heap.objs.size f cd)) (leaving (envOfC qual scope s.heap.objs.size f cd) e) (fun _ s''=>CX outer H s E e s'') (fun e' s''=>CX outer H s E e' s'') s'
theorem Zp3{sc:Scope}{n:Nat}{x:Str}(h:sc.names.lookup x=some .cell):∃c,(cellsFrom n sc.names []).lookup x=some c:=by
 have q:=PySem.W.cellsFrom_some sc.names n [] (.inl h);exact Option.isSome_iff_exists.mp q
theorem Ztj{CX:CXT}{P:Program}{w:World}{K:Frag}{mg:Str->Option Value}{base:Heap}{N ps:List Str}{qual:Str}{scope:Scope}{f:Addr}{cd:Value}{A:Around}{outer:List Env}{s s1:Shared}{H:Hp}{E:XK}{us:List Value}{vs:List V}
  (S:Zn N ps scope) (hd:A.handled=none) (e0:Zoq P w K mg base A outer s H) (hl:vs.length=ps.length) (r:Yc vs us)
  (x:InCallC s s.heap.objs.size (bindL (envOfC qual scope s.heap.objs.size f cd).kindOf (ps.zip us) fun _=>none) (cellsFrom (s.heap.objs.size+1) scope.names []) (bindC (envOfC qual scope s.heap.objs.size f cd).kindOf (ps.zip us) fun _=>none) s1) :
  Inv (Zme CX P w K mg base N qual scope f cd A outer s H E) [] (start N vs) H s1:=by
 have i4:ps.length<=N.length:=by have:=congrArg List.length S.pre;rw [List.length_take] at this;lia
 obtain ⟨h1,tk,rfl,hk⟩:=x.done;have noA:∀b:Addr,b∉(Zme CX P w K mg base N qual scope f cd A outer s H E).ex:=fun b z=>absurd (show b∈([]:List Addr) from z) (by simp)
 refine ⟨⟨e0.mod,S.kind,rfl,rfl,Nat.le_refl _,fun y z c h1 h2=>?_,fun y hy=>?_,fun y c _ h=>?_,fun _=>hd,Around.frames_deeper e0.frames,.inr ⟨rfl,rfl⟩,fun b z=>absurd z (noA b),e0.bs,e0.bsz,fun b _ _=>noA b,fun b z=>absurd z (noA b),e0.funs,e0.frf⟩,
  rfl,e0.bare,Un.kept hk,⟨_,x.toInCall.ns,fun i y v h1 h2 h3=>?_⟩,fun y c h=>⟨_,x.cell y c h⟩,e0.hok.fresh (Nat.le_refl _),fun y c h=>?_,fun p hp=>absurd (show p∈([]:List (Addr×Obj)) from hp) (by simp),e0.hok.kept hk,?_⟩
 ·exact name_of_addr x.apart (PySem.mem_of_lookup h1) (PySem.mem_of_lookup h2)
 ·have hy:scope.names.lookup y=some .cell\/scope.names.lookup y=some .free:=hy;rcases hy with hy|hy
  ·exact Zp3 hy
  ·exact absurd rfl (S.nofree _ (PySem.mem_of_lookup hy))
 ·exact Nat.le_of_lt (x.above y c (PySem.mem_of_lookup h))
 ·have hi:i<vs.length:=by
   unfold start at h2
   by_cases hi:i<vs.length
   ·exact hi
   ·rw [List.getElem?_append_right (by simpa using hi)] at h2;rw [List.getElem?_replicate] at h2;split at h2 <;>cases h2
  have ha:vs[i]? =some v:=by
   unfold start at h2;rw [List.getElem?_append_left (by simpa using hi),List.getElem?_map] at h2;cases e:vs[i]? with
   | none=>rw [e] at h2;cases h2
   | some a=>rw [e] at h2;cases h2;rfl
  obtain ⟨u,hu,rv⟩:=r.get ha;have hp:ps[i]? =some y:=by
   rw [<-S.pre,List.getElem?_take_of_lt (by lia)];exact h1
  have ndP:ps.Nodup:=by rw [<-S.pre];exact S.nd.sublist (List.take_sublist _ _)
  refine ⟨u,rv,?_⟩;rcases S.par y (List.mem_of_getElem? hp) with k|k
  ·exact .inl ⟨k,Zm9 ndP hp hu k⟩
  ·obtain ⟨c,e⟩:=Zp3 (n:=s.heap.objs.size+1) k;refine .inr ⟨.inl k,c,e,?_⟩;have q:=x.cell y c e;rw [Zny ndP hp hu (by show scope.names.lookup y≠_;rw [k];decide)] at q;exact q
 ·exact e0.hok.fresh (Nat.le_of_lt (x.above y c (PySem.mem_of_lookup h)))
 ·unfold start;show _=N.length;rw [List.length_append,List.length_map,List.length_replicate];lia
theorem Zv9{CX:CXT}{P:Program}{w:World}{K:Frag}{mg:Str->Option Value}{base:Heap}{k:Nat}{f:Addr}{name qual:Str}{params:Arguments}{body:List Stmt}{scope:Scope}{dV kV k7 pm a9 ct oc:Value}{an od:Option Addr}
  {F3:Array (Option Value)} {N ps:List Str} {sp:Sp} (lk:K.lookup f=some ⟨oc,od,.func (fnOf name qual params body scope dV kV k7 pm an a9 ct),F3⟩) (F0:codeIn K a9 qual=true) (S:Zn N ps scope)
  (len:∀vs H Q E,sp vs H Q E->vs.length=ps.length)
  (m8:∀(A:Around) (outer:List Env) (s:Shared) (H:Hp) (vs:List V) (Q:VK) (E:XK),X2 k (A.deeper (envOfC qual scope s.heap.objs.size f a9))->sp vs H Q E ->
   ∃t,PSs (Zme CX P w K mg base N qual scope f a9 A outer s H E) body t/\t { nx:=fun _ H'=>Q .non H',rt:=Q } (start N vs) H) :
  Z2 P w K mg base CX (k+1) f (fnOf name qual params body scope dV kV k7 pm an a9 ct) ps sp:=by
 refine ⟨len,fun A outer s H args us vs Q E hr e0 hb r E1=>?_⟩;have hl:=len _ _ _ _ E1;have KX:K.In s.heap:=e0.mod.kin.keeps fun b o e=>(e0.bs b o e).1
 have lim:s.heap.NoLimit:=e0.mod.nolimit.keeps fun b o e=>(e0.bs b o e).1
 have hkind:∀y∈ps.zip us,scope.names.lookup y.1=some .local\/(scope.names.lookup y.1=some .cell/\((cellsFrom (s.heap.objs.size+1) scope.names []).lookup y.1).isSome=true):=fun ⟨n,v⟩ hy=>by
  rcases S.par n (List.of_mem_zip hy).1 with q|q
  ·exact .inl q
  ·exact .inr ⟨q,PySem.W.cellsFrom_some _ _ _ (.inl q)⟩
 refine codeAny_call_function hr.depth (KX _ _ lk) rfl S.co S.gen rfl (PySem.W.codeRec_of KX F0) (hb _ _ _ _ ?_);refine wpAny_newFunctionEnv_cells S.kind hkind fun env he s1 x=>?_
 subst he;refine ⟨lim.keeps x.toInCall.keep,codeAny_func ?_⟩;obtain ⟨t,ht,hq⟩:=m8 A outer s H vs Q E (hr.deeper _) E1;have I:Inv (Zme CX P w K mg base N qual scope f a9 A outer s H E) [] (start N vs) H s1:=Ztj S hr.hd e0 hl r x;refine wpAny_mono (ht [] s1 (start N vs) H _ I hq) (fun fl s' hs=>?_) fun e s' hs=>hs
 have fin:∀{σ':St} {H':Hp} {v:V} {u:Value},Inv (Zme CX P w K mg base N qual scope f a9 A outer s H E) [] σ' H' s'->Yj v u->Q v H'->CE outer P w H s Q u s' :=
  fun {σ' H' v u} J rv q=>⟨v,H',J.os,J.bare,J.base,J.hok,rv,q⟩
 cases fl with
 | ret u =>
  obtain ⟨v,σ',H',J,rv,q⟩:=hs;exact fin J rv q
 | next =>
  obtain ⟨σ',H',J,q⟩:=hs;exact fin (v:=V.non) (u:=Value.none) J rfl q
 | brk =>
  obtain ⟨_,_,_,q⟩:=hs;exact False.elim q
 | cont =>
  obtain ⟨_,_,_,q⟩:=hs;exact False.elim q
end L2
namespace L2
open PySem PySem.Spec PyProof.Rows
section
variable {X:Cx} {x:Str} {p pos:Pos} {e:Expr} {es:List Expr} {t:TA} {id T:String} {r:List V->Hp->VK->Prop}
def tCB(r:List V->Hp->VK->Prop)(t:TA):TE:=fun σ H Q=>t σ H fun vs H1=>r vs H1 Q
theorem Zz(hc:Xu X (.builtin id) r)(hg:Gl X x)(hm:X.mg x=none)(hv:bootBuiltins x=some (.builtin id))(ha:PA X (e ::es) t) (hn:x ≠ "__name__" :=by decide) (R1:(x ==("__debug__" :Str))=false:=by decide)
  (he:starEach (e ::es) X.env=(false,eval e X.env) ::starEach es X.env:=by rfl) (i4:(backTo pos (starEach es X.env)).any (·.1)=false:=by rfl):PE X (.Call (.Name x p) (e ::es) [] pos) (tCB r t):=by
 intro a6 s σ H Q I h;refine wpAny_Call_Name_kw (Zfr I hg hm hv ?_ hn R1);exact PyProof.Rows.callWith_builtin1 (thn (ha pos a6 s σ H _ I h) fun us s1 ⟨vs,H1,I1,r1,q1⟩=>hc a6 s1 σ H1 vs us Q I1 r1 q1) he i4
theorem X5(hc:Xu X (.type T) r)(hg:Gl X x)(hm:X.mg x=none)(hv:bootBuiltins x=some (.type T))(ha:PA X (e ::es) t) (hn:x ≠ "__name__" :=by decide) (R1:(x ==("__debug__" :Str))=false:=by decide)
  (he:starEach (e ::es) X.env=(false,eval e X.env) ::starEach es X.env:=by rfl) (i4:(backTo pos (starEach es X.env)).any (·.1)=false:=by rfl):PE X (.Call (.Name x p) (e ::es) [] pos) (tCB r t):=by
 intro a6 s σ H Q I h;refine wpAny_Call_Name_kw (Zfr I hg hm hv ?_ hn R1);exact PyProof.Rows.callWith_type1 (thn (ha pos a6 s σ H _ I h) fun us s1 ⟨vs,H1,I1,r1,q1⟩=>hc a6 s1 σ H1 vs us Q I1 r1 q1) he i4
end
end L2
namespace HT
open PySem PyProof.Rows
section
open PySem.SeqAt
open PySem.AutoSeq1 (wpAny_loadPart')
open PySem.MeetsSeq PySem.MeetsSeq2 PySem.MeetsSeq3
end
section
variable {prog:Program} {w:World} {A:Around} {E:Value->Shared->Prop} {s:Shared}
def sIx(n d:Nat):Option Int->Nat
 | none=>d
 | some v=>if v<0 then (v+(n:Int)).toNat else min v.toNat n
theorem sIx_none(n d:Nat):sIx n d none=d:=rfl
theorem sIx_nat(n d k:Nat):sIx n d (some (k:Int))=min k n:=by
 show (if (k:Int)<0 then ((k:Int)+(n:Int)).toNat else min (k:Int).toNat n)=min k n;rw [if_neg (by lia),Int.toNat_natCast]
theorem Yah(n d:Nat)(hd:d<=n)(o:Option Int):sIx n d o<=n:=by
 cases o with
 | none=>exact hd
 | some v =>
  show (if v<0 then (v+(n:Int)).toNat else min v.toNat n)<=n
  by_cases hv:v<0
  ·rw [if_pos hv];lia
  ·rw [if_neg hv];exact Nat.min_le_right _ _
theorem Zsm(v:Int)(n d:Nat):(if v<0 then max (v+(n:Int)) 0 else min v (n:Int))=((sIx n d (some v):Nat):Int):=by
 show (if v<0 then max (v+(n:Int)) 0 else min v (n:Int))=(((if v<0 then (v+(n:Int)).toNat else min v.toNat n):Nat):Int)
 by_cases hv:v<0
 ·simp only [if_pos hv];lia
 ·simp only [if_neg hv];lia
theorem Zri(lo hi:Option Int)(n:Nat):Builtin.Slice.sliceAdjust lo hi 1 (n:Int)=(((sIx n 0 lo:Nat):Int),((sIx n n hi:Nat):Int)):=by
 have h1:¬((1:Int)<0):=by lia
 unfold Builtin.Slice.sliceAdjust;simp only [h1,if_false];refine Prod.ext ?_ ?_
 ·cases lo with
  | none=>rfl
  | some v=>exact Zsm v n 0
 ·cases hi with
  | none=>rfl
  | some v=>exact Zsm v n n
theorem Zqy(i j:Nat):Builtin.Slice.slicePlaces (i:Int) (j:Int) 1=j-i:=by
 unfold Builtin.Slice.slicePlaces;have h1:(1:Int) >0:=by lia
 simp only [h1,if_true,Int.ediv_one];split <;>lia
theorem Zlc{Q:Option Int->Shared->Prop}(p:IsPart v o)(h:Q o s):wpAny (model prog w) A (Builtin.Slice.slicePartIndex v) Q E s:=by
 cases p with
 | none=>exact slicePart_none h
 | int i t=>exact slicePart_int h
theorem Zi0{sl:Addr}{vl vu:Value}{lo hi:Option Int}{n:Nat}{Q:Int×Int×Nat->Shared->Prop}(hs:s.heap.IsSliceOf sl vl vu .none)(pl:IsPart vl lo)(pu:IsPart vu hi)
  (h:Q (((sIx n 0 lo:Nat):Int),1,sIx n n hi-sIx n 0 lo) s):wpAny (model prog w) A (Builtin.Slice.sliceApplied (.ref sl) (pure (n:Int))) Q E s:=by
 obtain ⟨os,hos,K3,hds⟩:=id hs;unfold Builtin.Slice.sliceApplied Builtin.Slice.sliceFields;refine wpAny_bind (wpAny_bind (wpAny_field hos hds (x:=vl) rfl (wpAny_bind (wpAny_field hos hds (x:=vu) rfl (wpAny_bind (wpAny_field hos hds (x:=.none) rfl (wpAny_pure ?_)))))));refine wpAny_bind (slicePart_none ?_);show wpAny _ _ (if ((1:Int) ==0)=true then _ else _) _ _ s;rw [if_neg (by decide)];refine wpAny_bind (Zlc pl (wpAny_bind (Zlc pu (wpAny_bind (wpAny_pure ?_)))));show wpAny _ _ (match Builtin.Slice.sliceAdjust lo hi 1 (n:Int) with | (lo,hi)=>pure (lo,(1:Int),Builtin.Slice.slicePlaces lo hi 1)) _ _ s;rw [Zri lo hi n];show wpAny _ _ (pure (((sIx n 0 lo:Nat):Int),(1:Int),Builtin.Slice.slicePlaces ((sIx n 0 lo:Nat):Int) ((sIx n n hi:Nat):Int) 1)) _ _ s;rw [Zqy];exact wpAny_pure h
theorem Zu6(xs:Array Value)(i k:Nat):((List.range k).filterMap fun (m:Nat)=>xs[((i:Int)+(m:Int) * 1).toNat]?).toArray=((xs.toList.drop i).take k).toArray:=by
 have e:(fun (m:Nat)=>xs[((i:Int)+(m:Int) * 1).toNat]?)=fun m=>xs[i+m]? :=by
  funext m
  have:((i:Int)+(m:Int) * 1).toNat=i+m:=by lia
  rw [this]
 rw [e];have:=pick_run xs i k;rw [List.filterMap_map] at this;have e2:((fun x=>xs[x]?) ∘ fun x=>i+x)=fun m=>xs[i+m]? :=rfl
 rw [e2] at this;rw [this]
theorem getItem_tuple_cut{t sl:Addr}{b8:Array Value}{vl vu:Value}{lo hi:Option Int}{Q:Value->Shared->Prop}(ht:IsTup s.heap t b8)(hs:s.heap.IsSliceOf sl vl vu .none)(pl:IsPart vl lo)(pu:IsPart vu hi)
  (hw:¬(sIx b8.size 0 lo=0/\sIx b8.size b8.size hi=b8.size))
  (h:Q (.ref s.heap.objs.size) { s with heap:=s.heap.push { cls:=.type "tuple",data:=.seq ((b8.toList.drop (sIx b8.size 0 lo)).take (sIx b8.size b8.size hi-sIx b8.size 0 lo)).toArray } })
  (hsz:b8.size<=sizeLine):wpAny (model prog w) A (getItem (.ref t) (.ref sl)) Q E s:=by
 have K4:sizeOk (.seq ((b8.toList.drop (sIx b8.size 0 lo)).take (sIx b8.size b8.size hi-sIx b8.size 0 lo)).toArray):=by
  show ((b8.toList.drop (sIx b8.size 0 lo)).take (sIx b8.size b8.size hi-sIx b8.size 0 lo)).toArray.size<=sizeLine;rw [List.size_toArray,List.length_take,List.length_drop,Array.length_toList];lia
 have hj:sIx b8.size b8.size hi<=b8.size:=Yah _ _ (Nat.le_refl _) hi;obtain ⟨os,hos,K3,hds⟩:=id hs;have hTs:s.TypeIs (.ref sl) "slice" :=⟨os,hos,K3⟩
 unfold getItem
 try with_reducible refine wpAny_holding ?_
 first | refine wpAny_bind (wpAny_pure ?_) | skip
 refine wpAny_bind (wpAny_sequenceKey ht.typeIs (by decide) ?_);refine wpAny_bind (wpAny_callSpecial?_slot (name:=Str.ofString "__getitem__") ht.typeIs PyProof.Rows.slot_tuple_getitem
  (wpAny_call_entry PyProof.Rows.slot_tuple_getitem ht.typeIs entry_tuple_getitem ?_ (args_tuple_getitem _ _)))
 show wpAny _ _ (Builtin.Tuple.tupleItemsOf (.ref t) >>=_) _ _ s;refine wpAny_bind (tupleItemsOf_ ht ?_);refine wpAny_bind (wpAny_typeOf hTs ?_);rw [if_pos (by decide)];refine wpAny_bind (Zi0 hs pl pu ?_);have M9:¬((((sIx b8.size 0 lo:Nat):Int) ==0 && (1:Int) ==1 && (sIx b8.size b8.size hi-sIx b8.size 0 lo) ==b8.size)=true):=by
  intro q;rw [Bool.and_eq_true,Bool.and_eq_true] at q;have q1:((sIx b8.size 0 lo:Nat):Int)=0:=eq_of_beq q.1.1;have q2:sIx b8.size b8.size hi-sIx b8.size 0 lo=b8.size:=eq_of_beq q.2;exact hw ⟨by lia,by lia⟩
 show wpAny _ _ (if (((sIx b8.size 0 lo:Nat):Int) ==0 && (1:Int) ==1 && (sIx b8.size b8.size hi-sIx b8.size 0 lo) ==b8.size)=true then _ else _) _ _ s;rw [if_neg M9,Zu6]
 first
  | exact wpAny_bind (m:=Builtin.Tuple.tupleExact _) (wpAny_newObj_type (wpAny_pure ⟨_,rfl,wpAny_pure h⟩) K4)
  | exact wpAny_bind (m:=Builtin.Tuple.tupleExact _) (wpAny_newObj_type (wpAny_bind (wpAny_pure (wpAny_pure ⟨_,rfl,wpAny_pure h⟩))) K4)
  | exact wpAny_bind (wpAny_bind (m:=Builtin.Tuple.tupleExact _) (wpAny_newObj_type (wpAny_pure (wpAny_pure ⟨_,rfl,wpAny_pure h⟩)) K4))
  | exact wpAny_bind (wpAny_bind (m:=Builtin.Tuple.tupleExact _) (wpAny_newObj_type (wpAny_pure ⟨_,rfl,wpAny_pure h⟩) K4))
end
end HT
namespace L2
open PySem PySem.Spec PyProof.Rows
abbrev TO:=St->Hp->(Option Int->Hp->Prop)->Prop
def PO(X:Cx)(e:Option Expr)(t:TO):Prop :=
 ∀(a6:List (Addr×Obj)) (s:Shared) (σ:St) (H:Hp) (Q:Option Int->Hp->Prop),Inv X a6 σ H s->t σ H Q ->
  wpAny (model X.prog X.w) X.A (evalPart e X.env) (fun u s'=>∃o H',Inv X a6 σ H' s'/\IsPart u o/\Q o H') X.xe s
def Zw5:TO:=fun _ H Q=>Q none H
def Yb4(t:TE):TO:=fun σ H Q=>t σ H fun x H1=>∃i,x=.int i/\Q (some i) H1
section
variable {X:Cx} {e:Expr} {te:TE} {lo hi:Option Expr} {tl th:TO} {pos p2:Pos}
theorem Zb6:PO X none Zw5:=by
 intro a6 s σ H Q I h;rw [evalPart_none];exact wpAny_pure ⟨none,H,I,.none,h⟩
theorem Zax(h:PE X e te):PO X (some e) (Yb4 te):=by
 intro a6 s σ H Q I hw;rw [evalPart_some];refine thn (h a6 s σ H _ I hw) fun u s1 ⟨x,H1,I1,r1,q1⟩=>?_
 obtain ⟨i,rfl,q⟩:=q1;obtain ⟨t,rfl⟩:=r1;exact ⟨some i,H1,I1,.int i t,q⟩
def SlR(X:Cx)(r:V->Option Int->Option Int->Hp->VK->Prop):Prop :=
 ∀(a6:List (Addr×Obj)) (s:Shared) (σ:St) (H:Hp) (x:V) (v vl vu:Value) (lo hi:Option Int) (sl:Addr) (Q:VK),Inv X a6 σ H s->Yj x v->s.heap.IsSliceOf sl vl vu .none->IsPart vl lo->IsPart vu hi->r x lo hi H Q ->
  ∃T id,typeLookup (.type T) "__getitem__" =pure (some (.builtin id))/\s.TypeIs v T/\wpAny (model X.prog X.w) X.A (getItem v (.ref sl)) (EP X a6 σ Q) X.xe s
theorem SlR.or{r r':V->Option Int->Option Int->Hp->VK->Prop}(h:SlR X r)(h':SlR X r'):SlR X (fun x lo hi H Q=>r x lo hi H Q\/r' x lo hi H Q):=by
 intro a6 s σ H x v vl vu lo hi sl Q I rx hs pl pu q;rcases q with q|q
 ·exact h a6 s σ H x v vl vu lo hi sl Q I rx hs pl pu q
 ·exact h' a6 s σ H x v vl vu lo hi sl Q I rx hs pl pu q
def tSl(r:V->Option Int->Option Int->Hp->VK->Prop)(te:TE)(tl th:TO):TE:=fun σ H Q=>te σ H fun x H1=>tl σ H1 fun l H2=>th σ H2 fun u H3=>r x l u H3 Q
theorem Zas{r:V->Option Int->Option Int->Hp->VK->Prop}(hr:SlR X r)(he:PE X e te)(hl:PO X lo tl)(hu:PO X hi th):PE X (.Subscript e (.Slice lo hi none p2) pos) (tSl r te tl th):=by
 intro a6 s σ H Q I h;refine Subscript_ (thn (he a6 s σ H _ I h) fun v s1 ⟨x,H1,I1,r1,q1⟩=>?_);refine wpAny_Slice (thn (hl a6 s1 σ H1 _ I1 q1) fun vl s2 ⟨l,H2,I2,pl,q2⟩=>thn (hu a6 s2 σ H2 _ I2 q2) fun vu s3 ⟨u,H3,I3,pu,q3⟩=>?_);rw [evalPart_none];refine wpAny_pure ?_;have I4:Inv X a6 σ H3 { s3 with heap:=s3.heap.push { cls:=.type "slice",data:=.fields #[vl,vu,.none] } }:=I3.kept (t':=s3.toks) fun b ob q=>Heap.get?_push_of_some _ q
 obtain ⟨T,id,hT,ht,hg⟩:=hr a6 { s3 with heap:=s3.heap.push { cls:=.type "slice",data:=.fields #[vl,vu,.none] } } σ H3 x v vl vu l u s3.heap.objs.size Q I4 r1 (Heap.IsSliceOf.new ..) pl pu q3;show wpAny (model X.prog X.w) X.A (subscriptTail e (.Slice lo hi none p2) v (.ref s3.heap.objs.size)) (EP X a6 σ Q) X.xe { s3 with heap:=s3.heap.push { cls:=.type "slice",data:=.fields #[vl,vu,.none] } };exact tail_any (ops:=[.ref s3.heap.objs.size,v]) ht hT hg (by with_unfolding_all rfl)
def Zhr(xs:List V)(lo hi:Option Int):List V:=(xs.drop (HT.sIx xs.length 0 lo)).take (HT.sIx xs.length xs.length hi-HT.sIx xs.length 0 lo)
theorem Zi3(xs:List V)(lo hi:Option Int):(Zhr xs lo hi).length<=xs.length:=by
 unfold Zhr;rw [List.length_take,List.length_drop];lia
def Ydt(K:Frag):V->Option Int->Option Int->Hp->VK->Prop:=fun x lo hi H Q=>∃a xs,x=.ref a/\SqT K H a xs /\
 ¬(HT.sIx xs.length 0 lo=0/\HT.sIx xs.length xs.length hi=xs.length)/\∀p,H p=none->Q (.ref p) (upd H p (.tup (Zhr xs lo hi)))
theorem Zze:SlR X (Ydt X.K):=by
 intro a6 s σ H x v vl vu lo hi sl Q I rx hs pl pu h;obtain ⟨a,xs,rfl,hx,hw,q⟩:=h;cases rx;obtain ⟨a7,r,ht,hz⟩:=I.tuple hx;have d4:a7.toArray.size=xs.length:=by rw [List.size_toArray];exact r.length.symm
 refine ⟨"tuple",_,PyProof.Rows.slot_tuple_getitem.lookup,ht.typeIs,?_⟩;refine HT.getItem_tuple_cut ht hs pl pu (by rw [d4];exact hw) ?_ (by rw [d4];exact hz);rw [d4];refine ⟨.ref s.heap.objs.size,_,I.laid (t':=s.toks) (o:=.tup (Zhr xs lo hi)) (fun b ob q=>Heap.get?_push_of_some _ q) (Nat.le_refl _) ?_,rfl,q _ (I.hok.fresh (Nat.le_refl _))⟩;exact ⟨Nat.le_trans (Zi3 xs lo hi) hz,_,(r.drop (HT.sIx xs.length 0 lo)).take (HT.sIx xs.length xs.length hi-HT.sIx xs.length 0 lo),IsTup.new _ _⟩
end
end L2
namespace L2
open PySem PySem.Spec PyProof.Rows
def ixN(n:Nat)(i:Int):Option Nat:=if 0<=i then (if i<n then some i.toNat else none) else if -(n:Int)<=i then some (i+n).toNat else none
def atI{α:Type}(xs:List α)(i:Int):Option α:=(ixN xs.length i).bind fun j=>xs[j]?
theorem Zxp(h:ixN n i=some j):seqIndex? i n=some j/\j<n/\-(n:Int)<=i/\i<n:=by
 unfold ixN at h
 by_cases h0:0<=i
 ·rw [if_pos h0] at h
  by_cases h1:i<n
  ·rw [if_pos h1] at h;have e:i.toNat=j:=Option.some.inj h;exact ⟨by rw [seqIndex_of h0 h1,e],by lia,by lia,h1⟩
  ·rw [if_neg h1] at h;cases h
 ·rw [if_neg h0] at h
  by_cases h1:-(n:Int)<=i
  ·rw [if_pos h1] at h;have e:(i+n).toNat=j:=Option.some.inj h;exact ⟨by rw [seqIndex_neg (by lia) h1,e],by lia,h1,by lia⟩
  ·rw [if_neg h1] at h;cases h
theorem Zog{α:Type}{xs:List α}{v:α}(h:atI xs i=some v):∃j,seqIndex? i xs.length=some j/\xs[j]? =some v/\j<xs.length/\-(xs.length:Int)<=i/\i<xs.length:=by
 unfold atI at h;cases e:ixN xs.length i with
 | none=>rw [e] at h;cases h
 | some j =>
  rw [e] at h;obtain ⟨h1,h2,h3,h4⟩:=Zxp e;exact ⟨j,h1,h,h2,h3,h4⟩
theorem Yh{α:Type}{xs:List α}{j:Nat}{v:α}(h:xs[j]? =some v):atI xs (j:Int)=some v:=by
 have hj:j<xs.length:=(List.getElem?_eq_some_iff.mp h).1;have e:ixN xs.length (j:Int)=some j:=by
  unfold ixN;rw [if_pos (by lia),if_pos (by lia)];simp
 unfold atI;rw [e];exact h
theorem Zpu{α:Type}(xs:List α)(v:α):atI (xs++[v]) (-1)=some v:=by
 have hl:(xs++[v]).length=xs.length+1:=by simp
 have e:ixN (xs++[v]).length (-1)=some xs.length:=by
  unfold ixN;rw [hl,if_neg (by decide),if_pos (by lia)];congr 1;lia
 unfold atI;rw [e];show (xs++[v])[xs.length]? =some v;simp
def Zsj(b:Expr):Prop:=∀o i,subscripted b false o i=operate [o,i] (getItem o i)
def IxR(X:Cx)(r:R2):Prop :=
 ∀(value slice:Expr) (a6:List (Addr×Obj)) (s:Shared) (σ:St) (H:Hp) (x y:V) (v u:Value) (Q:VK),Inv X a6 σ H s->Yj x v->Yj y u->r x y H Q ->
  subscripted slice false v u=operate [v,u] (getItem v u)->wpAny (model X.prog X.w) X.A (subscriptTail value slice v u) (EP X a6 σ Q) X.xe s
def MtR(X:Cx)(id:String)(r:V->List V->Hp->VK->Prop):Prop :=
 ∀(a6:List (Addr×Obj)) (s:Shared) (σ:St) (H:Hp) (x:V) (xs:List V) (v:Value) (us:List Value) (Q:VK),Inv X a6 σ H s->Yj x v->Yc xs us->r x xs H Q ->
  wpAny (model X.prog X.w) X.A (call (.builtin id) (v ::us)) (EP X a6 σ Q) X.xe s
section
variable {X:Cx} {a b:Expr} {ta tb:TE} {pos:Pos}
theorem IxR.or(h:IxR X r)(h':IxR X r'):IxR X (fun x y H Q=>r x y H Q\/r' x y H Q):=by
 intro value slice a6 s σ H x y v u Q I rx ry q hs;rcases q with q|q
 ·exact h value slice a6 s σ H x y v u Q I rx ry q hs
 ·exact h' value slice a6 s σ H x y v u Q I rx ry q hs
theorem Yb9(hr:IxR X r)(ha:PE X a ta)(hb:PE X b tb)(hs:Zsj b):PE X (.Subscript a b pos) (tOp r ta tb):=by
 intro a6 s σ H Q I h;exact Subscript_ (Zz8 ha hb I h fun v u s2 x y H2 I2 rx ry q=>hr a b a6 s2 σ H2 x y v u Q I2 rx ry q (hs _ _))
def Yb1(K:Frag):R2:=fun x y H Q=>∃p xs i v,x=.ref p/\y=.int i/\SqL K H p xs/\atI xs i=some v/\Q v H
def Ybh(K:Frag):R2:=fun x y H Q=>∃p xs i v,x=.ref p/\y=.int i/\SqT K H p xs/\atI xs i=some v/\Q v H
def Ybm:R2:=fun x y H Q=>∃z i c,x=.str z/\y=.int i/\z.length<=sizeLine/\atI z.cps.toList i=some c/\Q (.str ⟨#[c]⟩) H
theorem Zw0:IxR X (Yb1 X.K):=by
 intro value slice a6 s σ H x y v u Q I rx ry h hs;obtain ⟨p,xs,i,z,rfl,rfl,hq,he,q⟩:=h;cases rx;obtain ⟨t,rfl⟩:=ry;obtain ⟨a7,r,pl,hz⟩:=I.list hq;obtain ⟨j,h1,h2,h3,h4,h5⟩:=Zog he;obtain ⟨w,ew,B5⟩:=r.get h2;have hl:=r.length;have hn:=Zk1;have fin:EP X a6 σ Q w s:=⟨z,H,I,B5,q⟩
 by_cases h0:0<=i
 ·have hj:i.toNat=j:=by
   rw [seqIndex_of h0 h5] at h1;exact Option.some.inj h1
  exact item_listR pl.isList h0 (by lia) (by rw [hj];simpa using ew) fin hs
 ·have hj:(i+(a7.toArray.size:Int)).toNat=j:=by
   rw [seqIndex_neg (by lia) h4] at h1;rw [List.size_toArray,<-hl];exact Option.some.inj h1
  exact subscriptTail_builtinR (x:=w) pl.isList.typeIs slot_list_getitem.lookup
   (wpAny_getItem_list_neg (Q:=fun r s'=>r=w/\EP X a6 σ Q r s') pl.isList (by lia) (by rw [List.size_toArray] <;>lia) (by lia) (by rw [hj];simpa using ew) ⟨rfl,fin⟩) hs
theorem Zzg:IxR X (Ybh X.K):=by
 intro value slice a6 s σ H x y v u Q I rx ry h hs;obtain ⟨p,xs,i,z,rfl,rfl,hq,he,q⟩:=h;cases rx;obtain ⟨t,rfl⟩:=ry;obtain ⟨a7,r,pl,hz⟩:=I.tuple hq;obtain ⟨j,h1,h2,h3,h4,h5⟩:=Zog he;obtain ⟨w,ew,B5⟩:=r.get h2;have hl:=r.length;have hn:=Zk1;have fin:EP X a6 σ Q w s:=⟨z,H,I,B5,q⟩
 exact subscriptTail_builtinR (x:=w) pl.typeIs slot_tuple_getitem.lookup
  (getItem_tuple (j:=j) (Q:=fun r s'=>r=w/\EP X a6 σ Q r s') pl (by lia) (by lia) (by rw [List.size_toArray,<-hl];exact h1) (by simpa using ew) ⟨rfl,fin⟩) hs
theorem Zzo:IxR X Ybm:=by
 intro value slice a6 s σ H x y v u Q I rx ry h hs;obtain ⟨z,i,c,rfl,rfl,hz,he,q⟩:=h;obtain ⟨t,rfl⟩:=rx;obtain ⟨t',rfl⟩:=ry;obtain ⟨j,h1,h2,h3,h4,h5⟩:=Zog he;have hl:z.cps.toList.length=z.length:=by simp [Str.length]
 rw [hl] at h1 h4 h5;have hn:=Zk1;exact tail_any (typeIs_str s z t) slot_str_getitem.lookup (getItem_str (c:=c) (by
  have e1:decide (i < -(2 ^ 63:Int))=false:=decide_eq_false (by lia);have e2:decide (i ≥ 2 ^ 63)=false:=decide_eq_false (by lia);rw [e1,e2,Bool.or_false]) (by rw [h1];simpa using h2) ⟨.str ⟨#[c]⟩,H,I.tok _,⟨_,rfl⟩,q⟩) hs
def rIx(K:Frag):R2:=fun x y H Q=>Yb1 K x y H Q\/Ybh K x y H Q\/Ybm x y H Q
theorem Zy9:IxR X (rIx X.K):=Zw0.or (Zzg.or Zzo)
theorem Zn0(lo hi:Option Int)(n:Nat):(sliceBounds lo hi none n).1=((HT.sIx n 0 lo:Nat):Int)/\(sliceBounds lo hi none n).2.1=((HT.sIx n n hi:Nat):Int)/\(sliceBounds lo hi none n).2.2=1:=by
 refine ⟨?_,?_,rfl⟩
 ·cases lo with
  | none=>simp [sliceBounds,HT.sIx]
  | some i =>
   simp only [sliceBounds,HT.sIx,Option.getD_none,show (1:Int) >0 by decide,if_true]
   by_cases h:i<0
   ·simp only [h,if_true] <;>lia
   ·simp only [h,if_false] <;>lia
 ·cases hi with
  | none=>simp [sliceBounds,HT.sIx]
  | some i =>
   simp only [sliceBounds,HT.sIx,Option.getD_none,show (1:Int) >0 by decide,if_true]
   by_cases h:i<0
   ·simp only [h,if_true] <;>lia
   ·simp only [h,if_false] <;>lia
theorem Zmp(a7:List Value)(lo hi:Option Int):slicePick a7.toArray lo hi none=((a7.drop (HT.sIx a7.length 0 lo)).take (HT.sIx a7.length a7.length hi-HT.sIx a7.length 0 lo)).toArray:=by
 obtain ⟨h1,h2,h3⟩:=Zn0 lo hi a7.toArray.size;unfold slicePick;rw [h1,h2,h3];simp only [sliceRange_one,pick_run,List.size_toArray] <;>rfl
def Ycz(K:Frag):V->Option Int->Option Int->Hp->VK->Prop:=fun x lo hi H Q=>∃a xs,x=.ref a/\SqL K H a xs/\∀p,H p=none->Q (.ref p) (upd H p (.lst (Zhr xs lo hi)))
theorem Zxc:SlR X (Ycz X.K):=by
 intro a6 s σ H x v vl vu lo hi sl Q I rx hs pl pu h;obtain ⟨a,xs,rfl,hx,q⟩:=h;cases rx;obtain ⟨a7,r,ht,hz⟩:=I.list hx;have d4:=r.length;refine ⟨"list",_,slot_list_getitem.lookup,ht.isList.typeIs,?_⟩;refine wpAny_getItem_list_slice ht.isList hs pl pu .none (by simp) ?_ (by rw [List.size_toArray] <;>lia);rw [Zmp,<-d4];refine ⟨.ref s.heap.objs.size,_,I.laid (t':=s.toks) (o:=.lst (Zhr xs lo hi)) (fun b ob q=>Heap.get?_push_of_some _ q) (Nat.le_refl _) ?_,rfl,q _ (I.hok.fresh (Nat.le_refl _))⟩;exact ⟨Nat.le_trans (Zi3 xs lo hi) hz,_,0,(r.drop (HT.sIx xs.length 0 lo)).take (HT.sIx xs.length xs.length hi-HT.sIx xs.length 0 lo),Heap.get?_push_size _ rfl⟩
def Zfi:V->Bool
 | .non=>true
 | .bl _=>true
 | .int _=>true
 | .str _=>true
 | _=>false
def eqV:V->V->Bool
 | .non,.non=>true
 | .bl a,.bl b=>a ==b
 | .bl a,.int b=>(if a then 1 else 0) ==b
 | .int a,.bl b=>a ==(if b then 1 else 0)
 | .int a,.int b=>a ==b
 | .str a,.str b=>a ==b
 | _,_=>false
theorem Zk0(ry:Yj y u)(rx:Yj x v)(fy:Zfi y=true)(fx:Zfi x=true):SeqAt.EqAt A s u v (eqV y x):=by
 cases y with
 | non =>
  cases ry;cases x with
  | non=>cases rx;exact SeqAt.EqAt.same _
  | bl b=>cases rx;exact SeqAt.EqAt.none_bool b
  | int b=>obtain ⟨t,rfl⟩:=rx;exact SeqAt.EqAt.none_int b t
  | str b=>obtain ⟨t,rfl⟩:=rx;exact SeqAt.EqAt.none_str b t
  | _=>exact absurd (show false=true from fx) Bool.false_ne_true
 | bl a =>
  cases ry;cases x with
  | non=>cases rx;exact SeqAt.EqAt.bool_none a
  | bl b=>cases rx;exact SeqAt.EqAt.bool_bool a b
  | int b=>obtain ⟨t,rfl⟩:=rx;exact SeqAt.EqAt.bool_int a b t
  | str b=>obtain ⟨t,rfl⟩:=rx;exact SeqAt.EqAt.bool_str a b t
  | _=>exact absurd (show false=true from fx) Bool.false_ne_true
 | int a =>
  obtain ⟨t',rfl⟩:=ry;cases x with
  | non=>cases rx;exact SeqAt.EqAt.int_none a t'
  | bl b=>cases rx;exact SeqAt.EqAt.int_bool a t' b
  | int b=>obtain ⟨t,rfl⟩:=rx;exact SeqAt.EqAt.int_int a t' b t
  | str b=>obtain ⟨t,rfl⟩:=rx;exact SeqAt.EqAt.int_str a t' b t
  | _=>exact absurd (show false=true from fx) Bool.false_ne_true
 | str a =>
  obtain ⟨t',rfl⟩:=ry;cases x with
  | non=>cases rx;exact SeqAt.EqAt.str_none a t'
  | bl b=>cases rx;exact SeqAt.EqAt.str_bool a t' b
  | int b=>obtain ⟨t,rfl⟩:=rx;exact SeqAt.EqAt.str_int a t' b t
  | str b=>obtain ⟨t,rfl⟩:=rx;exact SeqAt.EqAt.str_str a t' b t
  | _=>exact absurd (show false=true from fx) Bool.false_ne_true
 | _=>exact absurd (show false=true from fy) Bool.false_ne_true
def eqU(x:V)(u:Value):Bool:=match u with
 | .none=>eqV .non x
 | .bool b=>eqV (.bl b) x
 | .int i _=>eqV (.int i) x
 | .str z _=>eqV (.str z) x
 | _=>false
theorem Zup(r:Yj y u)(f:Zfi y=true):eqU x u=eqV y x:=by
 cases y with
 | non=>cases r;rfl
 | bl b=>cases r;rfl
 | int i=>obtain ⟨t,rfl⟩:=r;rfl
 | str z=>obtain ⟨t,rfl⟩:=r;rfl
 | _=>exact absurd (show false=true from f) Bool.false_ne_true
theorem Zh5:∀{xs:List V} {us:List Value},Yc xs us->xs.all Zfi=true->us.any (eqU x)=xs.any fun y=>eqV y x
 | _,_,.nil,_=>rfl
 | y ::xs,u ::us,.cons r t,f=>by
  rw [List.all_cons,Bool.and_eq_true] at f;rw [List.any_cons,List.any_cons,Zup r f.1,Zh5 t f.2]
theorem Ze6(rx:Yj x v)(fx:Zfi x=true):∀{xs:List V} {us:List Value},Yc xs us->xs.all Zfi=true->∀u∈us,SeqAt.EqAt A s u v (eqU x u)
 | _,_,.nil,_=>fun u hu=>by cases hu
 | y ::xs,u ::us,.cons r t,f=>fun u' hu=>by
  rw [List.all_cons,Bool.and_eq_true] at f;rcases List.mem_cons.mp hu with rfl|hu
  ·rw [Zup r f.1];exact Zk0 r rx f.1 fx
  ·exact Ze6 rx fx t f.2 u' hu
def inV(x:V)(xs:List V):Bool:=xs.any fun y=>eqV y x
def rIn(K:Frag)(neg:Bool):R2:=fun x y H Q=>∃p xs,y=.ref p/\(SqL K H p xs\/SqT K H p xs)/\Zfi x=true/\xs.all Zfi=true/\Q (.bl (if neg then !inV x xs else inV x xs)) H
theorem Zs2:OpR X (compareOp .In) (rIn X.K false):=by
 intro a6 s σ H x y v u Q I rx ry h;obtain ⟨p,xs,rfl,hq,fx,fs,q⟩:=h;cases ry;rcases hq with hq|hq
 ·obtain ⟨a7,r,pl,hz⟩:=I.list hq;refine SeqAt.in_listAt (eqU x) pl.isList (fun w hw=>Ze6 rx fx r fs w (by simpa using hw)) ⟨.bl _,H,I,rfl,?_⟩;rw [show a7.toArray.any (eqU x)=a7.any (eqU x) by simp,Zh5 r fs];exact q
 ·obtain ⟨a7,r,pl,hz⟩:=I.tuple hq;refine SeqAt.in_tupleAt (eqU x) pl (fun w hw=>Ze6 rx fx r fs w (by simpa using hw)) ⟨.bl _,H,I,rfl,?_⟩;rw [show a7.toArray.any (eqU x)=a7.any (eqU x) by simp,Zh5 r fs];exact q
theorem Zoy:OpR X (compareOp .NotIn) (rIn X.K true):=by
 intro a6 s σ H x y v u Q I rx ry h;obtain ⟨p,xs,rfl,hq,fx,fs,q⟩:=h;cases ry;rcases hq with hq|hq
 ·obtain ⟨a7,r,pl,hz⟩:=I.list hq;refine SeqAt.notIn_listAt (eqU x) pl.isList (fun w hw=>Ze6 rx fx r fs w (by simpa using hw)) ⟨.bl _,H,I,rfl,?_⟩;rw [show a7.toArray.any (eqU x)=a7.any (eqU x) by simp,Zh5 r fs];exact q
 ·obtain ⟨a7,r,pl,hz⟩:=I.tuple hq;refine SeqAt.notIn_tupleAt (eqU x) pl (fun w hw=>Ze6 rx fx r fs w (by simpa using hw)) ⟨.bl _,H,I,rfl,?_⟩;rw [show a7.toArray.any (eqU x)=a7.any (eqU x) by simp,Zh5 r fs];exact q
theorem Zo7:Xu X (.builtin "len") (fun xs H Q=>∃p ys,xs=[.ref p]/\(SqL X.K H p ys\/SqT X.K H p ys)/\Q (.int ys.length) H):=by
 intro a6 s σ H xs us Q I r h;obtain ⟨p,ys,rfl,hq,q⟩:=h;obtain ⟨u,rfl,rx⟩:=Zaz r;cases rx;have hn:=Zk1;rcases hq with hq|hq
 ·obtain ⟨a7,r',pl,hz⟩:=I.list hq;have d4:=r'.length;exact Calls.call_len_list pl.isList (by simp only [List.size_toArray] <;>lia) ⟨.int ys.length,H,I.tok _,⟨s.toks+1,by rw [List.size_toArray,d4]⟩,q⟩
 ·obtain ⟨a7,r',pl,hz⟩:=I.tuple hq;have d4:=r'.length;exact len_tuple pl (by simp only [List.size_toArray] <;>lia) ⟨.int ys.length,H,I.tok _,⟨s.toks+1,by rw [List.size_toArray,d4]⟩,q⟩
theorem Zob:Xu X (.builtin "len") (fun xs H Q=>∃z,xs=[.str z]/\z.length<=sizeLine/\Q (.int z.length) H):=by
 intro a6 s σ H xs us Q I r h;obtain ⟨z,rfl,hz,q⟩:=h;obtain ⟨u,rfl,t,rfl⟩:=Zaz r;have hn:=Zk1;exact len_str (by lia) ⟨.int z.length,H,I.tok _,⟨_,rfl⟩,q⟩
theorem Xu.or{r r':List V->Hp->VK->Prop}(h:Xu X f r)(h':Xu X f r'):Xu X f (fun xs H Q=>r xs H Q\/r' xs H Q):=by
 intro a6 s σ H xs us Q I rs q;rcases q with q|q
 ·exact h a6 s σ H xs us Q I rs q
 ·exact h' a6 s σ H xs us Q I rs q
theorem Zop:Xu X (.type "list") (fun xs H Q=>∃p ys,xs=[.ref p]/\(SqL X.K H p ys\/SqT X.K H p ys)/\∀l,H l=none->Q (.ref l) (upd H l (.lst ys))):=by
 intro a6 s σ H xs us Q I r h;obtain ⟨p,ys,rfl,hq,q⟩:=h;obtain ⟨u,rfl,rx⟩:=Zaz r;cases rx;have fin:∀(a7:List Value),Yc ys a7->ys.length<=sizeLine->∀(h':Heap) (c':Nat),(∀b o',s.heap.get? b=some o'->h'.get? b=some o') ->
   h'.get? s.heap.objs.size=some { cls:=.type "list",dict:=none,data:=.seq a7.toArray c',slots:=#[] }->EP X a6 σ Q (.ref s.heap.objs.size) { s with heap:=h' }:=fun a7 r' hz h' c' kp e =>
  ⟨.ref s.heap.objs.size,_,I.laid (t':=s.toks) kp (Nat.le_refl _) (show Yr X.prog X.w _ h' _ (.lst ys) from ⟨hz,a7,c',r',e⟩),rfl,q _ (I.hok.fresh (Nat.le_refl _))⟩
 rcases hq with hq|hq
 ·obtain ⟨a7,r',pl,hz⟩:=I.list hq;have d4:=r'.length;obtain ⟨o,ho,hc,n,hd⟩:=pl.isList;exact call_list_seq p (.inl rfl) ho hc hd (fun h' c' kp e=>fin a7 r' hz h' c' kp e) (by simp only [List.size_toArray] <;>lia)
 ·obtain ⟨a7,r',pl,hz⟩:=I.tuple hq;have d4:=r'.length;obtain ⟨o,ho,hc,n,hd⟩:=pl;exact call_list_seq p (.inr rfl) ho hc hd (fun h' c' kp e=>fin a7 r' hz h' c' kp e) (by simp only [List.size_toArray] <;>lia)
def tyV(K:Frag)(T:String)(x:V)(H:Hp):Prop:=match x with
 | .str _=>T = "str"
 | .int _=>T = "int"
 | .ref p=>(T = "list" /\∃xs,SqL K H p xs)\/(T = "tuple" /\∃o,K.lookup p=some o/\o.cls=.type "tuple" /\o.dict=none) \/
   (T = "dict" /\((∃kvs,H p=some (.dK kvs))\/∃kvs,H p=some (.dT kvs)))\/(T = "set" /\∃S n,H p=some (.set S n))
 | _=>False
theorem Zwi(I:Inv X a6 σ H s)(r:Yj x v)(ty:tyV X.K T x H) :
  s.TypeIs v T/\∀a,v=.ref a->∃ob,s.heap.get? a=some ob/\ob.dict=none:=by
 cases x with
 | str z =>
  obtain ⟨t,rfl⟩:=r;cases (show T = "str" from ty);exact ⟨typeIs_str s z t,fun _ e=>nomatch e⟩
 | int i =>
  obtain ⟨t,rfl⟩:=r;cases (show T = "int" from ty);exact ⟨typeIs_int s i t,fun _ e=>nomatch e⟩
 | ref p =>
  cases r;rcases ty with ⟨rfl,xs,hq⟩|⟨rfl,o,hk,hc,hd⟩|⟨rfl,hk⟩|⟨rfl,S,n,hk⟩
  ·obtain ⟨a7,_,pl,_⟩:=I.list hq;refine ⟨pl.isList.typeIs,fun a e=>?_⟩;cases e;obtain ⟨o,n,e,c,hd,_⟩:=pl;exact ⟨o,e,hd⟩
  ·refine ⟨⟨o,I.kIn p o hk,hc⟩,fun a e=>?_⟩;cases e;exact ⟨o,I.kIn _ o hk,hd⟩
  ·have z:∃o,s.heap.get? p=some o/\o.ExactDict:=by
    rcases hk with ⟨kvs,hk⟩|⟨kvs,hk⟩
    ·obtain ⟨_,_,_,_,o,_,_,e,ex,_⟩:=I.hok p _ hk;exact ⟨o,e,ex⟩
    ·obtain ⟨_,_,_,_,o,_,_,e,ex,_⟩:=I.hok p _ hk;exact ⟨o,e,ex⟩
   obtain ⟨o,e,ex⟩:=z;refine ⟨⟨o,e,ex.1⟩,fun a e2=>?_⟩;cases e2;exact ⟨o,e,ex.2.1⟩
  ·obtain ⟨o,_,_,_,e,ex,_⟩:=I.hok p _ hk;refine ⟨⟨o,e,ex.1⟩,fun a e2=>?_⟩;cases e2;exact ⟨o,e,ex.2.1⟩
 | _=>exact False.elim ty
def Ydr(K:Frag)(T:String)(r:V->List V->Hp->VK->Prop)(to:TE):TE:=fun σ H Q=>to σ H fun x H1=>tyV K T x H1/\r x [] H1 Q
def tBM(K:Frag)(T:String)(r:V->List V->Hp->VK->Prop)(to:TE)(t:TA):TE:=fun σ H Q=>to σ H fun x H1=>tyV K T x H1/\t σ H1 fun xs H2=>r x xs H2 Q
variable {o e:Expr} {es:List Expr} {to:TE} {t:TA} {name:Str} {c7 d7:Pos} {T id:String} {r:V->List V->Hp->VK->Prop}
theorem Zvr(pa:PlainAttrs T)(slot:Slot T name id) (hty:typeOf (.builtin id)=pure (.type "method_descriptor")) (hm:MtR X id r) (ho:PE X o to)
  (u0:attributeBase o name X.env (eval o X.env)=eval o X.env:=by rfl) (u6:(c7.endLine ==d7.line)=true:=by rfl):PE X (.Call (.Attribute o name c7) [] [] d7) (Ydr X.K T r to):=by
 intro a6 s σ H Q I h;refine wpAny_Call_method0_late u0 u6 (thn (ho a6 s σ H _ I h) fun v s1 ⟨x,H1,I1,r1,ty,q1⟩=>?_);obtain ⟨h1,h2⟩:=Zwi I1 r1 ty;exact ⟨T,id,pa,slot,hty,h1,h2,Calls.callWith_builtin rfl (PySem.evalArgs_none (hm a6 s1 σ H1 x [] v [] Q I1 r1 .nil q1))⟩
theorem Zab(pa:PlainAttrs T)(slot:Slot T name id) (hty:typeOf (.builtin id)=pure (.type "method_descriptor")) (hm:MtR X id r) (ho:PE X o to) (ha:PA X (e ::es) t)
  (u0:attributeBase o name X.env (eval o X.env)=eval o X.env:=by rfl)
  (hfew:((backTo d7 (starEach (e ::es) X.env)).all (fun x=>!x.1) && (backToKw d7 (keywordEach [] X.env)).all (fun x=>x.1.isSome)
   && decide ((e ::es).length+([]:List Keyword).length+(if ([]:List Keyword).isEmpty then 0 else 1)<30))=true:=by rfl)
  (u6:(c7.endLine ==d7.line)=true:=by rfl) (hs:starEach (e ::es) X.env=(false,eval e X.env) ::starEach es X.env:=by rfl) (hplain:(backTo d7 (starEach es X.env)).any (·.1)=false:=by rfl) :
  PE X (.Call (.Attribute o name c7) (e ::es) [] d7) (tBM X.K T r to t):=by
 intro a6 s σ H Q I h;refine wpAny_Call_method_late u0 hfew u6 rfl (thn (ho a6 s σ H _ I h) fun v s1 ⟨x,H1,I1,r1,ty,q1⟩=>?_);obtain ⟨h1,h2⟩:=Zwi I1 r1 ty;refine ⟨T,id,pa,slot,hty,h1,h2,?_⟩;have hA:=ha d7 a6 s1 σ H1 _ I1 q1;rw [hs] at hA ⊢;refine Calls.callWith_builtin (by show (false || (backTo d7 (starEach es X.env)).any (·.1))=false;rw [hplain] <;>rfl) (Calls.evalArgs_plain ?_);exact thn hA fun us s2 ⟨vs,H2,I2,r2,q2⟩=>hm a6 s2 σ H2 x vs v us Q I2 r1 r2 q2
/- xs.append(e),list.index on a module's tuple .. are MtR facts of 06m -/
end
end L2
namespace L2
open PySem PySem.Spec PyProof.Rows
def MtM(X:Cx)(id:String)(r:V->List V->Hp->VK->Prop):Prop :=
 ∀(a6:List (Addr×Obj)) (s:Shared) (σ:St) (H:Hp) (x:V) (xs:List V) (v:Value) (us:List Value) (Q:VK),Inv X a6 σ H s->Yj x v->Yc xs us->r x xs H Q ->
  wpAny (model X.prog X.w) X.A (call (.builtin id) (v ::us)) (EP X a6 σ Q) X.xe s
theorem Yc.one{x:V}{us:List Value}(h:Yc [x] us):∃u,us=[u]/\Yj x u:=by
 cases h with
 | cons r t=>cases t;exact ⟨_,rfl,r⟩
theorem Yc.zero:∀{us:List Value},Yc [] us->us=[]
 | _,.nil=>rfl
theorem Yc.dropLast(h:Yc xs us):Yc xs.dropLast us.dropLast:=by
 induction h with
 | nil=>exact .nil
 | cons r t ih =>
  cases t with
  | nil=>exact .nil
  | cons q t'=>exact .cons r ih
theorem Yc.eraseIdx:∀{xs:List V} {us:List Value} (i:Nat),Yc xs us->Yc (xs.eraseIdx i) (us.eraseIdx i)
 | _,_,_,.nil=>.nil
 | _,_,0,.cons _ t=>t
 | _,_,i+1,.cons r t=>.cons r (Yc.eraseIdx i t)
theorem Zzp{α:Type}(l:List α):l.eraseIdx (l.length-1)=l.dropLast:=by
 induction l with
 | nil=>rfl
 | cons a r ih =>
  cases r with
  | nil=>rfl
  | cons b r =>
   have e:(a ::b ::r).length-1=((b ::r).length-1)+1:=by
    have h1:(a ::b ::r).length=r.length+2:=rfl;have h2:(b ::r).length=r.length+1:=rfl;lia
   rw [e,List.eraseIdx_cons_succ,ih]
   all_goals rfl
theorem Zm8{α:Type}:∀(l:List α) (i:Nat),(l.eraseIdx i).length<=l.length
 | [],_=>Nat.le_refl _
 | _ ::_,0=>Nat.le_succ _
 | _ ::r,i+1=>Nat.succ_le_succ (Zm8 r i)
section
variable {X:Cx} {a6:List (Addr×Obj)} {σ:St} {H:Hp} {s:Shared} {l b:Addr} {xs ys zs:List V}
theorem Inv.lset{a7 its':List Value}{n:Nat}{f:Array Value->Array Value}{t':Nat}(I:Inv X a6 σ H s)(hH:H l=some (.lst xs))
  (e:s.heap.get? l=some { cls:=.type "list",data:=.seq a7.toArray n }) (hf:f a7.toArray=its'.toArray) (hv:Yc ys its') (hz:ys.length<=sizeLine) :
  Inv X a6 σ (upd H l (.lst ys)) { s with heap:=s.heap.update l (Obj.mapSeq f),toks:=t' }:=by
 have q:=PySem.IsL.update e f;rw [hf] at q;refine I.write (x:=l) (e:=l) (by rw [hH];exact trivial) (.inl rfl) (fun b' u hb hu=>(Heap.get?_update_other s.heap (Obj.mapSeq f) (Ne.symm hb)).trans hu) ⟨_,q⟩ ?_;exact ⟨hz,its',_,hv,q⟩
theorem Inv.lnew(I:Inv X a6 σ H s)(hv:Yc ys a7)(hz:ys.length<=sizeLine) :
  Inv X a6 σ (upd H s.heap.objs.size (.lst ys)) { s with heap:=s.heap.push { cls:=.type "list",data:=.seq a7.toArray },toks:=t' } :=
 I.laid (fun _ _ q=>Heap.get?_push_of_some _ q) (Nat.le_refl _) ⟨hz,a7,0,hv,Heap.get?_push_size _ rfl⟩
theorem Inv.fresh(I:Inv X a6 σ H s):H s.heap.objs.size=none:=I.hok.fresh (Nat.le_refl _)
theorem Inv.lstM(I:Inv X a6 σ H s)(hH:H l=some (.lst xs)):xs.length<=sizeLine/\∃(a7:List Value) (n:Nat),Yc xs a7/\xs.length=a7.length/\s.heap.get? l=some { cls:=.type "list",data:=.seq a7.toArray n }:=by
 obtain ⟨z,a7,n,r,e⟩:=I.hok l _ hH;exact ⟨z,a7,n,r,r.length,e⟩
theorem Zwu(h:n<=sizeLine):Builtin.List.listTooLong n=false:=by
 unfold Builtin.List.listTooLong;exact decide_eq_false (by lia)
end
section
variable {X:Cx}
def Zxa:V->List V->Hp->VK->Prop:=fun x vs H Q=>∃l xs y,x=.ref l/\vs=[y]/\H l=some (.lst xs)/\xs.length<sizeLine/\Q .non (upd H l (.lst (xs++[y])))
theorem Yx:MtM X "list.append" Zxa:=by
 intro a6 s σ H x vs v us Q I rx rv h;obtain ⟨l,xs,y,rfl,rfl,hH,hz,q⟩:=h;cases rx;obtain ⟨u,rfl,ru⟩:=rv.one;obtain ⟨z,a7,n,r,hl,e⟩:=I.lstM hH;refine call_meets F.slot_list_append ⟨_,e,rfl⟩ F.entry_list_append (F.args_list_append_2 _ _) (PySem.list_append l a7.toArray n u (by rw [List.size_toArray];lia)) ⟨e,?_⟩;refine ⟨.non,_,I.lset (its':=a7++[u]) hH e (by simp) (r.append (.cons ru .nil)) ?_,rfl,q⟩;rw [List.length_append,List.length_singleton];lia
def Zxh:V->List V->Hp->VK->Prop:=fun x vs H Q=>∃l b xs zs,x=.ref l/\vs=[.ref b]/\H l=some (.lst xs)/\H b=some (.lst zs)/\xs.length+zs.length<=sizeLine/\Q .non (upd H l (.lst (xs++zs)))
theorem Ya0:MtM X "list.extend" Zxh:=by
 intro a6 s σ H x vs v us Q I rx rv h;obtain ⟨l,b,xs,zs,rfl,rfl,hH,hB,hz,q⟩:=h;cases rx;obtain ⟨u,rfl,ru⟩:=rv.one;cases ru;obtain ⟨z,a7,n,r,hl,e⟩:=I.lstM hH;obtain ⟨z2,D5,n2,r2,L5,e2⟩:=I.lstM hB;have hsz:a7.toArray.size+D5.toArray.size<=sizeLine:=by rw [List.size_toArray,List.size_toArray];lia
 have hlong:¬(!a7.toArray.isEmpty && Builtin.List.listTooLong (a7.toArray.size+D5.toArray.size))=true:=by
  rw [Zwu hsz,Bool.and_false];exact Bool.false_ne_true
 refine call_meets F.slot_list_extend ⟨_,e,rfl⟩ F.entry_list_extend (F.args_list_extend_2 _ _)
  (AutoSeq1.list_extend_list_list_0 l a7.toArray n b D5.toArray n2 hlong (by rw [List.size_toArray];lia) (by lia)) ⟨e,e2,?_⟩
 refine ⟨.non,_,I.lset (its':=a7++D5) hH e (by simp) (r.append r2) ?_,rfl,q⟩;rw [List.length_append];lia
def Yaj:V->List V->Hp->VK->Prop:=fun x vs H Q=>∃l xs i k y,x=.ref l/\vs=[.int i]/\H l=some (.lst xs)/\-(2 ^ 63)<=i/\i<2 ^ 63/\seqIndex? i xs.length=some k/\xs[k]? =some y/\Q y (upd H l (.lst (xs.eraseIdx k)))
theorem Zph:MtM X "list.pop" Yaj:=by
 intro a6 s σ H x vs v us Q I rx rv h;obtain ⟨l,xs,i,k,y,rfl,rfl,hH,h1,h2,hk,hy,q⟩:=h;cases rx;obtain ⟨u,rfl,ru⟩:=rv.one;obtain ⟨t,rfl⟩:=ru;obtain ⟨z,a7,n,r,hl,e⟩:=I.lstM hH;obtain ⟨w,hw,B5⟩:=r.get hy;refine call_meets F.slot_list_pop ⟨_,e,rfl⟩ F.entry_list_pop (F.args_list_pop_2 _ _)
  (MeetsSeq.list_pop_at l a7.toArray n i t k w (fitsIndex_both h1 h2) (by rw [List.size_toArray,<-hl];exact hk) (by rw [<-Array.getElem?_toList];exact hw) (by rw [List.size_toArray];lia)) ⟨e,?_⟩
 refine ⟨y,_,I.lset (its':=a7.eraseIdx k) hH e ?_ (r.eraseIdx k) ?_,B5,q⟩
 ·show a7.toArray.eraseIdxIfInBounds k=(a7.eraseIdx k).toArray;rw [List.eraseIdxIfInBounds_toArray]
 ·have:=Zm8 xs k;lia
def Ydf:R2:=fun x y H Q=>∃l b xs zs,x=.ref l/\y=.ref b/\H l=some (.lst xs)/\H b=some (.lst zs)/\xs.length+zs.length<=sizeLine/\∀p,H p=none->Q (.ref p) (upd H p (.lst (xs++zs)))
theorem Zza:OpR X (binaryOp .Add) Ydf:=by
 intro a6 s σ H x y v u Q I rx ry h;obtain ⟨l,b,xs,zs,rfl,rfl,hH,hB,hz,q⟩:=h;cases rx;cases ry;obtain ⟨z,a7,n,r,hl,e⟩:=I.lstM hH;obtain ⟨z2,D5,n2,r2,L5,e2⟩:=I.lstM hB;refine PySem.P.add_list e e2 ?_ (by rw [List.size_toArray,List.size_toArray];lia);have ea:a7.toArray++D5.toArray=(a7++D5).toArray:=by simp
 rw [ea];exact ⟨.ref _,_,I.lnew (t':=s.toks) (r.append r2) (by rw [List.length_append];lia),rfl,q _ I.fresh⟩
end
section
variable {prog:Program} {w:World} {A:Around} {E:Value->Shared->Prop} {s:Shared}
end
section
variable {X:Cx}
end
end L2
namespace L2
open PySem PySem.Spec PyProof.Rows
section
variable {κ:Type} [DecidableEq κ]
def Yy(kvs:List (κ×V))(k:κ):Option V:=(kvs.find? fun kv=>decide (kv.1=k)).map (·.2)
def Wb(kvs:List (κ×V))(k:κ)(v:V):List (κ×V) :=
 if (kvs.any fun kv=>decide (kv.1=k))=true then kvs.map (fun kv=>if kv.1=k then (kv.1,v) else kv) else kvs++[(k,v)]
def Zfd(kvs:List (κ×V))(k:κ):List (κ×V):=kvs.filter fun kv=>decide (kv.1≠k)
theorem Xq{p:κ×V}{r:List (κ×V)}{k:κ}(e:p.1=k):Yy (p ::r) k=some p.2:=by simp [Yy,List.find?_cons,e]
theorem Xh{p:κ×V}{r:List (κ×V)}{k:κ}(e:¬p.1=k):Yy (p ::r) k=Yy r k:=by simp [Yy,List.find?_cons,e]
theorem Zck(k:κ):∀kvs:List (κ×V),(kvs.any fun kv=>decide (kv.1=k))=(Yy kvs k).isSome
 | []=>rfl
 | p ::r=>by
  rw [List.any_cons]
  by_cases e:p.1=k
  ·simp only [Xq e,decide_eq_true e,Bool.true_or,Option.isSome_some]
  ·rw [Xh e,decide_eq_false e,Bool.false_or];exact Zck k r
theorem Zqi(k j:κ)(y:V):∀kvs:List (κ×V),Yy (kvs.map fun kv=>if kv.1=k then (kv.1,y) else kv) j=(Yy kvs j).map fun x=>if j=k then y else x
 | []=>rfl
 | p ::r=>by
  have ih:=Zqi k j y r;rw [List.map_cons]
  by_cases h:p.1=k
  ·rw [if_pos h]
   by_cases e:p.1=j
   ·rw [Xq (p:=(p.1,y)) e,Xq e,Option.map_some,if_pos (e.symm.trans h)]
   ·rw [Xh (p:=(p.1,y)) e,Xh e,ih]
  ·rw [if_neg h]
   by_cases e:p.1=j
   ·rw [Xq (p:=p) e,Xq e,Option.map_some,if_neg (fun z=>h (e.trans z))]
   ·rw [Xh (p:=p) e,Xh e,ih]
theorem Znj(k j:κ)(y:V):∀kvs:List (κ×V),Yy kvs k=none->Yy (kvs++[(k,y)]) j=if j=k then some y else Yy kvs j
 | [],_=>by
  by_cases e:k=j
  ·rw [if_pos e.symm];exact Xq (p:=(k,y)) e
  ·rw [if_neg (fun z=>e z.symm)];exact Xh (p:=(k,y)) e
 | p ::r,hn=>by
  rw [List.cons_append];have hk:¬p.1=k:=fun z=>by rw [Xq z] at hn;cases hn
  rw [Xh hk] at hn;have ih:=Znj k j y r hn
  by_cases e:p.1=j
  ·rw [Xq e,Xq e,if_neg (fun z=>hk (e.trans z))]
  ·rw [Xh e,Xh e,ih]
theorem Zwp(kvs:List (κ×V))(k j:κ)(y:V):Yy (Wb kvs k y) j=if j=k then some y else Yy kvs j:=by
 unfold Wb
 by_cases a:(kvs.any fun kv=>decide (kv.1=k))=true
 ·rw [if_pos a,Zqi];rw [Zck] at a
  by_cases e:j=k
  ·obtain ⟨x,hx⟩:=Option.isSome_iff_exists.mp a;rw [if_pos e,e,hx,Option.map_some,if_pos rfl]
  ·rw [if_neg e];cases Yy kvs j with
   | none=>rfl
   | some x=>rw [Option.map_some,if_neg e]
 ·rw [if_neg a];refine Znj k j y kvs ?_;rw [Zck] at a;cases q:Yy kvs k with
  | none=>rfl
  | some x=>rw [q] at a;exact (a rfl).elim
theorem Zbm(kvs:List (κ×V))(k:κ)(v:V):(Wb kvs k v).length<=kvs.length+1:=by
 unfold Wb;split
 ·rw [List.length_map];lia
 ·rw [List.length_append,List.length_cons,List.length_nil];lia
theorem Zhx{kvs:List (κ×V)}{k:κ}(v:V)(h:Yy kvs k=none):Wb kvs k v=kvs++[(k,v)]:=by
 unfold Wb;rw [Zck,h];exact if_neg (by decide)
theorem Zdh.isSome_eq(r:Zdh o u):o.isSome=u.isSome:=by
 cases o with
 | none=>cases u with
  | none=>rfl
  | some _=>exact (show False from r).elim
 | some _=>cases u with
  | none=>exact (show False from r).elim
  | some _=>rfl
theorem Zdh.getD(r:Zdh o u)(rd:Yj d d'):Yj (o.getD d) (u.getD d'):=by
 cases o with
 | none=>cases u with
  | none=>exact rd
  | some _=>exact (show False from r).elim
 | some _=>cases u with
  | none=>exact (show False from r).elim
  | some _=>exact r
theorem KV.val{kvs:List (κ×V)}{vs:List (κ×Value)}(r:KV kvs vs)(k:κ):Zdh (Yy kvs k) (valueAt vs k):=by
 unfold KV at r
 induction r with
 | nil=>exact True.intro
 | @cons p q ps qs h t ih =>
  obtain ⟨h1,h2⟩:=h
  by_cases e:p.1=k
  ·have e':q.1=k:=h1.symm.trans e;have b:valueAt (q ::qs) k=some q.2:=by simp [valueAt,List.find?_cons,e']
   rw [Xq e,b];exact h2
  ·have e':¬q.1=k:=fun z=>e (h1.trans z)
   have b:valueAt (q ::qs) k=valueAt qs k:=by simp [valueAt,List.find?_cons,e']
   rw [Xh e,b];exact ih
theorem KV.any{kvs:List (κ×V)}{vs:List (κ×Value)}(r:KV kvs vs)(k:κ):(kvs.any fun kv=>decide (kv.1=k))=vs.any fun kv=>decide (kv.1=k):=by
 unfold KV at r
 induction r with
 | nil=>rfl
 | cons h t ih=>rw [List.any_cons,List.any_cons,ih,h.1]
theorem KV.repl{kvs:List (κ×V)}{vs:List (κ×Value)}(r:KV kvs vs)(k:κ)(ry:Yj y u) :
  KV (kvs.map fun kv=>if kv.1=k then (kv.1,y) else kv) (vs.map fun kv=>if kv.1=k then (kv.1,u) else kv):=by
 unfold KV at r ⊢
 induction r with
 | nil=>exact .nil
 | @cons p q ps qs h t ih =>
  rw [List.map_cons,List.map_cons];refine .cons ?_ ih;obtain ⟨h1,h2⟩:=h
  by_cases e:p.1=k
  ·rw [if_pos e,if_pos (h1.symm.trans e)];exact ⟨h1,ry⟩
  ·rw [if_neg e,if_neg (fun z=>e (h1.trans z))];exact ⟨h1,h2⟩
theorem KV.put{kvs:List (κ×V)}{vs:List (κ×Value)}(r:KV kvs vs)(k:κ)(ry:Yj y u):KV (Wb kvs k y) (stored vs k u):=by
 unfold Wb stored;rw [r.any k]
 by_cases e:(vs.any fun kv=>decide (kv.1=k))=true
 ·rw [if_pos e,if_pos e];exact r.repl k ry
 ·rw [if_neg e,if_neg e];exact Paired.snoc r ⟨rfl,ry⟩
theorem KV.drop{kvs:List (κ×V)}{vs:List (κ×Value)}(r:KV kvs vs)(k:κ):KV (Zfd kvs k) (without vs k):=by
 unfold KV at r ⊢;unfold Zfd without
 induction r with
 | nil=>exact .nil
 | @cons p q ps qs h t ih =>
  obtain ⟨h1,h2⟩:=h;rw [List.filter_cons,List.filter_cons]
  by_cases e:p.1=k
  ·have a:¬decide (p.1≠k)=true:=by simp [e]
   have b:¬decide (q.1≠k)=true:=by simp [h1.symm.trans e]
   rw [if_neg a,if_neg b];exact ih
  ·have e':¬q.1=k:=fun z=>e (h1.trans z)
   have a:decide (p.1≠k)=true:=by simp [e]
   have b:decide (q.1≠k)=true:=by simp [e']
   rw [if_pos a,if_pos b];exact .cons ⟨h1,h2⟩ ih
theorem KV.length{kvs:List (κ×V)}{vs:List (κ×Value)}(r:KV kvs vs):kvs.length=vs.length:=Paired.length r
theorem Zql(kvs:List (κ×V))(k:κ):(Zfd kvs k).length<=kvs.length:=List.length_filter_le _ _
end
theorem Zgq(r:Yj (kV k) u):(Z0 P w).is k u=true:=by
 cases k with
 | inl i=>obtain ⟨t,e⟩:=(show ∃t,u=Value.int i t from r);subst e;exact Zp4 P w i t
 | inr x=>obtain ⟨t,e⟩:=(show ∃t,u=Value.str x t from r);subst e;exact Zp5 P w x t
theorem Ziy  :∀{ks:List Key} {us:List Value},Yc (ks.map kV) us->ItemsAre (Z0 P w) ks us
 | [],_,r=>by rw [List.map_nil] at r;cases r;exact .nil
 | k ::ks,_,r=>by
  rw [List.map_cons] at r;cases r with
  | cons h t=>exact .cons (Zgq h) (Ziy t)
abbrev KT(H:Hp):List (List Key×V)->List (List Key×Addr×Value)->Prop:=Paired fun p q=>p.1=q.1/\H q.2.1=some (.tup (p.1.map kV))/\Yj p.2 q.2.2
theorem KT.val(r:KT H kvs xs)(k:List Key):Zdh (Yy kvs k) ((atKey xs k).map (·.2)):=by
 induction r with
 | nil=>exact True.intro
 | @cons p q ps qs h t ih =>
  obtain ⟨h1,_,h2⟩:=h
  by_cases e:p.1=k
  ·have e':q.1=k:=h1.symm.trans e;have b:atKey (q ::qs) k=some q.2:=by simp [atKey,List.find?_cons,e']
   rw [Xq e,b];exact h2
  ·have e':¬q.1=k:=fun z=>e (h1.trans z)
   have b:atKey (q ::qs) k=atKey qs k:=by simp [atKey,List.find?_cons,e']
   rw [Xh e,b];exact ih
theorem KT.repl(r:KT H kvs xs)(k:List Key)(ry:Yj y u) :
  KT H (kvs.map fun kv=>if kv.1=k then (kv.1,y) else kv) (xs.map (putAt k u)):=by
 induction r with
 | nil=>exact .nil
 | @cons p q ps qs h t ih =>
  rw [List.map_cons,List.map_cons];refine .cons ?_ ih;obtain ⟨h1,h2,h3⟩:=h;unfold putAt
  by_cases e:p.1=k
  ·rw [if_pos e,if_pos (h1.symm.trans e)];exact ⟨h1,h2,ry⟩
  ·rw [if_neg e,if_neg (fun z=>e (h1.trans z))];exact ⟨h1,h2,h3⟩
theorem KT.put(r:KT H kvs xs)(k:List Key)(hb:H b=some (.tup (k.map kV)))(ry:Yj y u) :
  KT H (Wb kvs k y) (storedH xs k b u):=by
 have e:(kvs.any fun kv=>decide (kv.1=k))=(atKey xs k).isSome:=by
  rw [Zck,(r.val k).isSome_eq,Option.isSome_map]
 unfold Wb storedH;rw [e]
 by_cases q:(atKey xs k).isSome=true
 ·rw [if_pos q,if_pos q];exact r.repl k ry
 ·rw [if_neg q,if_neg q];exact Paired.snoc r ⟨rfl,hb,ry⟩
theorem KT.keeps(r:KT H kvs xs)(ht:∀b ys,H b=some (.tup ys)->H' b=some (.tup ys)):KT H' kvs xs :=
 Paired.mapP r fun _ _ z=>⟨z.1,ht _ _ z.2.1,z.2.2⟩
section
variable {P:Program} {w:World} {H:Hp} {h:Heap} {a:Addr}
theorem Zyo(ok:HOk P w H h)(e:Rd H a u):Yr P w H h a u:=e.ok ok
theorem Zb1(ok:HOk P w H h)(e:Rd H a (.dK kvs)):kvs.length<=sizeLine/\(a ==sysModules)=false/\∃vs,KV kvs vs/\h.DictOf (Z0 P w) a vs :=
 show Yr P w H h a (.dK kvs) from Zyo ok e
theorem Zi9(ok:HOk P w H h)(e:H a=some (.dK kvs)):kvs.length<=sizeLine/\(a ==sysModules)=false/\∃vs,KV kvs vs/\h.DictOf (Z0 P w) a vs:=Zb1 ok (.inl e)
theorem Zix(ok:HOk P w H h)(e:H a=some (.tup (ks.map kV))):(tupleKind (Z0 P w)).is h ks a:=by
 obtain ⟨_,a7,r,o,h1,h2,n,h3⟩:=(show Yr P w H h a (.tup (ks.map kV)) from ok a _ e)
 exact ⟨o,a7.toArray,n,h1,h2,h3,by simpa using Ziy r⟩
theorem Zkf(ok:HOk P w H h)(e:Rd H a (.dT kvs)):kvs.length<=sizeLine/\(a ==sysModules)=false /\
  ∃xs,KT H kvs xs/\h.DictOfH (tupleKind (Z0 P w)) a xs:=by
 obtain ⟨z,y,xs,r,o,es,ep,h1,h2,h3,h4,h5⟩:=(show Yr P w H h a (.dT kvs) from Zyo ok e)
 refine ⟨z,y,xs,r,o,es,ep,h1,h2,h3,h4,fun x hx=>?_,h5⟩;have all:∀{l:List (List Key×V)} {m:List (List Key×Addr×Value)},KT H l m->∀x∈m,(tupleKind (Z0 P w)).is h x.1 x.2.1:=by
  intro l m q
  induction q with
  | nil=>intro x hx;exact nomatch hx
  | @cons p q ps qs hq t ih =>
   intro x hx;rcases List.mem_cons.mp hx with e|hx
   ·subst e;exact Zix ok (by rw [<-hq.1];exact hq.2.1)
   ·exact ih x hx
 exact all r x hx
theorem Zyv(ok:HOk P w H h)(e:H a=some (.dT kvs)):kvs.length<=sizeLine/\(a ==sysModules)=false /\
  ∃xs,KT H kvs xs/\h.DictOfH (tupleKind (Z0 P w)) a xs:=Zkf ok (.inl e)
end
def Wc(H:Hp)(a:Addr)(y:V)(r:Option V):Prop :=
 (∃kvs k,Rd H a (.dK kvs)/\y=kV k/\r=Yy kvs k)\/∃kvs k b,Rd H a (.dT kvs)/\y=.ref b/\H b=some (.tup (k.map kV))/\r=Yy kvs k
def Zdz(H:Hp)(a:Addr)(y v:V)(H':Hp):Prop :=
 (∃kvs k,H a=some (.dK kvs)/\y=kV k/\kvs.length<sizeLine/\H'=upd H a (.dK (Wb kvs k v))) \/
 ∃kvs k b,H a=some (.dT kvs)/\y=.ref b/\H b=some (.tup (k.map kV))/\kvs.length<sizeLine/\H'=upd H a (.dT (Wb kvs k v))
theorem Wc.k{H:Hp}{a:Addr}{kvs:List (Key×V)}{k:Key}(e:H a=some (.dK kvs)):Wc H a (kV k) (Yy kvs k):=.inl ⟨kvs,k,.inl e,rfl,rfl⟩
theorem Wc.t{H:Hp}{a b:Addr}{kvs:List (List Key×V)}{k:List Key}(e:H a=some (.dT kvs))(eb:H b=some (.tup (k.map kV))):Wc H a (.ref b) (Yy kvs k):=.inr ⟨kvs,k,b,.inl e,rfl,eb,rfl⟩
theorem Zdz.k{H:Hp}{a:Addr}{kvs:List (Key×V)}{k:Key}{v:V}(e:H a=some (.dK kvs))(hl:kvs.length<sizeLine):Zdz H a (kV k) v (upd H a (.dK (Wb kvs k v))):=.inl ⟨kvs,k,e,rfl,hl,rfl⟩
theorem Zdz.t{H:Hp}{a b:Addr}{kvs:List (List Key×V)}{k:List Key}{v:V}(e:H a=some (.dT kvs))(eb:H b=some (.tup (k.map kV)))(hl:kvs.length<sizeLine) :
  Zdz H a (.ref b) v (upd H a (.dT (Wb kvs k v))):=.inr ⟨kvs,k,b,e,rfl,eb,hl,rfl⟩
section
variable {X:Cx} {a6:List (Addr×Obj)} {σ:St} {H:Hp} {s:Shared} {a:Addr} {y v:V} {u r:Value} {o:Option V} {A:Around} {E:Value->Shared->Prop}
theorem Inv.big(I:Inv X a6 σ H s):sysModules<s.heap.objs.size:=by
 have h:mainGlobals<s.heap.objs.size:=(I.mod.glob.keeps I.bk).lt;exact Nat.lt_trans (by decide) h
theorem Zud{Q:Value->Shared->Prop}(hu:A.units+1<cLine)(I:Inv X a6 σ H s)(g:Wc H a y (some v))(ry:Yj y u)(h:∀w' s',Inv X a6 σ H s'->Yj v w'->Q w' s') :
  wpAny (model X.prog X.w) A (getItem (.ref a) u) Q E s:=by
 rcases g with ⟨kvs,k,e,ey,l⟩|⟨kvs,k,b,e,ey,eb,l⟩
 ·subst ey;obtain ⟨z,hd,vs,i7,dd⟩:=Zb1 I.hok e;obtain ⟨w',hw,B5⟩:=Zdh.some_of (v:=v) (o:=valueAt vs k) (by rw [l];exact i7.val k);exact wpAny_getItem_of (Zgq ry) dd.mapOf hw (h w' _ (I.tok _) B5)
 ·subst ey;cases (show u=Value.ref b from ry);obtain ⟨z,hd,xs,i7,dd⟩:=Zkf I.hok e;obtain ⟨w',hw,B5⟩:=Zdh.some_of (v:=v) (o:=(atKey xs k).map (·.2)) (by rw [l];exact i7.val k);obtain ⟨p,hp,hp2⟩:=Option.map_eq_some_iff.mp hw;refine wpAny_getItem_heap (tupleKind_room_in1 hu) (Zix I.hok eb) dd hp ?_;rw [hp2];exact h w' _ (I.tok _) B5
theorem Yc7{Q:Value->Shared->Prop}(hu:A.units+1<cLine)(I:Inv X a6 σ H s)(g:Wc H a y o)(ry:Yj y u)(h:∀s',Inv X a6 σ H s'->Q (.bool o.isSome) s') :
  wpAny (model X.prog X.w) A (compareOp .In u (.ref a)) Q E s:=by
 rcases g with ⟨kvs,k,e,ey,l⟩|⟨kvs,k,b,e,ey,eb,l⟩
 ·subst ey;obtain ⟨z,hd,vs,i7,dd⟩:=Zb1 I.hok e;refine wpAny_in_of (Zgq ry) hd dd.mapOf ?_;rw [<-(i7.val k).isSome_eq,<-l];exact h _ (I.tok _)
 ·subst ey;cases (show u=Value.ref b from ry);obtain ⟨z,hd,xs,i7,dd⟩:=Zkf I.hok e;refine wpAny_in_heap (tupleKind_room_in1 hu) (Zix I.hok eb) hd dd ?_;have q:=(i7.val k).isSome_eq;rw [Option.isSome_map] at q;rw [<-q,<-l];exact h _ (I.tok _)
theorem Zxi{Q:Value->Shared->Prop}(hu:A.units+1<cLine)(I:Inv X a6 σ H s)(g:Wc H a y o)(ry:Yj y u)(h:∀s',Inv X a6 σ H s'->Q (.bool (!o.isSome)) s') :
  wpAny (model X.prog X.w) A (compareOp .NotIn u (.ref a)) Q E s:=by
 rcases g with ⟨kvs,k,e,ey,l⟩|⟨kvs,k,b,e,ey,eb,l⟩
 ·subst ey;obtain ⟨z,hd,vs,i7,dd⟩:=Zb1 I.hok e;refine wpAny_notIn_of (Zgq ry) hd dd.mapOf ?_;rw [<-(i7.val k).isSome_eq,<-l];exact h _ (I.tok _)
 ·subst ey;cases (show u=Value.ref b from ry);obtain ⟨z,hd,xs,i7,dd⟩:=Zkf I.hok e;refine wpAny_notIn_heap (tupleKind_room_in1 hu) (Zix I.hok eb) hd dd ?_;have q:=(i7.val k).isSome_eq;rw [Option.isSome_map] at q;rw [<-q,<-l];exact h _ (I.tok _)
theorem Zga(I:Inv X a6 σ H s)(mu:Mut (H a))(hs:Heap.SameBut a s.heap h')(he:∃q,h'.get? a=some q)(new:Yr X.prog X.w (upd H a ob) h' a ob) :
  Inv X a6 σ (upd H a ob) { s with heap:=h',toks:=t' } :=
 I.write (x:=a) (e:=a) mu (.inl rfl) (fun b q hb z=>(hs.2 b hb).trans z) he new
theorem Zg4(z:kvs.length<=sizeLine)(hd:(a ==sysModules)=false)(i7:KV kvs vs)(dd:h'.DictOf (Z0 P w) a vs) :
  Yr P w H' h' a (.dK kvs):=⟨z,hd,vs,i7,dd⟩
theorem Zs4{Q:Unit->Shared->Prop}(hu:A.units+1<cLine)(I:Inv X a6 σ H s)(g:Zdz H a y v H')(ry:Yj y u)(rv:Yj v r)(h:∀s',Inv X a6 σ H' s'->Q () s') :
  wpAny (model X.prog X.w) A (setItem (.ref a) u r) Q E s:=by
 rcases g with ⟨kvs,k,e,ey,l,eH⟩|⟨kvs,k,b,e,ey,eb,l,eH⟩
 ·subst ey eH;obtain ⟨z,hd,vs,i7,dd⟩:=Zi9 I.hok e;have hz:vs.length<=sizeLine:=by rw [<-i7.length];exact z
  have hl:(Wb kvs k v).length<=sizeLine:=by have:=Zbm kvs k v;lia
  refine wpAny_setItem_pairs (hsz:=hz) (Zgq ry) dd fun h' C6 hs=>h _ ?_
  have he:∃q,h'.get? a=some q:=let ⟨q,_,_,hq,_⟩:=C6;⟨q,hq⟩;exact Zga I (by rw [e];exact True.intro) hs he (Zg4 hl hd (i7.put k rv) C6)
 ·subst ey eH;cases (show u=Value.ref b from ry);obtain ⟨z,hd,xs,i7,dd⟩:=Zyv I.hok e;have hz:xs.length<=sizeLine:=by rw [<-Paired.length i7];exact z
  have hl:(Wb kvs k v).length<=sizeLine:=by have:=Zbm kvs k v;lia
  refine wpAny_setItem_heap (hsz:=hz) (tupleKind_room_in1 hu) (Zix I.hok eb) dd fun h' C6 hs=>h _ ?_
  obtain ⟨q,es,ep,hq,h2,h3,h4,_,h5⟩:=C6;refine Zga I (by rw [e];exact True.intro) hs ⟨q,hq⟩ ⟨hl,hd,_,(i7.put k eb rv).keeps fun c ys ec=>?_,q,es,ep,hq,h2,h3,h4,h5⟩;rw [Ze (Zyw ec e (fun z=>nomatch z))];exact ec
end
section
variable {X:Cx} {a6:List (Addr×Obj)} {σ:St} {H:Hp} {s:Shared} {a:Addr} {kvs:List (Key×V)} {k:Key} {u:Value} {A:Around} {E:Value->Shared->Prop}
theorem Yaz{Q:Unit->Shared->Prop}(I:Inv X a6 σ H s)(e:H a=some (.dK kvs))(ry:Yj (kV k) u)(l:(Yy kvs k).isSome=true)(h:∀s',Inv X a6 σ (upd H a (.dK (Zfd kvs k))) s'->Q () s') :
  wpAny (model X.prog X.w) A (delItem (.ref a) u) Q E s:=by
 obtain ⟨z,hd,vs,i7,dd⟩:=Zi9 I.hok e;refine wpAny_delItem_slot dd.typeIs (by decide) PySem.F.slot_dict_delitem
  (call_meetsIn PySem.F.slot_dict_delitem dd.typeIs PySem.F.entry_dict_delitem (PySem.F.args_dict_delitem_2 _ _) (meets_dict_delitem_pairs (Z0 X.prog X.w) a (Zgq ry)) ⟨vs,dd,by rw [<-i7.length];exact z,by rw [<-(i7.val k).isSome_eq];exact l,fun h' C6 hs=>h _ ?_⟩)
 have he:∃q,h'.get? a=some q:=let ⟨q,_,_,hq,_⟩:=C6;⟨q,hq⟩;exact Zga I (by rw [e];exact True.intro) hs he (Zg4 (Nat.le_trans (Zql kvs k) z) hd (i7.drop k) C6)
theorem Yb6{Q:Value->Shared->Prop}(I:Inv X a6 σ H s)(e:H a=some (.dK kvs))(ry:Yj (kV k) u)(l:Yy kvs k=some v)(hm:more=[]\/∃x,more=[x])
  (h:∀w' s',Inv X a6 σ (upd H a (.dK (Zfd kvs k))) s'->Yj v w'->Q w' s'):wpAny (model X.prog X.w) A (call (.builtin "dict.pop") (.ref a ::u ::more)) Q E s:=by
 obtain ⟨z,hd,vs,i7,dd⟩:=Zi9 I.hok e;obtain ⟨w',hw,B5⟩:=Zdh.some_of (v:=v) (o:=valueAt vs k) (by rw [<-l];exact i7.val k);have hp:(keyPart u).isSome=true:=by
  cases k with
  | inl i=>obtain ⟨t,q⟩:=(show ∃t,u=Value.int i t from ry);subst q;rfl
  | inr x=>obtain ⟨t,q⟩:=(show ∃t,u=Value.str x t from ry);subst q;rfl
 have ha:argsOk "dict.pop" ⟨.ref a ::u ::more,[]⟩:=by
  rcases hm with q|⟨x,q⟩
  ·subst q;exact PySem.F.args_dict_pop_2 _ _
  ·subst q;exact PySem.F.args_dict_pop_3 _ _ _
 refine call_meetsIn PySem.F.slot_dict_pop dd.typeIs PySem.F.entry_dict_pop ha (meets_dict_pop_there (Z0 X.prog X.w) a (Zgq ry) more hm hp)
  ⟨vs,w',dd,by rw [<-i7.length];exact z,hw,fun h' C6 hs=>h w' _ ?_ B5⟩
 have he:∃q,h'.get? a=some q:=let ⟨q,_,_,hq,_⟩:=C6;⟨q,hq⟩;exact Zga I (by rw [e];exact True.intro) hs he (Zg4 (Nat.le_trans (Zql kvs k) z) hd (i7.drop k) C6)
theorem Zx0{Q:Value->Shared->Prop}(I:Inv X a6 σ H s)(e:H a=some (.dK kvs))(h:∀s',Inv X a6 σ (upd H a (.dK [])) s'->Q .none s'):wpAny (model X.prog X.w) A (call (.builtin "dict.clear") [.ref a]) Q E s:=by
 obtain ⟨z,hd,vs,i7,dd⟩:=Zi9 I.hok e;refine call_meetsIn PySem.F.slot_dict_clear dd.typeIs PySem.F.entry_dict_clear (PySem.F.args_dict_clear_1 _) (meets_dict_clear (Z0 X.prog X.w) a) ⟨vs,dd,by rw [<-i7.length];exact z,fun h' C6 hs=>h _ ?_⟩;have he:∃q,h'.get? a=some q:=let ⟨q,_,_,hq,_⟩:=C6;⟨q,hq⟩;exact Zga (t':=s.toks) I (by rw [e];exact True.intro) hs he (Zg4 (Nat.zero_le _) hd .nil C6)
theorem Ybz{Q:Value->Shared->Prop}(I:Inv X a6 σ H s)(e:Rd H a (.dK kvs))(h:∀t s',Inv X a6 σ H s'->Q (.int kvs.length t) s'):wpAny (model X.prog X.w) A (call (.builtin "len") [.ref a]) Q E s:=by
 obtain ⟨z,hd,vs,i7,dd⟩:=Zb1 I.hok e;refine call_len_dict hd dd (by rw [<-i7.length];rw [sizeLine_eq] at z;lia) ?_;rw [<-i7.length];exact h _ _ (I.tok _)
end
def Ybc(i:Expr):Prop:=∀ov iv,subscripted i false ov iv=operate [ov,iv] (getItem ov iv)
theorem Zwz{prog:Program}{w:World}{A:Around}{E:Value->Shared->Prop}{s:Shared}{env:Env}{value slice:Expr}{pos:Pos}{T id:String}{Q:Value->Shared->Prop}
  (hl:typeLookup (.type T) "__getitem__" =pure (some (.builtin id))) (hs:Ybc slice)
  (h:wpAny (model prog w) A (eval value env) (fun o s₁=>wpAny (model prog w) A (eval slice env) (fun i s₂=>s₂.TypeIs o T/\wpAny (model prog w) A (getItem o i) Q E s₂) E s₁) E s) :
  wpAny (model prog w) A (eval (.Subscript value slice pos) env) Q E s:=by
 refine Subscript_ (wpAny_mono h (fun o s₁ h₁=>wpAny_mono h₁ (fun i s₂ h₂=>?_) fun _ _ x=>x) fun _ _ x=>x);obtain ⟨hT,h₂⟩:=h₂;unfold subscriptTail;refine wpAny_bind ?_;rw [getitemInPython_of_ne hT.not_modules];refine wpAny_bind (wpAny_specialOf hT hl ?_);have fin:wpAny (model prog w) A (subscripted slice false o i) (fun r s₃=>wpAny (model prog w) A (letTemporaryGo value o r >>=fun _=>pure r) Q E s₃) E s₂:=by
  rw [hs o i];exact wpAny_operating (wpAny_mono h₂ (fun r s₃ h₃=>wpAny_bind (wpAny_letTemporaryGo (wpAny_pure h₃))) fun _ _ x=>x)
 first
  | exact wpAny_pure (wpAny_bind fin)
  | exact wpAny_bind (wpAny_pure (wpAny_bind fin))
  | exact wpAny_bind fin
theorem Zpm(I:Inv X a6 σ H s)(g:Wc H a y o):s.TypeIs (.ref a) "dict" :=by
 rcases g with ⟨kvs,k,e,_,_⟩|⟨kvs,k,b,e,_,_,_⟩
 ·obtain ⟨_,_,vs,_,dd⟩:=Zb1 I.hok e;exact dd.typeIs
 ·obtain ⟨_,_,xs,_,dd⟩:=Zkf I.hok e;exact dd.typeIs
def Ya9(td ty:TE):TE:=fun σ H Q=>td σ H fun x H1=>ty σ H1 fun y H2=>∃a v,x=.ref a/\Wc H2 a y (some v)/\Q v H2
def Yca(td ty tv:TE):TS:=fun D σ H=>tv σ H fun v H1=>td σ H1 fun x H2=>ty σ H2 fun y H3=>∃a H4,x=.ref a/\Zdz H3 a y v H4/\D.nx σ H4
section
variable {X:Cx} {o i e value:Expr} {pos A3 R0:Pos} {td ty tv:TE}
theorem X1(hu:X.A.units+1<cLine)(ho:PE X o td)(hi:PE X i ty)(hs:Ybc i):PE X (.Subscript o i pos) (Ya9 td ty):=by
 intro a6 s σ H Q I h;refine Zwz PySem.F.slot_dict_getitem.lookup hs (thn (ho a6 s σ H _ I h) fun u s1 ⟨x,H1,I1,rx,q1⟩=>thn (hi a6 s1 σ H1 _ I1 q1) fun iv s2 ⟨y,H2,I2,ry,a,v,ex,g,q2⟩=>?_);subst ex;obtain rfl:u=Value.ref a:=rx;exact ⟨Zpm I2 g,Zud hu I2 g ry fun w' s3 I3 B5=>⟨v,H2,I3,B5,q2⟩⟩
theorem Wi(hu:X.A.units+1<cLine)(ho:PE X o td)(hi:PE X i ty)(hv:PE X value tv)(hs:swapsWith value (some (.Subscript o i A3)) pos.line X.env=pure false) :
  PS X (.Assign [.Subscript o i A3] value pos) (Yca td ty tv):=by
 intro a6 s σ H D I h;refine wpAny_Assign_Subscript (thn (hv a6 s σ H _ I h) fun r s1 ⟨v,H1,I1,rv,q1⟩=>thn (ho a6 s1 σ H1 _ I1 q1) fun u s2 ⟨x,H2,I2,rx,q2⟩=>thn (hi a6 s2 σ H2 _ I2 q2) fun iv s3 ⟨y,H3,I3,ry,a,H4,ex,g,q3⟩=>?_) hs;subst ex;obtain rfl:u=Value.ref a:=rx;exact Zs4 hu I3 g ry rv fun s4 I4=>⟨σ,H4,I4,q3⟩
end
theorem Zpw(h:Heap)(hb:sysModules<h.objs.size):Yr P w H (h.push { cls:=.type "dict",data:=.dict #[] }) h.objs.size (.dK []) :=
 ⟨Nat.zero_le _,beq_eq_false_iff_ne.mpr (Ne.symm (Nat.ne_of_lt hb)),[],.nil,Heap.DictOf.new h⟩
theorem Zwc(h:Heap)(hb:sysModules<h.objs.size):Yr P w H (h.push { cls:=.type "dict",data:=.dict #[] }) h.objs.size (.dT []) :=
 ⟨Nat.zero_le _,beq_eq_false_iff_ne.mpr (Ne.symm (Nat.ne_of_lt hb)),[],.nil,_,#[],0,Heap.get?_push_size _ rfl,⟨rfl,rfl,rfl⟩,rfl,rfl,List.nodup_nil⟩
def Zzs:TE:=fun _ H Q=>∀p,H p=none->Q (.ref p) (upd H p (.dK []))
def Zzf:TE:=fun _ H Q=>∀p,H p=none->Q (.ref p) (upd H p (.dT []))
section
variable {X:Cx} {pos:Pos}
theorem Zwb:PE X (.Dict [] [] pos) Zzs:=fun a6 s σ H Q I h =>
 wpAny_Dict_empty ⟨.ref s.heap.objs.size,_,I.laid (a:=s.heap.objs.size) (o:=.dK []) (t':=s.toks) (fun _ _ q=>Heap.get?_push_of_some _ q) (Nat.le_refl _) (Zpw s.heap I.big),rfl,h _ (I.hok.fresh (Nat.le_refl _))⟩
theorem Zuw:PE X (.Dict [] [] pos) Zzf:=fun a6 s σ H Q I h =>
 wpAny_Dict_empty ⟨.ref s.heap.objs.size,_,I.laid (a:=s.heap.objs.size) (o:=.dT []) (t':=s.toks) (fun _ _ q=>Heap.get?_push_of_some _ q) (Nat.le_refl _) (Zwc s.heap I.big),rfl,h _ (I.hok.fresh (Nat.le_refl _))⟩
end
def Zqs:List (TE×TE)->St->Hp->(List (V×V)->Hp->Prop)->Prop
 | [],_,H,Q=>Q [] H
 | (tk,tv) ::r,σ,H,Q=>tk σ H fun x H1=>tv σ H1 fun y H2=>Zqs r σ H2 fun ps H3=>Q ((x,y) ::ps) H3
abbrev VV:List (V×V)->List (Value×Value)->Prop:=Paired fun p q=>Yj p.1 q.1/\Yj p.2 q.2
def PPs(X:Cx)(pos:Pos)(keys:List (Option Expr))(C5:List Expr)(trs:List (TE×TE)):Prop :=
 ∀(a6:List (Addr×Obj)) (s:Shared) (σ:St) (H:Hp) (Q:List (V×V)->Hp->Prop),Inv X a6 σ H s->Zqs trs σ H Q ->
  wpAny (model X.prog X.w) X.A (evalPairs (pairTrees keys C5 X.env pos)) (fun vs s'=>∃ps H',Inv X a6 σ H' s'/\VV ps vs/\Q ps H') X.xe s
theorem Zj0  :PPs X pos [] [] []:=fun a6 s σ H Q I h=>pairTrees_nil_walk ⟨[],H,I,.nil,h⟩
theorem Zaw(hk:PE X k tk)(hv:PE X v tv)(hr:PPs X pos ks vs trs) :
  PPs X pos (some k ::ks) (v ::vs) ((tk,tv) ::trs):=fun a6 s σ H Q I h =>
 pairTrees_cons_walk (thn (hk a6 s σ H _ I h) fun u s1 ⟨x,H1,I1,rx,q1⟩=>thn (hv a6 s1 σ H1 _ I1 q1) fun w2 s2 ⟨y,H2,I2,ry,q2⟩ =>
  thn (hr a6 s2 σ H2 _ I2 q2) fun ws s3 ⟨ps,H3,I3,i7,q3⟩=>⟨(x,y) ::ps,H3,I3,.cons ⟨rx,ry⟩ i7,q3⟩)
def Zfu(kvs more:List (Key×V)):List (Key×V):=more.foldl (fun C1 kv=>Wb C1 kv.1 kv.2) kvs
theorem KV.merge:∀{more:List (Key×V)} {rs:List (Key×Value)} {kvs:List (Key×V)} {vs:List (Key×Value)},KV more rs->KV kvs vs->KV (Zfu kvs more) (merged vs rs):=by
 intro more rs kvs vs r;unfold KV at r
 induction r generalizing kvs vs with
 | nil=>intro q;exact q
 | @cons p q ps qs h t ih =>
  intro r0;have e:KV (Wb kvs p.1 p.2) (stored vs q.1 q.2):=by
   have:=r0.put p.1 h.2;rw [<-h.1];exact this
  exact ih e
theorem Zgn:∀(more kvs:List (Key×V)),(Zfu kvs more).length<=kvs.length+more.length
 | [],kvs=>by show kvs.length<=kvs.length+0;lia
 | p ::r,kvs=>by
  have h1:=Zgn r (Wb kvs p.1 p.2);have h2:=Zbm kvs p.1 p.2;show (Zfu (Wb kvs p.1 p.2) r).length<=_;rw [List.length_cons];lia
theorem Zl4  :∀{kvs:List (Key×V)} {ws:List (Value×Value)},VV (kvs.map fun kv=>(kV kv.1,kv.2)) ws->∃rs,Carries (Z0 P w) ws rs/\KV kvs rs
 | [],_,r=>by rw [List.map_nil] at r;cases r;exact ⟨[],True.intro,.nil⟩
 | p ::kvs,_,r=>by
  rw [List.map_cons] at r;cases r with
  | @cons a b as bs h t =>
   obtain ⟨rs,c,q⟩:=Zl4 (P:=P) (w:=w) t;obtain ⟨b1,b2⟩:=b;exact ⟨(p.1,b2) ::rs,⟨Zgq h.1,rfl,c⟩,.cons ⟨rfl,h.2⟩ q⟩
def Zyz(trs:List (TE×TE)):TE:=fun σ H Q=>∀p,H p=none->Zqs trs σ (upd H p (.dK [])) fun ps H2=>H2 p=some (.dK [])/\∃kvs:List (Key×V),ps=kvs.map (fun kv=>(kV kv.1,kv.2))/\kvs.length<=15/\Q (.ref p) (upd H2 p (.dK (Zfu [] kvs)))
theorem Zjy(h:PPs X pos keys C5 trs)(i9:keys.all (·.isSome)=true)(hl:keys.length=C5.length)(h0:keys≠[])
  (h15:keys.length<=15):PE X (.Dict keys C5 pos) (Zyz trs):=by
 intro a6 s σ H Q I q;have hn:=I.hok.fresh (Nat.le_refl s.heap.objs.size);have I1:=I.laid (a:=s.heap.objs.size) (o:=.dK []) (h':=s.heap.push { cls:=.type "dict",data:=.dict #[] }) (t':=s.toks) (fun _ _ q=>Heap.get?_push_of_some _ q) (Nat.le_refl _) (Zpw s.heap I.big);refine wpAny_Dict_walk (knd:=Z0 X.prog X.w) i9 hl h0 h15 (thn (h a6 _ σ _ _ I1 (q _ hn)) fun ws s2 ⟨ps,H2,I2,i7,e,kvs,ep,lk,q2⟩=>?_);subst ep;obtain ⟨rs,c,rk⟩:=Zl4 (P:=X.prog) (w:=X.w) i7;obtain ⟨z,hd,vs0,r0,dd⟩:=Zi9 I2.hok e;cases r0;refine ⟨rs,c,dd,fun h' C6 hs=>⟨.ref s.heap.objs.size,_,?_,rfl,q2⟩⟩;have hz:(Zfu [] kvs).length<=sizeLine:=by
  have h1:=Zgn kvs [];rw [List.length_nil] at h1;rw [sizeLine_eq];lia
 have he:∃q,h'.get? s.heap.objs.size=some q:=let ⟨q,_,_,hq,_⟩:=C6;⟨q,hq⟩;exact Zga I2 (by rw [e];exact True.intro) hs he (Zg4 hz hd (rk.merge .nil) C6)
structure M1(X:Cx)(o:Expr)(m:Str)(c7:Pos)(e:Expr)(d7:Pos):Prop where
 base:attributeBase o m X.env (eval o X.env)=eval o X.env
 few:((backTo d7 (starEach [e] X.env)).all (fun x=>!x.1) && (backToKw d7 (keywordEach [] X.env)).all (fun x=>x.1.isSome)
  && decide (([e]:List Expr).length+([]:List Keyword).length+(if ([]:List Keyword).isEmpty then 0 else 1)<30))=true
 line:(c7.endLine ==d7.line)=true
 trees:backTo d7 (starEach [e] X.env)=[(false,eval e X.env)]
structure M2(X:Cx)(o:Expr)(m:Str)(c7:Pos)(e f:Expr)(d7:Pos):Prop where
 base:attributeBase o m X.env (eval o X.env)=eval o X.env
 few:((backTo d7 (starEach [e,f] X.env)).all (fun x=>!x.1) && (backToKw d7 (keywordEach [] X.env)).all (fun x=>x.1.isSome)
  && decide (([e,f]:List Expr).length+([]:List Keyword).length+(if ([]:List Keyword).isEmpty then 0 else 1)<30))=true
 line:(c7.endLine ==d7.line)=true
 trees:backTo d7 (starEach [e,f] X.env)=[(false,eval e X.env),(false,eval f X.env)]
def IsD(H:Hp)(a:Addr):Prop:=(∃kvs,Rd H a (.dK kvs))\/∃kvs,Rd H a (.dT kvs)
theorem Zwr(I:Inv X a6 σ H s)(d:IsD H a) :
  s.TypeIs (.ref a) "dict" /\(∀b,Value.ref a=.ref b->∃ob,s.heap.get? b=some ob/\ob.dict=none)/\(a ==sysModules)=false:=by
 rcases d with ⟨kvs,e⟩|⟨kvs,e⟩
 ·obtain ⟨_,hd,vs,_,dd⟩:=Zb1 I.hok e;refine ⟨dd.typeIs,fun b q=>?_,hd⟩;cases q;obtain ⟨ob,_,_,h1,h2,_⟩:=dd;exact ⟨ob,h1,h2.2.1⟩
 ·obtain ⟨_,hd,xs,_,dd⟩:=Zkf I.hok e;refine ⟨dd.typeIs,fun b q=>?_,hd⟩;cases q;obtain ⟨ob,_,_,h1,h2,_⟩:=dd;exact ⟨ob,h1,h2.2.1⟩
section
variable {X:Cx} {a6:List (Addr×Obj)} {σ:St} {H:Hp} {s:Shared} {a:Addr} {y d:V} {u r:Value} {o:Option V} {A:Around} {E:Value->Shared->Prop}
theorem Zzk{Q:Value->Shared->Prop}(hu:A.units+1<cLine)(I:Inv X a6 σ H s)(g:Wc H a y o)(ry:Yj y u)(rd:Yj d r)(h:∀w' s',Inv X a6 σ H s'->Yj (o.getD d) w'->Q w' s') :
  wpAny (model X.prog X.w) A (call (.builtin "dict.get") [.ref a,u,r]) Q E s:=by
 rcases g with ⟨kvs,k,e,ey,l⟩|⟨kvs,k,b,e,ey,eb,l⟩
 ·subst ey;obtain ⟨z,hd,vs,i7,dd⟩:=Zb1 I.hok e;refine call_meetsIn PySem.F.slot_dict_get dd.typeIs PySem.F.entry_dict_get (PySem.F.args_dict_get_3 _ _ _) (meets_dict_get_default (Z0 X.prog X.w) a (Zgq ry) hd r) ⟨_,dd.mapOf,h _ _ (I.tok _) ?_⟩;rw [l];exact (i7.val k).getD rd
 ·subst ey;cases (show u=Value.ref b from ry);obtain ⟨z,hd,xs,i7,dd⟩:=Zkf I.hok e;refine call_meetsIn PySem.F.slot_dict_get dd.typeIs PySem.F.entry_dict_get (PySem.F.args_dict_get_3 _ _ _) (meetsH_dict_get_default (tupleKind (Z0 X.prog X.w)) a b hd r) ⟨tupleKind_room_in1 hu,k,xs,Zix I.hok eb,dd,h _ _ (I.tok _) ?_⟩;rw [l];exact (i7.val k).getD rd
end
def Yal(td ty tx:TE):TE:=fun σ H Q=>td σ H fun x H1=>∃a,x=.ref a/\IsD H1 a/\ty σ H1 fun y H2=>tx σ H2 fun z H3=>∃o,Wc H3 a y o/\Q (o.getD z) H3
def Yao(td ty:TE):TE:=fun σ H Q=>td σ H fun x H1=>∃a,x=.ref a/\IsD H1 a/\ty σ H1 fun y H2=>∃kvs k v,H2 a=some (.dK kvs)/\y=kV k/\Yy kvs k=some v/\Q v (upd H2 a (.dK (Zfd kvs k)))
section
variable {X:Cx} {o e f:Expr} {c7 d7:Pos} {td ty tx:TE}
theorem Zbn(hu:X.A.units+1<cLine)(ho:PE X o td)(he:PE X e ty)(hf:PE X f tx) (m:M2 X o "get" c7 e f d7):PE X (.Call (.Attribute o "get" c7) [e,f] [] d7) (Yal td ty tx):=by
 intro a6 s σ H Q I h;refine wpAny_Call_method m.base m.few m.line PySem.F.plainAttrs_dict PySem.F.slot_dict_get PySem.F.type_dict_get (thn (ho a6 s σ H _ I h) fun u s1 ⟨x,H1,I1,rx,a,ex,d,q1⟩=>?_);subst ex;obtain rfl:u=Value.ref a:=rx;obtain ⟨t1,t2,_⟩:=Zwr I1 d;refine ⟨t1,t2,?_⟩;rw [m.trees];refine Calls.callWith_builtin rfl (Calls.evalArgs_plain (Calls.spliced_cons (thn (he a6 s1 σ H1 _ I1 q1) fun iv s2 ⟨y,H2,I2,ry,q2⟩ =>
  Calls.spliced_cons (thn (hf a6 s2 σ H2 _ I2 q2) fun fv s3 ⟨z,H3,I3,rz,ov,g,q3⟩=>Calls.spliced_nil ?_))))
 exact Zzk hu I3 g ry rz fun w' s4 I4 B5=>⟨_,H3,I4,B5,q3⟩
theorem Zp9(ho:PE X o td)(he:PE X e ty) (m:M1 X o "pop" c7 e d7):PE X (.Call (.Attribute o "pop" c7) [e] [] d7) (Yao td ty):=by
 intro a6 s σ H Q I h;refine wpAny_Call_method m.base m.few m.line PySem.F.plainAttrs_dict PySem.F.slot_dict_pop PySem.F.type_dict_pop (thn (ho a6 s σ H _ I h) fun u s1 ⟨x,H1,I1,rx,a,ex,d,q1⟩=>?_);subst ex;obtain rfl:u=Value.ref a:=rx;obtain ⟨t1,t2,_⟩:=Zwr I1 d;refine ⟨t1,t2,?_⟩;rw [m.trees];refine Calls.callWith_builtin rfl (Calls.evalArgs_plain (Calls.spliced_cons (thn (he a6 s1 σ H1 _ I1 q1) fun iv s2 ⟨y,H2,I2,ry,kvs,k,v,ea,ey,l,q2⟩=>Calls.spliced_nil ?_)));subst ey;exact Yb6 I2 ea ry l (.inl rfl) fun w' s3 I3 B5=>⟨v,_,I3,B5,q2⟩
end
section
variable {X:Cx} {a6:List (Addr×Obj)} {σ:St} {H:Hp} {s:Shared} {a:Addr} {kvs:List (Key×V)} {A:Around} {E:Value->Shared->Prop}
theorem Zu5{Q:Value->Shared->Prop}(I:Inv X a6 σ H s)(e:Rd H a (.dK kvs))(h:∀p s',H p=none->Inv X a6 σ (upd H p (.dK kvs)) s'->Q (.ref p) s'):wpAny (model X.prog X.w) A (call (.type "dict") [.ref a]) Q E s:=by
 obtain ⟨z,hd,vs,i7,dd⟩:=Zb1 I.hok e;refine kt_call_dict hd dd (by rw [<-i7.length];exact z) fun h' C6 hs=>?_
 refine h _ _ (I.hok.fresh (Nat.le_refl _)) (I.laid (a:=s.heap.objs.size) (o:=.dK kvs) (t':=s.toks) (fun b q hq=>?_) (Nat.le_refl _) (Zg4 z (beq_eq_false_iff_ne.mpr (Ne.symm (Nat.ne_of_lt I.big))) i7 C6));exact (hs.2 b (Nat.ne_of_lt (Heap.lt_size hq))).trans (Heap.get?_push_of_some _ hq)
end
section
variable {X:Cx} {a6:List (Addr×Obj)} {σ:St} {H:Hp} {s:Shared} {a:Addr} {y:V} {u:Value} {A:Around} {E:Value->Shared->Prop}
end
end L2
namespace Att
open PySem PySem.W PySem.Calls PyProof.Rows
theorem Zjs  :∀(ns:List Int) (vs:List Value),WellAll P h vs (ns.map WData.int)->IntsAre vs ns:=by
 intro ns
 induction ns with
 | nil =>
  intro vs w;rw [List.map_nil] at w;cases w;exact .nil
 | cons n ns ih =>
  intro vs w;rw [List.map_cons] at w;cases w with
  | cons a b =>
   cases a;exact .cons _ _ (ih _ b)
theorem Ztz{l:OpenLaw}{n:Nat}(hn:l.most=some n){P:Params}{h:Heap}{args:List WData}{vals:List Value}
  (T6:l.row.toRowW.claim.pre args=true) (hwl:WellAll P h vals args) :
  ∃a vs ns,vals=[Value.ref a]/\args=[WData.list (ns.map WData.int)]/\h.get? a=some { cls:=.type "list",data:=.seq vs.toArray }/\IntsAre vs ns/\ns.length<=n:=by
 have hsh:WShape.hasAll [] args [.list .int]=true:=(pre_splitW T6).1;have hc:l.pre.holds [] { args:=args }=true:=(pre_splitW T6).2;obtain ⟨d,r,rfl,h1,h2⟩:=hasAllW_cons hsh;obtain rfl:=hasAllW_nil h2;obtain ⟨xs,rfl,h3⟩:=hasW_list h1;obtain ⟨ns,rfl⟩:=items_int h3;have d4:ns.length<=n:=by
  unfold OpenLaw.pre at hc;have h4:(WTm.not (.lt (.lit (.int (n:Int))) (.len (.arg 0)))).holds [] { args:=[.list (ns.map .int)] }=true:=by
   have h4:=(holds_andW hc).1;rw [hn] at h4;exact h4
  have h5:=condW_of h4 (w_not (w_lt w_lit (w_len_list (w_arg rfl))));rw [List.length_map] at h5;refine Nat.le_of_not_lt fun q=>?_
  have q':(n:Int)<((ns.length:Nat):Int):=by lia
  first
   | (rw [decide_eq_true q'] at h5;exact absurd h5 (by decide))
   | (simp at h5;lia)
 cases hwl with
 | cons w1 w2 =>
  cases w2;cases w1 with
  | list ho i9=>exact ⟨_,_,ns,rfl,rfl,ho,Zjs ns _ i9,d4⟩
theorem Zt4(l:OpenLaw)(args:List WData):l.row.toRowW.claim.post args (.bool true) args=true :=
 postW_of (r:=l.row.toRowW) (X:=(true ==true))
  (show WShape.has [] (.bool true) .bool=true by first | rfl | decide | simp [WShape.has,WShape.arms,WShape.armsAll])
  (show (WTm.eq .res (.lit (.bool true))).value [] { args:=args,res:=some (.bool true),after:=args }=some (.bool (true ==true)) from w_eq_bool (w_res rfl) w_lit) rfl
theorem attach_call{l:OpenLaw}{n:Nat}{q:Program}{C0:List Str}{XP:(Str->Option Value)->Heap->Prop}{YP:World->Heap->Prop}{d:DefRec}
  (hn:l.most=some n) (hdf:d.params.defaults=[])
  (call:∀(w:World) (s₀ s₁:Shared) (mg mb:Str->Option Value) (fa:Addr) (o:Obj) (pm cd k7:Value) (a:Addr) (vs:List Value) (ns:List Int),
   Ground q C0 [] XP w s₀ mg mb s₁.heap->YP w s₁.heap ->
   s₁.heap.get? fa=some o->o.data=.func (docDef d.name d.params d.body d.scope pm cd k7)->s₁.heap.CodeRec cd d.name->mg d.name=some (.ref fa) ->
   s₁.heap.get? a=some { cls:=.type "list",data:=.seq vs.toArray }->IntsAre vs ns->ns.length<=n->s₁.gens=#[] ->
   codeAny (model l.prog w) callerA (.call (.ref fa) ⟨[.ref a],[]⟩) (fun r s'=>r=.ok (.ret (.bool true))/\OldK s₁.heap s'.heap/\s'.os=s₁.os/\AllBare s'.gens) s₁) :
  WalkO q C0 XP YP l.row.toRowW d [] (fun f vs=>PySem.call f vs):=by
 intro w s₀ s₁ mg mb G Y fa o pm cd k7 dV kV ho hd F0 hD hmg hg args vals as T6 hlay hrd hwl hlo;obtain rfl:dV=.none:=Dflts.none hD hdf;obtain rfl:kV=.none:=Dflts.noKw hD;obtain ⟨a,vs,ns,rfl,rfl,hobj,O0,d4⟩:=Ztz hn T6 hwl;refine enter_call (codeAny_mono (call w s₀ s₁ mg mb fa o pm cd k7 a vs ns G Y ho (fd_plain hd) F0 hmg hobj O0 d4 hg) fun r s' hq=>?_);obtain ⟨rfl,h2,h3,h4⟩:=hq;exact ⟨.inl ⟨.bool true,.bool true,[],rfl,fun _=>rfl,.bool true,Zt4 l _,fun _=>⟨List.Pairwise.nil,fun _ hm=>(nomatch hm)⟩⟩,h2,h3,h4⟩
section
variable {prog:Program} {w:World} {A:Around} {E:Value->Shared->Prop} {s:Shared} {K:Frag}
def Ydo(h:Heap)(L d:Addr):List (Addr×Obj):=(List.range h.objs.size).filterMap fun a=>if a=L\/a=d then none else (h.get? a).map fun o=>(a,o)
end
end Att
namespace L2
open PySem PySem.Spec PyProof.Rows
theorem Zm0:∀{vs:List Value} {ns:List Int},IntsAre vs ns->Yc (ns.map V.int) vs
 | _,_,.nil=>.nil
 | _,_,.cons n t h=>.cons ⟨t,rfl⟩ (Zm0 h)
end L2
namespace L2
open PySem PySem.Spec PyProof.Rows
end L2
/- THE LAST THEOREM (shape;LID,My.* are yours):
   My.Adr:a structure of the addresses that your layer names (classes,functions);My.Txt K t:a structure (Prop) of the equations over K;
   My.txt_mk:{K} {implicit addresses ..} (e1:nsIn K mainGlobals "law" =some (some (.ref f))) (e2:K.lookup f=some ⟨oc,od,.func (fnOf "law" "law" params body scope dV kV k7 pm an a9 ct),sl⟩) (e3:codeIn K a9 "law" =true) .. :∃t,My.Txt K t
(the tactic k_is has no namespace:write k_is) -/
namespace L2
open PySem PySem.Spec PyProof.Rows
def Yg(s:Stmt)(j:Nat):Stmt:=match s with
 | .ClassDef _ _ _ body _ _ _ _ _ _ _=>body.getD j (.Pass ⟨0,0,0,0⟩)
 | _=>.Pass ⟨0,0,0,0⟩
def Xt(s:Stmt):Arguments:=match s with
 | .FunctionDef _ a _ _ _ _ _ _ _ _=>a
 | _=>{ posonlyargs:=[],args:=[],vararg:=none,kwonlyargs:=[],kw_defaults:=[],kwarg:=none,defaults:=[] }
def Xa(s:Stmt):List Stmt:=match s with
 | .FunctionDef _ _ b _ _ _ _ _ _ _=>b
 | _=>[]
def Zi(s:Stmt):Scope:=match s with
 | .FunctionDef _ _ _ _ _ _ sc _ _ _=>sc
 | _=>{ kind:=.function,names:=[],isGenerator:=false,isCoroutine:=false }
abbrev CX0:CXT:=fun _ _ _ _ _ _=>False
abbrev E0:XK:=fun _ _ _=>False
theorem Z7:Zg6 CX0 X E0:=fun _ _ _ _ _ _ _ h=>h.elim
structure Fun(K:Frag)(x qual:Str)(st:Stmt)(f:Addr)(fd:FuncData):Prop where
 ex:∃(oc:Value) (od:Option Addr) (kV k7 pm:Value) (an:Option Addr) (a9 ct:Value) (F3:Array (Option Value)),
  fd=fnOf x qual (Xt st) (Xa st) (Zi st) .none kV k7 pm an a9 ct/\K.lookup f=some ⟨oc,od,.func fd,F3⟩/\codeIn K a9 qual=true
 kp:keepIn K (.ref f)=true
section
variable {P:Program} {w:World} {K:Frag} {mg:Str->Option Value} {base:Heap}
theorem Fun.ok{x qual:Str}{st:Stmt}{f:Addr}{fd:FuncData}{N ps:List Str}{k:Nat}{sp:Sp}(F:Fun K x qual st f fd)(S:Zn N ps (Zi st))(len:∀vs H Q E,sp vs H Q E->vs.length=ps.length)
  (m8:∀(a9:Value) (A:Around) (outer:List Env) (s:Shared) (H:Hp) (vs:List V) (Q:VK) (E:XK),X2 k (A.deeper (envOfC qual (Zi st) s.heap.objs.size f a9))->sp vs H Q E ->
   ∃t,PSs (Zme CX0 P w K mg base N qual (Zi st) f a9 A outer s H E).nox (Xa st) t/\t { nx:=fun _ H'=>Q .non H',rt:=Q } (start N vs) H):Z2 P w K mg base CX0 (k+1) f fd ps sp:=by
 obtain ⟨oc,od,kV,k7,pm,an,a9,ct,F3,rfl,lk,F0⟩:=F.ex;refine Zv9 lk F0 S len fun A outer s H vs Q E hr E1=>?_
 obtain ⟨t,h,q⟩:=m8 a9 A outer s H vs Q E hr E1;exact ⟨t,h.nox,q⟩
theorem Fun.binds{x qual:Str}{st:Stmt}{f:Addr}{fd:FuncData}{ps:List Str}(F:Fun K x qual st f fd)
  (h:∀(kV k7 pm:Value) (an:Option Addr) (a9 ct:Value) (us:List Value),us.length=ps.length->bindArgs (fnOf x qual (Xt st) (Xa st) (Zi st) .none kV k7 pm an a9 ct) ⟨us,[]⟩=pure (ps.zip us)):Zau K fd ps []:=by
 obtain ⟨oc,od,kV,k7,pm,an,a9,ct,F3,rfl,lk,F0⟩:=F.ex;exact .all (h kV k7 pm an a9 ct)
theorem Zkg{x qual:Str}{st:Stmt}{f:Addr}{oc:Value}{od an:Option Addr}{F3:Array (Option Value)}{kV k7 pm a9 ct:Value}(l:K.lookup f=some ⟨oc,od,.func (fnOf x qual (Xt st) (Xa st) (Zi st) .none kV k7 pm an a9 ct),F3⟩)
  (c:codeIn K a9 qual=true) (k:keepIn K (.ref f)=true):Fun K x qual st f (fnOf x qual (Xt st) (Xa st) (Zi st) .none kV k7 pm an a9 ct):=⟨⟨oc,od,kV,k7,pm,an,a9,ct,F3,rfl,l,c⟩,k⟩
end
theorem Y8(hr:X2 k A):A.units+1<cLine:=Nat.lt_of_le_of_lt (Nat.add_le_add_left (by decide:1<=64) _) hr.units
theorem Zs(h:n<=1000):n<sizeLine:=Nat.lt_of_le_of_lt h (by decide)
section
variable {X:Cx}
theorem pv(i:Nat)(hN:X.N[i]? =some x:=by rfl)(hv:Vis X.env.scope x:=by first | exact Or.inl rfl | exact Or.inr (Or.inl rfl) | exact Or.inr (Or.inr rfl)) (hd:(x ==("__debug__" :Str))=false:=by decide)
  (F0:(x ==("__classdict__" :Str))=false:=by decide):PE X (.Name x pos) (Zjv i):=Zuq hN hv hd F0
theorem Ztc:Xu X (.builtin "len") (fun xs H Q=>∃a kvs,xs=[V.ref a]/\H a=some (.dK kvs)/\Q (.int kvs.length) H):=by
 intro a6 s σ H xs us Q I r h;obtain ⟨a,kvs,rfl,ha,q⟩:=h;obtain ⟨u,rfl,ru⟩:=Zaz r;cases ru;exact Ybz I (.inl ha) fun t s' I'=>⟨.int kvs.length,H,I',⟨t,rfl⟩,q⟩
end
theorem W5{A B:Prop}(h:B):if false=true then A else B:=by
 rw [if_neg Bool.false_ne_true];exact h
theorem Ze3{A B:Prop}(h:A):if true=true then A else B:=by
 rw [if_pos rfl];exact h
theorem Yn{c A B:Prop}[Decidable c](h1:c->A)(h2:¬c->B):if c then A else B:=by
 by_cases h:c
 ·rw [if_pos h];exact h1 h
 ·rw [if_neg h];exact h2 h
def Same(H H':Hp):Prop:=∀b o,H b=some o->H' b=some o
theorem Same.refl(H:Hp):Same H H:=fun _ _ h=>h
theorem Same.trans(a:Same H H1)(b:Same H1 H2):Same H H2:=fun c o h=>b c o (a c o h)
theorem Same.free(e:Same H H')(h:H' l=Option.none):H l=Option.none:=by
 cases q:H l with
 | none=>rfl
 | some o =>
  rw [e l o q] at h;cases h
theorem Same.seq{K:Frag}{H H':Hp}{a:Addr}{xs:List V}(e:Same H H')(h:SqL K H a xs):SqL K H' a xs:=by
 rcases h with (h|⟨o,h⟩)|h
 ·exact .inl (.inl (e _ _ h))
 ·exact .inl (.inr ⟨o,e _ _ h⟩)
 ·exact .inr h
section
variable {κ:Type} [DecidableEq κ]
theorem Zx3{kvs:List (κ×V)}{k:κ}(h:Yy kvs k=some v):k∈kvs.map (·.1):=by
 have q:(kvs.any fun kv=>decide (kv.1=k))=true:=by
  rw [Zck,h]
  all_goals rfl
 obtain ⟨p,hp,e⟩:=List.any_eq_true.mp q;exact List.mem_map.mpr ⟨p,hp,of_decide_eq_true e⟩
end
end L2
section
namespace L2
open PySem PySem.Spec PyProof.Rows
section
variable {prog:Program} {w:World} {A:Around} {R:Result->Shared->Prop} {s:Shared}
theorem Zbk(I:Nat->Shared->Prop)
  (F1:∀n s,I n s->wpAny (model prog w) A (pyNext it) (fun r s₁=>match r with
   | none=>R (.ok .next) s₁
   | some v=>wpAny (model prog w) A (letOwnedTupleGo A2 it v) (fun _ s₁'=>wpAny (model prog w) A (assign A2 env v) (fun _ s₂ =>
     wpAny (model prog w) A (forIn N0 true fun c r=>if r=true then do let ok <-isTrue c env (eval c env);pure (ForInStep.yield ok) else pure (ForInStep.yield r)) (fun ok s₃ =>
      if ok=true then wpAny (model prog w) A (eval R6 env) (fun x s₄ =>
       wpAny (model prog w) A (call (.builtin "list.append") [C1,x]) (fun _ s₅=>∃m,m<n/\I m s₅) (fun _ _=>False) s₄) (fun _ _=>False) s₃
      else ∃m,m<n/\I m s₃) (fun _ _=>False) s₂) (fun _ _=>False) s₁') (fun _ _=>False) s₁) (fun _ _=>False) s)
  (n:Nat) (h:I n s) :
  codeAny (model prog w) A (.compLoop (.ListComp R6 [⟨A2,m7,N0,0⟩] scope pos) 0 it C1 env) R s:=by
 refine codeAny_loop rfl I (fun n s hI=>?_) n h;show wpAny _ A ((compTurn (.ListComp R6 [⟨A2,m7,N0,0⟩] scope pos) 0 it C1 env).onRaise (fun x=>do noteFrame x env;theTreesLotGoes x)) _ _ s;refine wpAny_noted ?_;rw [compTurn_list];refine wpAny_bind (wpAny_standAt (wpAny_bind (wpAny_mono (F1 n s hI) (fun r s₁ h₁=>?_) fun _ _ h'=>h'.elim)));cases r with
 | none=>exact wpAny_pure h₁
 | some v =>
  refine wpAny_bind (wpAny_mono h₁ (fun _ s₁' h₁'=>?_) fun _ _ h'=>h'.elim);refine wpAny_bind (wpAny_mono h₁' (fun _ s₂ h₂=>wpAny_bind (wpAny_mono h₂ (fun ok s₃ h₃=>?_) fun _ _ h'=>h'.elim)) fun _ _ h'=>h'.elim);cases ok with
  | false=>exact wpAny_pure ⟨rfl,h₃⟩
  | true =>
   exact wpAny_bind (wpAny_bind (wpAny_mono h₃ (fun x s₄ h₄=>wpAny_bind (wpAny_mono h₄ (fun _ s₅ h₅=>wpAny_pure (wpAny_pure ⟨rfl,h₅⟩)) fun _ _ h'=>h'.elim)) fun _ _ h'=>h'.elim))
end
def Xo(X:Cx)(scope:Scope)(cl:List (Str×Addr))(N':List Str)(s:Shared)(H:Hp)(C:Addr)(ex:List Addr):Cx where
 prog:=X.prog
 w:=X.w
 K:=X.K
 mg:=X.mg
 base:=X.base
 A:=X.A
 N:=N'
 s₀:=s
 H₀:=H
 env:=compEnvC scope cl C X.env
 outer:=X.stack
 stack:=X.stack
 ex:=ex
 fn:=fun _=>false
 calm:=X.calm
 pn:=[]
 xe:=fun _ _=>False
structure Z6(X:Cx)(scope:Scope)(cl:List (Str×Addr))(N':List Str)(fr:St->St):Prop where
 kind:scope.kind=.function
 cell:∀y∈scope.names,y.2 ≠ .cell
 names:∀y∈scope.names,y.2=.local->scope.names.lookup y.1=some .local
 clos:closureFor scope X.env=pure cl
 sub:∀x c,cl.lookup x=some c->X.env.cells.lookup x=some c
 has:∀x,((relabel scope X.env).names.lookup x=some .cell\/(relabel scope X.env).names.lookup x=some .free)->∃c,cl.lookup x=some c
 len:∀σ:St,σ.length=X.N.length->(fr σ).length=N'.length
 fr:∀(σ:St) (i:Nat) (x:Str) (v:V),N'[i]? =some x->(fr σ)[i]? =some (some v)->Vis (relabel scope X.env) x ->
  ((relabel scope X.env).names.lookup x=some .cell\/(relabel scope X.env).names.lookup x=some .free) /\
  (X.env.kindOf x=some .cell\/X.env.kindOf x=some .free)/\∃j:Nat,X.N[j]? =some x/\σ[j]? =some (some v)
def Wp(a b:St):Prop:=∀(i:Nat) (v:V),a[i]? =some (some v)->b[i]? =some (some v)
theorem Wp.set(h:a[i]? =some none):Wp a (a.set i (some v)):=fun j u e=>by
 by_cases hj:i=j
 ·subst hj;rw [h] at e;cases e
 ·rw [List.getElem?_set_ne hj];exact e
theorem Wp.trans(h:Wp a b)(k:Wp b c):Wp a c:=fun i v e=>k i v (h i v e)
def PF(X:Cx)(N0:List Expr)(t:TT):Prop :=
 ∀(a6:List (Addr×Obj)) (s:Shared) (σ:St) (H:Hp) (Q:Bool->Hp->Prop),Inv X a6 σ H s->t σ H Q ->
  wpAny (model X.prog X.w) X.A (forIn N0 true fun c r=>if r=true then do let ok <-isTrue c X.env (eval c X.env);pure (ForInStep.yield ok) else pure (ForInStep.yield r)) (TP X a6 σ Q) X.xe s
def Ybt:TT:=fun _ H Q=>Q true H
theorem Za6:PF X [] Ybt:=fun _ _ _ H _ I h=>wpAny_tests_nil ⟨H,I,h⟩
theorem Zdu(h:PT X c t):PF X [c] t:=fun a6 s σ H Q I hq=>wpAny_tests_one (h a6 s σ H Q I hq)
def Zft(J:It)(fr:St->St)(g:TG)(tf:TT)(te:TE)(Q:VK)(σ:St)(H1:Hp)(D:Addr):Prop :=
 ∃W:Nat->Nat->List V->Hp->Prop,(∃m,W 0 m [] (upd H1 D (.lst [])))/\∀i m ys H,W i m ys H ->
  (J.stop i H/\Q (.ref D) H)\/(J.go i H/\∃N:List V->Hp->Prop,(∀ys' H',N ys' H'->∃m',m'<m/\W (i+1) m' ys' H') /\
   ∀x H',J.yld i H x H'->g x (fr σ) H' fun σ2 H2=>Wp (fr σ) σ2/\tf σ2 H2 fun b H3 =>
    if b=true then te σ2 H3 fun y H4=>H4 D=some (.lst ys)/\ys.length<sizeLine/\N (ys++[y]) (upd H4 D (.lst (ys++[y]))) else N ys H3)
def Zyt(wi:TI)(fr:St->St)(g:TG)(tf:TT)(te:TE):TE:=fun σ H Q=>wi σ H fun J H1=>∀D,H1 D=none->Zft J fr g tf te Q σ H1 D
section
variable {X:Cx} {a6:List (Addr×Obj)} {σ:St} {H:Hp} {s:Shared} {scope:Scope} {cl:List (Str×Addr)} {N':List Str} {fr:St->St} {C:Addr} {fp:List Addr}
theorem Zxy(I:Inv X a6 σ H s)(S:Z6 X scope cl N' fr)(hC:s.heap.objs.size<=C)(hf:∀b∈fp,Zju X a6 H b)(ho:∀b∈fp,∃o,s.heap.get? b=some o):(Xo X scope cl N' s H C fp).Ok where
 mod:=I.ok.mod
 kind:=S.kind
 glob:=I.ok.glob
 blt:=I.ok.blt
 above:=hC
 inj:=fun x y c h1 h2=>I.ok.inj x y c (S.sub x c h1) (S.sub y c h2)
 has:=fun x h=>S.has x h
 cab:=fun x c h=>absurd (show false=true from h) Bool.false_ne_true
 hd:=I.ok.hd
 frames:=I.ok.frames
 stk:=.inl rfl
 exf:=fun b hb=>by
  obtain ⟨o,e⟩:=ho b hb;refine ⟨Nat.ne_of_lt (Nat.lt_of_lt_of_le (Heap.lt_size e) hC),fun x c h=>(hf b hb).2.2.2.2.1 x c (S.sub x c h)⟩
 bs:=I.bs
 bsz:=Nat.le_trans I.ok.bsz I.sz
 noex:=fun b o e hb=>by
  rcases (hf b hb).2.2.2.1 with z|z
  ·exact I.ok.noex b o e z
  ·exact absurd (Nat.lt_of_lt_of_le (Heap.lt_size e) (Nat.le_trans I.ok.bsz z)) (Nat.lt_irrefl _)
 exfs:=fun b hb z=>by
  rcases List.mem_cons.mp (I.stkSub b z) with q|q
  ·exact (hf b hb).2.1 q
  ·exact (hf b hb).2.2.1 q
 funs:=I.stack
 frf:=I.stkFree
theorem Zlm{m₁:Str->Option Value}(I:Inv X a6 σ H s)(S:Z6 X scope cl N' fr)(hC:s.heap.objs.size<C)(hD:D=s.heap.objs.size)(hf:∀b∈fp,Zju X a6 H b)(ho:∀b∈fp,∃o,s.heap.get? b=some o)
  (r6:∀b o,s.heap.get? b=some o->h₁.get? b=some o) (hl:h₁.get? D=some { cls:=.type "list",data:=.seq ([]:List Value).toArray 0 }) (hn:h₁.Ns C m₁) (hCz:h₁.objs.size<=C+1) :
  Inv (Xo X scope cl N' s H C fp) [] (fr σ) (upd H D (.lst [])) { s with heap:=h₁,toks:=tk }:=by
 have fD:H D=none:=I.hok.fresh (Nat.le_of_eq hD.symm);have fC:H C=none:=I.hok.fresh (Nat.le_of_lt hC);have hDC:D≠C:=by rw [hD];exact Nat.ne_of_lt hC
 refine ⟨Zxy I S (Nat.le_of_lt hC) hf ho,rfl,I.bare,Un.laid r6 (Nat.le_of_eq hD.symm) fD,⟨m₁,hn,fun i x v e1 e2 e3=>?_⟩,fun x c e=>?_,?_,fun x c e=>?_,fun p hp=>absurd (show p∈([]:List (Addr×Obj)) from hp) (by simp),?_,S.len σ I.len⟩
 ·obtain ⟨k1,k2,j,j1,j2⟩:=S.fr σ i x v e1 e2 e3;obtain ⟨c,hc⟩:=S.has x k1;have S9:=S.sub x c hc;obtain ⟨m,_,E4⟩:=I.loc;obtain ⟨u,r,l⟩:=E4 j x v j1 j2 (by rcases k2 with k|k;exact .inr (.inl k);exact .inr (.inr k));refine ⟨u,r,.inr ⟨k1,c,hc,?_⟩⟩;rcases l with ⟨k,_⟩|⟨_,c2,R5,o,z,d⟩
  ·rcases k2 with q|q <;>(rw [k] at q;cases q)
  ·rw [S9] at R5;cases R5;exact ⟨o,r6 _ _ z,d⟩
 ·obtain ⟨v,o,z,d⟩:=I.cell x c (S.sub x c e);exact ⟨v,o,r6 _ _ z,d⟩
 ·show upd H D (.lst []) C=none;rw [Ze hDC.symm];exact fC
 ·show upd H D (.lst []) c=none;rw [Ze (fun z=>?_)]
  ·exact I.freeC x c (S.sub x c e)
  ·obtain ⟨v,o,q,d⟩:=I.cell x c (S.sub x c e);have:=Heap.lt_size q;rw [z,hD] at this;exact Nat.lt_irrefl _ this
 ·exact I.hok.laid r6 (Nat.le_of_eq hD.symm) ⟨Nat.zero_le _,[],0,.nil,hl⟩
theorem Zp0(I:Inv X a6 σ H s)(hC:s.heap.objs.size<C)(hf:∀b∈fp,Zju X a6 H b)(J:Inv (Xo X scope cl N' s H C fp) [] (fr σ) H' s2)(hs:Heap.SameBut C s2.heap h') :
  Inv X a6 σ H' { s2 with heap:=h' }:=by
 have fC:H' C=none:=J.free;have u:Un (frs X.stack) fp H H' s.heap s2.heap:=J.base;have ne:∀b o,s.heap.get? b=some o->b≠C:=fun b o e=>Nat.ne_of_lt (Nat.lt_trans (Heap.lt_size e) hC)
 have u2:Un (frs X.stack) fp H H' s.heap h':=by
  refine ⟨fun b o e n hb hx=>?_,fun b o e n hb hx=>?_,u.free,fun b o e hx=>?_,u.tups,u.frzs,u.tbls⟩
  ·rw [hs.2 b (ne b o e)];exact u.keep b o e n hb hx
  ·obtain ⟨sl,q⟩:=u.slot b o e n hb hx;exact ⟨sl,by rw [hs.2 b (ne b o e)];exact q⟩
  ·obtain ⟨o',q⟩:=u.there b o e hx;exact ⟨o',by rw [hs.2 b (ne b o e)];exact q⟩
 have hok:HOk X.prog X.w H' h':=fun b o e=>by
  refine (J.hok b o e).stay (fun c v hc q=>?_) (fun _ q=>q) fun _ _ q=>q
  have nc:c≠C:=by
   rintro rfl;rcases hc with z|z
   ·rw [<-z,fC] at e;cases e
   ·rw [fC] at z;cases z
  rw [hs.2 c nc];exact q
 refine I.call' (s':={ s2 with heap:=h' }) (ch:=fp) J.os u2 hok J.bare fun b hb=>?_
 obtain ⟨_,f1,f2,f3,f4,f5⟩:=hf b hb;exact ⟨f3,f1,f4,f5⟩
end
theorem Xx{fr:St->St}
  (hc:X.calm=true) (S:Z6 X scope cl N' fr) (hi:PI X tg m7 wi) (hg:∀s H C ex,PG (Xo X scope cl N' s H C ex) tg g) (hf:∀s H C ex,PF (Xo X scope cl N' s H C ex) N0 tf)
  (he:∀s H C ex,PE (Xo X scope cl N' s H C ex) R6 te) (hs:∀x,foldedSetIterable m7 X.env x=pure x:=by intro _;rfl):PE X (.ListComp R6 [⟨tg,m7,N0,0⟩] scope pos) (Zyt wi fr g tf te):=by
 intro a6 s σ H Q I h;rw [eval_ListComp];refine wpAny_comprehension_free (use:=none) rfl hs S.clos S.kind S.names (thn (hi a6 s σ H _ I h) fun v s1 h1=>thn h1 fun itv s2 h2=>?_);obtain ⟨it,fp,tn,J,H2,e,I2,T,O2,f2,q⟩:=h2;subst e;refine wpAny_newObj_type (wpAny_newFunctionEnv S.cell (by intro y hy;simp at hy) (fun h₁ E7 y8=>?_) S.kind);dsimp only at E7 y8 ⊢;generalize hP:s2.heap.push { cls:=.type "list",dict:=none,data:=.seq ([]:List Value).toArray }=P at E7 y8 ⊢;have hPz:P.objs.size=s2.heap.objs.size+1:=by rw [<-hP,Heap.size_push]
 have R7:s2.heap.objs.size<P.objs.size:=by rw [hPz];exact Nat.lt_succ_self _
 have T7:∀b∈fp,∃o,s2.heap.get? b=some o:=fun b hb=>let ⟨o,e,_⟩:=T.obj _ _ O2 b hb;⟨o,e⟩
 have D6:∀b,b<s2.heap.objs.size->b≠P.objs.size:=fun b hb=>Nat.ne_of_lt (Nat.lt_trans hb R7)
 have r6:∀b o,s2.heap.get? b=some o->h₁.get? b=some o:=fun b o e=>y8.extBut b o (D6 b (Heap.lt_size e)) (Heap.get?_push_of_some _ (hP ▸ Heap.get?_push_of_some _ e))
 have x4:h₁.get? s2.heap.objs.size=some { cls:=.type "list",data:=.seq ([]:List Value).toArray 0 }:=y8.extBut _ _ (Nat.ne_of_lt R7) (Heap.get?_push_of_some _ (hP ▸ Heap.get?_push_size _ rfl));have fD:H2 s2.heap.objs.size=none:=I2.hok.fresh (Nat.le_refl _);obtain ⟨W,⟨m0,w0⟩,F1⟩:=q s2.heap.objs.size fD;have hz:h₁.objs.size<=P.objs.size+1:=by
  have e:=y8.1;rw [Heap.size_push] at e;exact Nat.le_of_eq e
 have st1:tn 0 h₁:=T.keep _ _ _ O2 fun b hb o e=>r6 b o e
 have z6:∀{j8:List (Addr×Obj)} {H':Hp},(∀p∈j8,p.1∉fp)->(∀b∈fp,H' b=none)->∀b∈fp,Zju (Xo X scope cl N' s2 H2 P.objs.size fp) j8 H' b:=fun {j8 H'} hp hn b hb=>by
  obtain ⟨o,e⟩:=T7 b hb;obtain ⟨_,f1,f2',f3,f4,f5⟩:=f2 b hb;refine ⟨hn b hb,D6 b (Heap.lt_size e),fun z=>?_,.inl hb,fun x c h=>f4 x c (S.sub x c h),fun p hp' z=>?_⟩
  ·rcases List.mem_cons.mp (I2.stkSub b z) with q|q
   ·exact f1 q
   ·exact f2' q
  ·have hp2:p∈j8:=by simpa [Xo] using hp'
   exact hp p hp2 (by rw [z];exact hb)
 have loop:∀s3:Shared,s3={ s2 with heap:=h₁,toks:=s2.toks+([]:List (Str×Value)).length } ->
   codeAny (model X.prog X.w) X.A (.compLoop (.ListComp R6 [⟨tg,m7,N0,0⟩] scope pos) 0 (.ref it) (.ref s2.heap.objs.size) (compEnvC scope cl P.objs.size X.env)) (compPost (model X.prog X.w) X.A X.xe none (EP X a6 σ Q) (.ref s2.heap.objs.size) P.objs.size) s3:=by
  rintro s3 rfl;have I3:Inv (Xo X scope cl N' s2 H2 P.objs.size fp) [] (fr σ) (upd H2 s2.heap.objs.size (.lst [])) { s2 with heap:=h₁,toks:=s2.toks+([]:List (Str×Value)).length }:=Zlm I2 S R7 rfl f2 T7 r6 x4 E7 hz;refine Zbk (fun n s'=>∃i ys H',Inv (Xo X scope cl N' s2 H2 P.objs.size fp) [] (fr σ) H' s'/\tn i s'.heap/\(∀b∈fp,H' b=none)/\W i n ys H') ?_ m0 ⟨0,[],_,I3,st1,fun b hb=>?_,w0⟩
  ·rintro n s3 ⟨i,ys,H3,I3,T5,fr3,w3⟩;rcases F1 i n ys H3 w3 with ⟨stop,qn⟩|⟨go,N,hN,step⟩
   ·refine thn (T.done (Xo X scope cl N' s2 H2 P.objs.size fp) rfl rfl rfl hc i [] s3 (fr σ) H3 _ I3 (z6 (by simp) fr3) T5 stop) fun r s4 ⟨hr,I4⟩=>?_
    subst hr;obtain ⟨m4,hn4,_⟩:=I4.loc;exact ⟨m4,hn4,fun h' M7=>⟨.ref s2.heap.objs.size,H3,Zp0 I2 R7 f2 I4 M7,rfl,qn⟩⟩
   ·refine thn (T.item (Xo X scope cl N' s2 H2 P.objs.size fp) rfl rfl rfl hc i [] s3 (fr σ) H3 _ I3 (z6 (by simp) fr3) T5 go) fun r s4 ⟨u,hr,h4⟩=>?_
    subst hr;refine thn h4 fun _ s5 ⟨x,H5,I5,r5,y5,N8,fr5⟩=>?_
    have I5':=I5.pinned (z6 (by simp) fr5) (T.obj _ _ N8);refine thn (hg s2 H2 P.objs.size fp _ s5 (fr σ) H5 x u _ I5' r5 (step x H5 y5)) fun _ s6 ⟨σ6,H6,I6,kp,q6⟩=>?_
    refine thn (hf s2 H2 P.objs.size fp _ s6 σ6 H6 _ I6 q6) fun ok s7 ⟨H7,I7,q7⟩=>?_
    have w6:∀{σ8:St} {H8:Hp} {s8:Shared} {V9:List V},Wp (fr σ) σ8->Inv (Xo X scope cl N' s2 H2 P.objs.size fp) ([]++Zid fp s5.heap) σ8 H8 s8->N V9 H8 ->
      ∃m,m<n/\∃i ys H',Inv (Xo X scope cl N' s2 H2 P.objs.size fp) [] (fr σ) H' s8/\tn i s8.heap/\(∀b∈fp,H' b=none)/\W i m ys H':=fun {σ8 H8 s8 V9} kp8 I8 n8=>by
     obtain ⟨m',hm,w8⟩:=hN V9 H8 n8;refine ⟨m',hm,i+1,V9,H8,(I8.unpinned).weak (by rw [I8.len];exact S.len σ I2.len) kp8,T.keep _ _ _ N8 fun b hb o e=>(I8.pin (b,o) (List.mem_append_right _ (List.mem_append_right _ (Za1 hb e)))).1,fun b hb=>?_,w8⟩;obtain ⟨o,e,d⟩:=T.obj _ _ N8 b hb;exact (I8.pin (b,o) (List.mem_append_right _ (List.mem_append_right _ (Za1 hb e)))).2.1
    cases ok with
    | false=>exact w6 kp I7 q7
    | true =>
     refine thn (he s2 H2 P.objs.size fp _ s7 σ6 H7 _ I7 q7) fun uy s8 ⟨y,H8,I8,r8,hD8,hz8,q8⟩=>?_
     exact thn (Yx _ s8 σ6 H8 (.ref s2.heap.objs.size) [y] (.ref s2.heap.objs.size) [uy] (fun _ H9=>N (ys++[y]) H9) I8 rfl (.cons r8 .nil) ⟨_,ys,y,rfl,rfl,hD8,hz8,q8⟩) fun _ s9 ⟨v9,H9,I9,_,q9⟩=>w6 kp I9 q9
  ·show upd H2 s2.heap.objs.size (.lst []) b=none;obtain ⟨o,e⟩:=T7 b hb;rw [Ze (Nat.ne_of_lt (Heap.lt_size e))];exact (f2 b hb).1
 exact codeAny_compStart_list (loop _ rfl) (T.self X.A 0 _ _ _ st1 (loop _ rfl))
section
variable {K:Frag} {a:Addr} {fr:St->St} {g:TG} {tf:TT} {te:TE} {Q:VK} {σ:St} {H1:Hp} {D:Addr}
def Zam(fr:St->St)(g:TG)(tf:TT)(te:TE)(σ:St)(D:Addr)(x:V)(ys:List V)(H:Hp)(N:List V->Hp->Prop):Prop :=
 g x (fr σ) H fun σ2 H2=>Wp (fr σ) σ2/\tf σ2 H2 fun b H3=>if b=true then te σ2 H3 fun y H4=>H4 D=some (.lst ys)/\ys.length<sizeLine/\N (ys++[y]) (upd H4 D (.lst (ys++[y]))) else N ys H3
theorem Xj(Pv:Nat->List V->Hp->Prop)(h0:Pv 0 [] (upd H1 D (.lst [])))(hl:∀i ys H,i<=xs.length->Pv i ys H->SqL K H a xs)
  (hs:∀i x ys H,xs[i]? =some x->Pv i ys H->Zam fr g tf te σ D x ys H (Pv (i+1))) (hd:∀ys H,Pv xs.length ys H->Q (.ref D) H):Zft (Itl K a) fr g tf te Q σ H1 D:=by
 refine ⟨fun i m ys H=>m=xs.length-i/\i<=xs.length/\Pv i ys H,⟨xs.length,by simp,Nat.zero_le _,h0⟩,?_⟩;rintro i m ys H ⟨rfl,hi,p⟩;have q:=hl i ys H hi p
 by_cases c6:i<xs.length
 ·refine .inr ⟨⟨xs,xs[i],q,by simp [c6]⟩,Pv (i+1),fun ys' H' p'=>⟨xs.length-(i+1),by lia,rfl,c6,p'⟩,fun x H' y=>?_⟩;obtain ⟨e,y⟩:=y;subst e;exact hs i x ys _ (y xs q) p
 ·have e:i=xs.length:=by lia
  subst e;exact .inl ⟨⟨xs,q,Nat.le_refl _⟩,hd ys H p⟩
theorem Zr1{lo:Int}{n:Nat}(Pv:Nat->List V->Hp->Prop)(h0:Pv 0 [] (upd H1 D (.lst [])))
  (hs:∀i ys H,i<n->Pv i ys H->Zam fr g tf te σ D (.int (lo+i)) ys H (Pv (i+1))) (hd:∀ys H,Pv n ys H->Q (.ref D) H):Zft (Itr lo n) fr g tf te Q σ H1 D:=by
 refine ⟨fun i m ys H=>m=n-i/\i<=n/\Pv i ys H,⟨n,by simp,Nat.zero_le _,h0⟩,?_⟩;rintro i m ys H ⟨rfl,hi,p⟩
 by_cases c6:i<n
 ·refine .inr ⟨c6,Pv (i+1),fun ys' H' p'=>⟨n-(i+1),by lia,rfl,c6,p'⟩,fun x H' y=>?_⟩;obtain ⟨e,y⟩:=y;subst e y;exact hs i ys _ c6 p
 ·have e:i=n:=by lia
  subst e;exact .inl ⟨Nat.le_refl _,hd ys H p⟩
def Its(x:Str):It:=⟨fun i _=>i<x.cps.size,fun i H v H'=>H'=H/\∃c,x.cps[i]? =some c/\v=.str ⟨#[c]⟩,fun i _=>x.cps.size<=i⟩
theorem Zvs(Pv:Nat->List V->Hp->Prop)(h0:Pv 0 [] (upd H1 D (.lst [])))
  (hs:∀i c ys H,x.cps[i]? =some c->Pv i ys H->Zam fr g tf te σ D (.str ⟨#[c]⟩) ys H (Pv (i+1))) (hd:∀ys H,Pv x.cps.size ys H->Q (.ref D) H):Zft (Its x) fr g tf te Q σ H1 D:=by
 refine ⟨fun i m ys H=>m=x.cps.size-i/\i<=x.cps.size/\Pv i ys H,⟨x.cps.size,by simp,Nat.zero_le _,h0⟩,?_⟩;rintro i m ys H ⟨rfl,hi,p⟩
 by_cases c6:i<x.cps.size
 ·refine .inr ⟨c6,Pv (i+1),fun ys' H' p'=>⟨x.cps.size-(i+1),by lia,rfl,c6,p'⟩,fun v H' y=>?_⟩;obtain ⟨e,c,hc,ev⟩:=y;subst e ev;exact hs i c ys _ hc p
 ·have e:i=x.cps.size:=by lia
  subst e;exact .inl ⟨Nat.le_refl _,hd ys H p⟩
end
theorem Zrl{P:Program}{w:World}{K:Frag}{tg:Expr}(it:Addr)(x:Str)(t:Tok):Zmg P w K tg (Its x) [it] it (fun i h=>h.IsStrIter it "str_ascii_iterator" x t i) where
 mem:=by simp
 obj:=fun i h st b hb=>by
  have e:b=it:=by simpa using hb
  subst e;obtain ⟨o,e,c,d⟩:=st;exact ⟨o,e,fun v z=>by rw [d] at z;cases z⟩
 keep:=fun i h h' st k=>by
  obtain ⟨o,e,r⟩:=st;exact ⟨o,k it (by simp) o e,r⟩
 item:=by
  intro X hP hw hK hc i a6 s σ H E I hf st hg;subst hP hw hK;obtain ⟨f0,f1,f2,f3,f4,f5⟩:=hf it (by simp);have c6:i<x.cps.size:=hg;refine wpAny_pyNext_ascii_item st (c:=x.cps[i]) (by simp [c6]) fun h' x0 sb=>?_
  have I1:Inv X a6 σ H { s with heap:=h',toks:=s.toks+1 }:=I.turned (fun b o hb e=>(sb.2 b hb).trans e) f0 f1 f3 f4 f5;obtain ⟨o,e,c,d⟩:=id x0;exact ⟨_,rfl,Zl6 (s:={ s with heap:=h',toks:=s.toks+1 }) e c d (by decide) ⟨.str ⟨#[x.cps[i]]⟩,H,I1,⟨_,rfl⟩,⟨rfl,_,by simp [c6],rfl⟩,x0,fun b hb=>(hf b hb).1⟩⟩
 done:=by
  intro X hP hw hK hc i a6 s σ H E I hf st hg;subst hP hw hK;obtain ⟨f0,f1,f2,f3,f4,f5⟩:=hf it (by simp);have B0:x.cps.size<=i:=hg;exact wpAny_pyNext_ascii_end (I.ok.hd hc) st (by simp [B0]) fun h' eb=>⟨rfl,I.turned (t':=s.toks) (fun b o hb e=>eb b o hb e) f0 f1 f3 f4 f5⟩
 self:=fun _ _ _ _ _ st h=>wpAny_pyIter_striter_ascii st h
def Yc3(tl:TE):TI:=fun σ H R=>tl σ H fun v H1=>∃x,v=.str x/\x.cps.all (· < 128)=true/\R (Its x) H1
theorem Zzh{X:Cx}{tg l:Expr}{tl:TE}(hl:PE X l tl):PI X tg l (Yc3 tl):=by
 intro a6 s σ H R I h;refine thn (hl a6 s σ H _ I h) fun v s1 ⟨y,H1,I1,r1,q1⟩=>?_
 obtain ⟨x,e,ha,q⟩:=q1;subst e;obtain ⟨t,rfl⟩:=r1;refine wpAny_pyIter_ascii ha ?_;refine ⟨s1.heap.objs.size,[s1.heap.objs.size],_,_,H1,rfl,I1.kept (t':=s1.toks) fun b o e=>Heap.get?_push_of_some _ e,Zrl _ x t,⟨_,Heap.get?_push_size _ rfl,rfl,rfl⟩,fun b hb=>?_,q⟩;have e:b=s1.heap.objs.size:=by simpa using hb
 subst e;exact I1.fpOk (Nat.le_refl _) (I1.hok.fresh (Nat.le_refl _))
theorem Yc.at_bool:∀{bs:List Bool} {us:List Value} {i:Nat} {u:Value},Yc (bs.map V.bl) us->us[i]? =some u->∃b,bs[i]? =some b/\u=.bool b
 | [],_,_,_,.nil,e=>by simp at e
 | b ::bs,_,0,u,.cons r _,e=>by
  simp at e;subst e;exact ⟨b,rfl,r⟩
 | b ::bs,_,i+1,u,.cons _ t,e=>by
  obtain ⟨c,h1,h2⟩:=Yc.at_bool (i:=i) t (by simpa using e);exact ⟨c,by simpa using h1,h2⟩
theorem Zts(bs:List Bool):(List.range bs.length).all (fun i=>bs.getD i false)=bs.all id:=by
 have e:(List.range bs.length).map (fun i=>bs.getD i false)=bs:=by
  apply List.ext_getElem
  ·simp
  ·intro i h1 h2;simp at h1;simp [h1]
 calc (List.range bs.length).all (fun i=>bs.getD i false)=((List.range bs.length).map (fun i=>bs.getD i false)).all id:=by rw [List.all_map];rfl
  _=bs.all id:=by rw [e]
theorem Zke(hc:X.calm=true):Xu X (.builtin "all") (fun xs H Q=>∃(p:Addr) (bs:List Bool),xs=[.ref p]/\SqL X.K H p (bs.map V.bl)/\Q (.bl (bs.all id)) H):=by
 intro a6 s σ H xs us Q I r h;obtain ⟨p,bs,rfl,hq,q⟩:=h;obtain ⟨u,rfl,ru⟩:=Zaz r;cases ru;obtain ⟨a7,rv,pl,hz⟩:=I.list hq;have c6:p<s.heap.objs.size:=by obtain ⟨_,_,e,_⟩:=pl;exact Heap.lt_size e
 refine call_all_walk (wpAny_pyIter_list pl.isList ?_);refine ⟨s.heap.objs.size,_,_,a7.toArray.size,_,_,fun i=>bs.getD i false,rfl,Walks.list (A:=X.A.in1) (show X.A.in1.handled=none from I.ok.hd hc) s.heap.objs.size p (Nat.ne_of_lt c6) a7.toArray,⟨⟨_,Heap.get?_push_size _ rfl,rfl,rfl⟩,pl.isList.push _⟩,?_,fun h' tk k=>?_⟩
 ·intro i v s' Q' E' hv hQ;obtain ⟨b,hb,rfl⟩:=Yc.at_bool (i:=i) rv (by simpa using hv);refine wpAny_truthy_bool ?_;have e:bs.getD i false=b:=by rw [List.getD_eq_getElem?_getD,hb];rfl
  have hQ':Q' (bs.getD i false) s':=hQ;rw [e] at hQ';exact hQ'
 ·have hl:=rv.length;rw [List.length_map] at hl;refine ⟨.bl (bs.all id),H,?_,?_,q⟩
  ·refine I.kept (t':=tk) fun b o e=>k b o ?_ (Heap.get?_push_of_some _ e)
   have:=Heap.lt_size e;intro z;have z':b=s.heap.objs.size:=by simpa using z
   rw [z'] at this;exact Nat.lt_irrefl _ this
  ·show Value.bool ((List.range a7.toArray.size).all fun i=>bs.getD i false)=Value.bool (bs.all id);rw [List.size_toArray,<-hl,Zts]
theorem Zpt:Xu X (.builtin "isinstance") (fun xs H Q=>∃x c b t,xs=[x,c]/\Xy X.K H x t/\((∃n,c=.ty n/\kitOne X.K t (.type n)=some b)\/∃a,c=.ref a/\kitOne X.K t (.ref a)=some b)/\Q (.bl b) H):=by
 intro a6 s σ H xs us Q I r h;obtain ⟨x,c,b,t,rfl,ty,k,q⟩:=h;obtain ⟨u,w',rfl,rx,B5⟩:=Zpy r;rcases k with ⟨n,rfl,k⟩|⟨a,rfl,k⟩
 ·cases B5;exact Zni I rx ty k fun tk=>⟨.bl b,H,I.tok tk,rfl,q⟩
 ·cases B5;exact Zni I rx ty k fun tk=>⟨.bl b,H,I.tok tk,rfl,q⟩
def Ycp:V->Option Int->Option Int->Hp->VK->Prop:=fun x lo hi H Q=>∃z,x=.str z/\z.length<=sizeLine/\Q (.str (Txt.slice z lo hi)) H
theorem Yap:SlR X Ycp:=by
 intro a6 s σ H x v vl vu lo hi sl Q I rx hs pl pu h;obtain ⟨z,rfl,hz,q⟩:=h;obtain ⟨t,rfl⟩:=rx;refine ⟨"str",_,F.slot_str_getitem.lookup,typeIs_str _ _ _,?_⟩;obtain ⟨o,ho,hc,hd⟩:=hs;cases pl with
 | none =>
  cases pu with
  | none=>exact wpAny_getItem_str_slice (l:=none) (u:=none) (st:=none) ⟨o,ho,hc,hd⟩ rfl (post_val_or_str ⟨Nat.le_trans (Txt.slice_le z none none) hz,fun t' k=>⟨.str (Txt.slice z none none),H,I.tok k,⟨t',rfl⟩,q⟩⟩)
  | int j tj=>exact wpAny_getItem_str_slice (l:=none) (u:=some (j,tj)) (st:=none) ⟨o,ho,hc,hd⟩ rfl (post_val_or_str ⟨Nat.le_trans (Txt.slice_le z none (some j)) hz,fun t' k=>⟨.str (Txt.slice z none (some j)),H,I.tok k,⟨t',rfl⟩,q⟩⟩)
 | int i ti =>
  cases pu with
  | none=>exact wpAny_getItem_str_slice (l:=some (i,ti)) (u:=none) (st:=none) ⟨o,ho,hc,hd⟩ rfl (post_val_or_str ⟨Nat.le_trans (Txt.slice_le z (some i) none) hz,fun t' k=>⟨.str (Txt.slice z (some i) none),H,I.tok k,⟨t',rfl⟩,q⟩⟩)
  | int j tj=>exact wpAny_getItem_str_slice (l:=some (i,ti)) (u:=some (j,tj)) (st:=none) ⟨o,ho,hc,hd⟩ rfl (post_val_or_str ⟨Nat.le_trans (Txt.slice_le z (some i) (some j)) hz,fun t' k=>⟨.str (Txt.slice z (some i) (some j)),H,I.tok k,⟨t',rfl⟩,q⟩⟩)
end L2
namespace L2
open PySem PySem.Spec PyProof.Rows
def Ybn(M:St->Hp->St->Hp->Prop)(t:TS):TS:=fun D σ H=>t { D with nx:=M σ H } σ H/\∀σ' H',M σ H σ' H'->D.nx σ' H'
theorem Zzi{X:Cx}{st:Stmt}{t:TS}(M:St->Hp->St->Hp->Prop)(h:PS X st t):PS X st (Ybn M t):=by
 intro a6 s σ H D I hq;refine thn (h a6 s σ H { D with nx:=M σ H } I hq.1) fun f s' q=>?_
 cases f with
 | next=>obtain ⟨σ',H',I',m⟩:=q;exact ⟨σ',H',I',hq.2 σ' H' m⟩
 | brk=>exact q
 | cont=>exact q
 | ret u=>exact q
end L2
namespace L2
open PySem PySem.Spec PyProof.Rows
def Zwg:Expr->Bool
 | .Starred .. =>false
 | _=>true
theorem Ztg(h:Zwg e=true):starEach (e ::es) env=(false,eval e env) ::starEach es env:=by
 cases e <;>first
  | rfl
  | exact absurd h Bool.false_ne_true
theorem Zb(ha:PE X e te)(hr:PA X es t)(h:Zwg e=true:=by rfl):PA X (e ::es) (Zlo te t):=Zyi ha hr (Ztg h)
end L2
namespace L2
open PySem PySem.Spec PyProof.Rows
structure WSs(X:Cx)(b:List Stmt)(D:Zh3)(σ:St)(H:Hp):Prop where
 run:∀(a6:List (Addr×Obj)) (s:Shared),Inv X a6 σ H s->wpAny (model X.prog X.w) X.A (execs b X.env) (SP X a6 D) X.xe s
structure WS(X:Cx)(st:Stmt)(D:Zh3)(σ:St)(H:Hp):Prop where
 run:∀(a6:List (Addr×Obj)) (s:Shared),Inv X a6 σ H s->wpAny (model X.prog X.w) X.A (exec st X.env) (SP X a6 D) X.xe s
structure WE(X:Cx)(e:Expr)(σ:St)(H:Hp)(Q:VK):Prop where
 run:∀(a6:List (Addr×Obj)) (s:Shared),Inv X a6 σ H s->wpAny (model X.prog X.w) X.A (eval e X.env) (EP X a6 σ Q) X.xe s
section
variable {X:Cx} {b Yo:List Stmt} {st:Stmt} {e:Expr} {D:Zh3} {σ:St} {H:Hp} {t:TS} {te:TE} {Q:VK}
theorem Zq:PSs X b (WSs X b):=fun a6 s _ _ _ I h=>h.run a6 s I
theorem Ydb:PS X st (WS X st):=fun a6 s _ _ _ I h=>h.run a6 s I
theorem Zu9:PE X e (WE X e):=fun a6 s _ _ _ I h=>h.run a6 s I
theorem WSs.of(h:PSs X b t)(q:t D σ H):WSs X b D σ H:=⟨fun a6 s I=>h a6 s σ H D I q⟩
theorem WS.of(h:PS X st t)(q:t D σ H):WS X st D σ H:=⟨fun a6 s I=>h a6 s σ H D I q⟩
theorem WE.of(h:PE X e te)(q:te σ H Q):WE X e σ H Q:=⟨fun a6 s I=>h a6 s σ H Q I q⟩
theorem WSs.step(h:PS X st t)(q:t { D with nx:=WSs X Yo D } σ H):WSs X (st ::Yo) D σ H:=WSs.of (Zu2 h Zq) q
theorem WSs.last(h:PS X st t)(q:t D σ H):WSs X [st] D σ H:=WSs.of (Zxd h) q
theorem WSs.cut(M:St->Hp->Prop)(h:WS X st { D with nx:=M } σ H)(k:∀σ' H',M σ' H'->WSs X Yo D σ' H'):WSs X (st ::Yo) D σ H:=by
 refine WSs.step (t:=Ybn (fun _ _=>M) (WS X st)) (Zzi (fun _ _=>M) Ydb) ⟨h,fun σ' H' m=>k σ' H' m⟩
end
end L2
namespace L2
open PySem PySem.Spec PyProof.Rows
theorem Zux(hk:PE X k tk)(hv:PE X v tv):PE X (.Dict [some k] [v] pos) (Zyz [(tk,tv)]):=Zjy (Zaw hk hv Zj0) rfl rfl (by simp) (by show 1<=15;decide)
end L2
namespace L2
open PySem PySem.Spec PyProof.Rows
end L2
end
section
namespace L2
open PySem PySem.Spec PyProof.Rows
def Zqa{α:Type}(P:α->Prop):List α->Prop
 | []=>True
 | a ::l=>P a/\Zqa P l
theorem Zqa.mem{α:Type}{P:α->Prop}:∀{l:List α} {a:α},Zqa P l->a∈l->P a
 | _ ::_,a,h,m=>by
  rcases List.mem_cons.mp m with rfl|m
  ·exact h.1
  ·exact Zqa.mem h.2 m
theorem Zb2{env:Env}:∀{names:List (Str×NameKind)} {x:Str},names.lookup x=some .free ->
  (names.map fun (n,k)=>if (k ==NameKind.free && env.scope.kind ==.function && env.kindOf n ==some .cell) then (n,NameKind.cell) else (n,k)).lookup x=some .cell \/
  (names.map fun (n,k)=>if (k ==NameKind.free && env.scope.kind ==.function && env.kindOf n ==some .cell) then (n,NameKind.cell) else (n,k)).lookup x=some .free
 | [],_,h=>by simp at h
 | (n,k) ::r,x,h=>by
  have ih:=@Zb2 env r x
  by_cases hx:x ==n
  ·have hk:k=.free:=by
    rw [List.lookup_cons,hx] at h;exact Option.some.inj h
   subst hk
   by_cases hc:(NameKind.free ==NameKind.free && env.scope.kind ==.function && env.kindOf n ==some .cell)=true
   ·left
    rw [List.map_cons];show List.lookup x ((if _ then (n,NameKind.cell) else (n,NameKind.free)) ::_)=_;rw [if_pos hc,List.lookup_cons,hx]
   ·right
    rw [List.map_cons];show List.lookup x ((if _ then (n,NameKind.cell) else (n,NameKind.free)) ::_)=_;rw [if_neg hc,List.lookup_cons,hx]
  ·have hx:(x ==n)=false:=by simpa using hx
   rw [List.lookup_cons,hx] at h;have q:=ih h;rw [List.map_cons];have e:∀(b:Bool) (l:List (Str×NameKind)),List.lookup x ((if b=true then (n,NameKind.cell) else (n,k)) ::l)=l.lookup x:=fun b l=>by
    cases b <;>simp [List.lookup_cons,hx]
   rcases q with q|q
   ·exact .inl ((e _ _).trans q)
   ·exact .inr ((e _ _).trans q)
theorem Zcc{env:Env}:∀{names:List (Str×NameKind)} {x:Str},
    ((names.map fun (n,k)=>if (k ==NameKind.free && env.scope.kind ==.function && env.kindOf n ==some .cell) then (n,NameKind.cell) else (n,k)).lookup x=some .cell \/
     (names.map fun (n,k)=>if (k ==NameKind.free && env.scope.kind ==.function && env.kindOf n ==some .cell) then (n,NameKind.cell) else (n,k)).lookup x=some .free) ->
    names.lookup x=some .cell\/names.lookup x=some .free
  | [],_,h=>by simp at h
  | (n,k) ::r,x,h=>by
    have ih:=@Zcc env r x;rw [List.map_cons] at h
    by_cases hx:x ==n
    · rw [List.lookup_cons,hx];have e:∀(c:Prop) [Decidable c] (l:List (Str×NameKind)),List.lookup x ((if c then (n,NameKind.cell) else (n,k)) ::l)=some (if c then .cell else k):=fun c _ l=>by
        split <;>rw [List.lookup_cons,hx]
      rcases h with h|h
      · have h:=(e _ _).symm.trans h;have h:=Option.some.inj h;split at h
        · rename_i c
          right
          have:k=.free:=by
            rw [Bool.and_eq_true,Bool.and_eq_true] at c;simpa using c.1.1
          rw [this]
        · left;rw [h]
      · have h:=(e _ _).symm.trans h;have h:=Option.some.inj h;split at h
        · cases h
        · right;rw [h]
    · have hx:(x ==n)=false:=by simpa using hx
      have e:∀(c:Prop) [Decidable c] (l:List (Str×NameKind)),List.lookup x ((if c then (n,NameKind.cell) else (n,k)) ::l)=l.lookup x:=fun c _ l=>by
        split <;>rw [List.lookup_cons,hx]
      rw [List.lookup_cons,hx];exact ih (h.imp (fun z=>(e _ _).symm.trans z) fun z=>(e _ _).symm.trans z)
theorem Z6.std{X:Cx}{scope:Scope}{cl:List (Str×Addr)}{N':List Str}(n:Nat)(js:List Nat)(kind:scope.kind=.function)(cell:∀y∈scope.names,y.2 ≠ .cell)
  (names:∀y∈scope.names,y.2=.local->scope.names.lookup y.1=some .local) (clos:closureFor scope X.env=pure cl) (t9:Zqa (fun p=>X.env.cells.lookup p.1=some p.2) cl)
  (D4:(scope.names.all fun y=>y.2 !=.free || ((cl.lookup y.1).isSome && (X.env.kindOf y.1 ==some .cell || X.env.kindOf y.1 ==some .free)))=true)
  (hN:N'.length=n+js.length) (hj:Zqa (fun p:Nat×Nat=>∃x,N'[n+p.1]? =some x/\X.N[p.2]? =some x/\scope.names.lookup x=some .free) ((List.range js.length).zip js)) :
  Z6 X scope cl N' (fun σ=>List.replicate n none++js.map fun j=>(σ[j]?).join) where
 kind:=kind
 cell:=cell
 names:=names
 clos:=clos
 sub:=fun x c h=>Zqa.mem (P:=fun p=>X.env.cells.lookup p.1=some p.2) (a:=(x,c)) t9 (PySem.mem_of_lookup h)
 has:=fun x h=>by
  rcases Zcc (env:=X.env) h with h|h
  ·exact absurd rfl (cell _ (PySem.mem_of_lookup h))
  ·have q:=List.all_eq_true.mp D4 _ (PySem.mem_of_lookup h);simp only [bne_self_eq_false,Bool.false_or,Bool.and_eq_true] at q;exact Option.isSome_iff_exists.mp q.1
 len:=fun σ _=>by simp [hN]
 fr:=fun σ i x v h1 h2 _=>by
  have hi:n<=i:=by
   rcases Nat.lt_or_ge i n with c6|hge
   ·rw [List.getElem?_append_left (by simpa using c6),List.getElem?_replicate,if_pos c6] at h2;cases h2
   ·exact hge
  rw [List.getElem?_append_right (by simpa using hi),List.length_replicate,List.getElem?_map] at h2;cases hjs:js[i-n]? with
  | none=>rw [hjs] at h2;cases h2
  | some j =>
   rw [hjs] at h2;have h2:(σ[j]?).join=some v:=Option.some.inj h2;have c6:i-n<js.length:=by
    rcases Nat.lt_or_ge (i-n) js.length with z|z
    ·exact z
    ·rw [List.getElem?_eq_none z] at hjs;cases hjs
   have hm:(i-n,j)∈(List.range js.length).zip js:=by
    rw [List.mem_iff_getElem?];refine ⟨i-n,?_⟩;rw [List.getElem?_zip_eq_some];exact ⟨by simp [c6],hjs⟩
   obtain ⟨x',e1,e2,e3⟩:=Zqa.mem hj hm;have e:n+(i-n)=i:=by lia
   simp only [e] at e1;rw [h1] at e1;cases e1;have q:=List.all_eq_true.mp D4 _ (PySem.mem_of_lookup e3);simp only [bne_self_eq_false,Bool.false_or,Bool.and_eq_true,Bool.or_eq_true,beq_iff_eq] at q;refine ⟨Zb2 e3,q.2,j,e2,?_⟩;cases hs:σ[j]? with
   | none=>rw [hs] at h2;cases h2
   | some o=>rw [hs] at h2;exact congrArg some h2
end L2
namespace L2
open PySem PySem.Spec PyProof.Rows
inductive Tr where
 | non | int (i:Int) | str (x:Str) | tup (ts:List Tr) | lst (ts:List Tr)
noncomputable instance:DecidableEq Tr:=fun _ _=>Classical.propDecidable _
mutual
inductive Im(K:Frag)(H:Hp):Nat->Tr->V->Prop where
 | non {n:Nat}:Im K H n .non .non
 | int {n:Nat} (i:Int):Im K H n (.int i) (.int i)
 | str {n:Nat} (x:Str):Im K H n (.str x) (.str x)
 | tupI {n:Nat} {a:Addr} {xs:List V} {ts:List Tr}:SqT K H a xs->Ims K H n ts xs->Im K H (n+1) (.tup ts) (.ref a)
 | lstI {n:Nat} {a:Addr} {xs:List V} {ts:List Tr}:SqL K H a xs->Ims K H n ts xs->Im K H (n+1) (.lst ts) (.ref a)
inductive Ims(K:Frag)(H:Hp):Nat->List Tr->List V->Prop where
 | nil {n:Nat}:Ims K H n [] []
 | cons {n:Nat} {t:Tr} {v:V} {ts:List Tr} {vs:List V}:Im K H n t v->Ims K H n ts vs->Ims K H n (t ::ts) (v ::vs)
end
theorem Ims.toP{K:Frag}{H:Hp}{n:Nat}:∀{ts:List Tr} {xs:List V},Ims K H n ts xs->Paired (Im K H n) ts xs
 | [],_,h=>by cases h;exact .nil
 | _ ::_,_,h=>by
  cases h with
  | cons r t=>exact .cons r t.toP
theorem Ims.ofP{K:Frag}{H:Hp}{n:Nat}:∀{ts:List Tr} {xs:List V},Paired (Im K H n) ts xs->Ims K H n ts xs
 | _,_,.nil=>.nil
 | _,_,.cons r t=>.cons r (Ims.ofP t)
theorem Im.tup{K:Frag}{H:Hp}{n:Nat}{a:Addr}{xs:List V}{ts:List Tr}(sq:SqT K H a xs)(ps:Paired (Im K H n) ts xs):Im K H (n+1) (.tup ts) (.ref a):=.tupI sq (.ofP ps)
theorem Im.lst{K:Frag}{H:Hp}{n:Nat}{a:Addr}{xs:List V}{ts:List Tr}(sq:SqL K H a xs)(ps:Paired (Im K H n) ts xs):Im K H (n+1) (.lst ts) (.ref a):=.lstI sq (.ofP ps)
theorem Paired.get{α β:Type}{R:α->β->Prop}:∀{l₁:List α} {l₂:List β} {i:Nat} {a:α},Paired R l₁ l₂->l₁[i]? =some a->∃b,l₂[i]? =some b/\R a b
 | _,_,_,_,.nil,e=>by simp at e
 | _,_,0,_,.cons r _,e=>by simp at e;subst e;exact ⟨_,rfl,r⟩
 | _,_,i+1,a,.cons _ t,e=>by
  obtain ⟨u,h1,h2⟩:=Paired.get (i:=i) (a:=a) t (by simpa using e);exact ⟨u,by simpa using h1,h2⟩
theorem Paired.get'{α β:Type}{R:α->β->Prop}:∀{l₁:List α} {l₂:List β} {i:Nat} {b:β},Paired R l₁ l₂->l₂[i]? =some b->∃a,l₁[i]? =some a/\R a b
 | _,_,_,_,.nil,e=>by simp at e
 | _,_,0,_,.cons r _,e=>by simp at e;subst e;exact ⟨_,rfl,r⟩
 | _,_,i+1,a,.cons _ t,e=>by
  obtain ⟨u,h1,h2⟩:=Paired.get' (i:=i) (b:=a) t (by simpa using e);exact ⟨u,by simpa using h1,h2⟩
theorem Paired.append{α β:Type}{R:α->β->Prop}{a₁:List α}{b₁:List β}{a₂:List α}{b₂:List β}(h:Paired R a₁ b₁)(s:Paired R a₂ b₂):Paired R (a₁++a₂) (b₁++b₂):=by
 induction h with
 | nil=>exact s
 | cons r t ih=>exact .cons r ih
theorem Paired.strs{K:Frag}{H:Hp}{n:Nat}:∀xs:List Str,Paired (Im K H n) (xs.map Tr.str) (xs.map V.str)
 | []=>.nil
 | x ::xs=>.cons (.str x) (Paired.strs (K:=K) (H:=H) (n:=n) xs)
theorem Same.at(e:Same H H')(h:H b=some o):H' b=some o:=e b o h
theorem Same.new(h:H p=none):Same H (upd H p o):=fun b u e=>by rw [Ze (Zh e h)];exact e
theorem Paired.uniq{α β:Type}{R:α->β->Prop}(f:∀a a' b,R a b->R a' b->a=a'){l l':List α}{m:List β}(h:Paired R l m)(h':Paired R l' m):l=l':=by
 induction h generalizing l' with
 | nil=>cases h';rfl
 | cons r t ih=>cases h' with
  | cons r' t'=>rw [f _ _ _ r r',ih t']
section
variable {X:Cx} {a6:List (Addr×Obj)} {σ:St} {H:Hp} {s:Shared}
theorem Inv.lt_excl(I:Inv X a6 σ H s)(h:SqL X.K H a xs)(h':SqT X.K H a ys):False:=by
 obtain ⟨a7,_,pl,_⟩:=I.list h;obtain ⟨its',_,tp,_⟩:=I.tuple h';exact SeqAt.ne_of_list_tuple pl.isList (show s.heap.IsTuple a its'.toArray from tp) rfl
theorem Im.inj(I:Inv X a6 σ H s):∀{n:Nat} {t u:Tr} {v:V},Im X.K H n t v->Im X.K H n u v->t=u:=by
 intro n
 induction n with
 | zero=>intro t u v h h';cases h <;>cases h' <;>rfl
 | succ n ih =>
  intro t u v h h';cases h with
  | non=>cases h';rfl
  | int i=>cases h';rfl
  | str x=>cases h';rfl
  | tupI sq pm =>
   cases h' with
   | tupI j5 pm' =>
    have e:=I.tuple_inj sq j5;subst e;rw [Paired.uniq (R:=Im X.K H n) (fun _ _ _ z z'=>ih z z') pm.toP pm'.toP]
   | lstI j5 pm'=>exact (I.lt_excl j5 sq).elim
  | lstI sq pm =>
   cases h' with
   | tupI j5 pm'=>exact (I.lt_excl sq j5).elim
   | lstI j5 pm' =>
    have e:=I.list_inj sq j5;subst e;rw [Paired.uniq (R:=Im X.K H n) (fun _ _ _ z z'=>ih z z') pm.toP pm'.toP]
theorem Yk(h:SeqAt.EqAt A s u v b)(e:b=b'):SeqAt.EqAt A s u v b':=e ▸ h
theorem Zjb(ts us:List Tr):(((List.range (min ts.length us.length)).all fun j=>decide (ts[j]? =us[j]?)) && ts.length ==us.length)=decide (ts=us):=by
 rw [Bool.eq_iff_iff];simp only [Bool.and_eq_true,List.all_eq_true,List.mem_range,decide_eq_true_eq,beq_iff_eq]
 constructor
 ·rintro ⟨h,e⟩;refine List.ext_getElem? fun i=>?_
  by_cases hi:i<ts.length
  ·exact h i (by lia)
  ·rw [List.getElem?_eq_none (by lia),List.getElem?_eq_none (by lia)]
 ·rintro rfl;exact ⟨fun _ _=>rfl,rfl⟩
theorem Zo2{ts us:List Tr}(h:ts.length=us.length):((List.range ts.length).all fun j=>decide (ts[j]? =us[j]?))=decide (ts=us):=by
 have q:=Zjb ts us;rw [h,Nat.min_self,beq_self_eq_true,Bool.and_true] at q;rw [h];exact q
theorem Wm(A:Around):A.in1.units=A.units+1:=rfl
theorem Zeb
  (ih:∀{t u:Tr} {x y:V} {vx vy:Value},Im X.K H n t x->Im X.K H n u y->Yj x vx->Yj y vy->SeqAt.EqAt A s vx vy (decide (t=u)))
  (ps:Paired (Im X.K H n) ts xs) (C9:Paired (Im X.K H n) us ys) (rv:Yc xs a7) (K5:Yc ys its') :
  ∀j (h1:j<a7.toArray.size) (h2:j<its'.toArray.size),SeqAt.EqAt A s a7.toArray[j] its'.toArray[j] (decide (ts[j]? =us[j]?)):=by
 intro j h1 h2;have l1:=rv.length;have l2:=K5.length;have h1':j<xs.length:=by simpa [l1] using h1
 have h2':j<ys.length:=by simpa [l2] using h2
 obtain ⟨t,e1,r1⟩:=Paired.get' ps (i:=j) (b:=xs[j]) (by simp [h1']);obtain ⟨u,e2,r2⟩:=Paired.get' C9 (i:=j) (b:=ys[j]) (by simp [h2']);obtain ⟨v1,f1,g1⟩:=rv.get (i:=j) (x:=xs[j]) (by simp [h1']);obtain ⟨v2,f2,g2⟩:=K5.get (i:=j) (x:=ys[j]) (by simp [h2']);have k1:a7.toArray[j]=v1:=by
  have:a7[j]? =some a7.toArray[j]:=by simp [show j<a7.length by simpa using h1]
  rw [f1] at this;exact (Option.some.inj this).symm
 have k2:its'.toArray[j]=v2:=by
  have:its'[j]? =some its'.toArray[j]:=by simp [show j<its'.length by simpa using h2]
  rw [f2] at this;exact (Option.some.inj this).symm
 rw [k1,k2,e1,e2];refine Yk (ih r1 r2 g1 g2) ?_;rw [Bool.eq_iff_iff];simp
theorem Im.tuple_rc(I:Inv X a6 σ H s)
  (ih:∀{t u:Tr} {x y:V} {vx vy:Value},Im X.K H n t x->Im X.K H n u y->Yj x vx->Yj y vy->SeqAt.EqAt A.in1 s vx vy (decide (t=u))) (hu:A.units<cLine)
  (sq:SqT X.K H a xs) (ps:Paired (Im X.K H n) ts xs) (j5:SqT X.K H b ys) (C9:Paired (Im X.K H n) us ys) :
  SeqAt.RcAt A s (.ref a) (.ref b) (decide (Tr.tup ts=Tr.tup us))/\SeqAt.RcNeAt A s (.ref a) (.ref b) (!decide (Tr.tup ts=Tr.tup us)):=by
 obtain ⟨a7,rv,tp,_⟩:=I.tuple sq;obtain ⟨its',K5,z8,_⟩:=I.tuple j5;have l1:=rv.length;have l2:=K5.length;have m1:=Paired.length ps;have m2:=Paired.length C9;have e:((List.range (min a7.toArray.size its'.toArray.size)).all (fun j=>decide (ts[j]? =us[j]?)) && a7.toArray.size ==its'.toArray.size)=decide (Tr.tup ts=Tr.tup us):=by
  rw [List.size_toArray,List.size_toArray,<-l1,<-l2,<-m1,<-m2,Zjb,Bool.eq_iff_iff];simp
 constructor
 ·rw [<-e];exact SeqAt.RcAt.tuples (show s.heap.IsTuple a a7.toArray from tp) (show s.heap.IsTuple b its'.toArray from z8) hu (Zeb ih ps C9 rv K5)
 ·rw [<-e];exact SeqAt.RcNeAt.tuples (show s.heap.IsTuple a a7.toArray from tp) (show s.heap.IsTuple b its'.toArray from z8) hu (Zeb ih ps C9 rv K5)
theorem Im.list_rc(I:Inv X a6 σ H s){n:Nat}{A:Around}{a b:Addr}{ts us:List Tr}{xs ys:List V}
  (ih:∀{t u:Tr} {x y:V} {vx vy:Value},Im X.K H n t x->Im X.K H n u y->Yj x vx->Yj y vy->SeqAt.EqAt A.in1 s vx vy (decide (t=u))) (hu:A.units<cLine)
  (sq:SqL X.K H a xs) (ps:Paired (Im X.K H n) ts xs) (j5:SqL X.K H b ys) (C9:Paired (Im X.K H n) us ys) :
  SeqAt.RcAt A s (.ref a) (.ref b) (decide (Tr.lst ts=Tr.lst us))/\SeqAt.RcNeAt A s (.ref a) (.ref b) (!decide (Tr.lst ts=Tr.lst us)):=by
 obtain ⟨a7,rv,tp,_⟩:=I.list sq;obtain ⟨its',K5,z8,_⟩:=I.list j5;have l1:=rv.length;have l2:=K5.length;have m1:=Paired.length ps;have m2:=Paired.length C9
 by_cases hl:ts.length=us.length
 ·have e:((List.range a7.toArray.size).all fun j=>decide (ts[j]? =us[j]?))=decide (Tr.lst ts=Tr.lst us):=by
   rw [List.size_toArray,<-l1,<-m1,Zo2 hl,Bool.eq_iff_iff];simp
  have hs:a7.toArray.size=its'.toArray.size:=by rw [List.size_toArray,List.size_toArray];lia
  constructor
  ·rw [<-e];exact SeqAt.RcAt.lists tp.isList z8.isList hs hu (Zeb ih ps C9 rv K5)
  ·rw [<-e];exact SeqAt.RcNeAt.lists tp.isList z8.isList hs hu (Zeb ih ps C9 rv K5)
 ·have e:decide (Tr.lst ts=Tr.lst us)=false:=decide_eq_false fun z=>hl (by injection z with z;rw [z])
  have hs:(a7.toArray.size !=its'.toArray.size)=true:=by rw [List.size_toArray,List.size_toArray];simp;lia
  rw [e];exact ⟨SeqAt.RcAt.lists_lengths tp.isList z8.isList hs hu,SeqAt.RcNeAt.lists_lengths tp.isList z8.isList hs hu⟩
theorem Im.eqAt(I:Inv X a6 σ H s):∀(n:Nat) (A:Around) {t u:Tr} {x y:V} {vx vy:Value},Im X.K H n t x->Im X.K H n u y->Yj x vx->Yj y vy->A.units+n<cLine->SeqAt.EqAt A s vx vy (decide (t=u)):=by
 intro n
 induction n with
 | zero =>
  intro A t u x y vx vy h h' rx ry hu;cases h <;>cases h' <;>exact Yk (Zk0 rx ry rfl rfl) (by rw [Bool.eq_iff_iff];simp [eqV])
 | succ n ih =>
  intro A t u x y vx vy h h' rx ry hu;have E5:A.units<cLine:=by lia
  have hu1:A.in1.units+n<cLine:=by rw [Wm];lia
  have ih1:∀{t u:Tr} {x y:V} {vx vy:Value},Im X.K H n t x->Im X.K H n u y->Yj x vx->Yj y vy->SeqAt.EqAt A.in1 s vx vy (decide (t=u)):=fun z z' r r'=>ih A.in1 z z' r r' hu1
  cases h with
  | @tupI _ a xs ts sq pm =>
   cases rx;obtain ⟨a7,rv,tp,_⟩:=I.tuple sq;cases h' with
   | non=>cases ry;exact Yk (SeqAt.EqAt.tuple_none (show s.heap.IsTuple _ a7.toArray from tp) E5) (decide_eq_false fun z=>nomatch z).symm
   | int i=>obtain ⟨t',rfl⟩:=ry;exact Yk (SeqAt.EqAt.tuple_int i t' (show s.heap.IsTuple _ a7.toArray from tp) E5) (decide_eq_false fun z=>nomatch z).symm
   | str i=>obtain ⟨t',rfl⟩:=ry;exact Yk (SeqAt.EqAt.tuple_str i t' (show s.heap.IsTuple _ a7.toArray from tp) E5) (decide_eq_false fun z=>nomatch z).symm
   | @tupI _ b ys us j5 pm' =>
    cases ry
    by_cases L8:a=b
    ·subst L8;rw [Im.inj I (Im.tupI sq pm) (Im.tupI j5 pm'),decide_eq_true rfl];exact SeqAt.EqAt.same _
    ·exact SeqAt.EqAt.of_refs L8 (Im.tuple_rc I ih1 E5 sq pm.toP j5 pm'.toP).1
   | lstI j5 pm' =>
    cases ry;obtain ⟨its',K5,z8,_⟩:=I.list j5;exact Yk (SeqAt.EqAt.tuple_list (show s.heap.IsTuple _ a7.toArray from tp) z8.isList E5) (decide_eq_false fun z=>nomatch z).symm
  | @lstI _ a xs ts sq pm =>
   cases rx;obtain ⟨a7,rv,tp,_⟩:=I.list sq;cases h' with
   | non=>cases ry;exact Yk (SeqAt.EqAt.list_none tp.isList E5) (decide_eq_false fun z=>nomatch z).symm
   | int i=>obtain ⟨t',rfl⟩:=ry;exact Yk (SeqAt.EqAt.list_int i t' tp.isList E5) (decide_eq_false fun z=>nomatch z).symm
   | str i=>obtain ⟨t',rfl⟩:=ry;exact Yk (SeqAt.EqAt.list_str i t' tp.isList E5) (decide_eq_false fun z=>nomatch z).symm
   | tupI j5 pm' =>
    cases ry;obtain ⟨its',K5,z8,_⟩:=I.tuple j5;exact Yk (SeqAt.EqAt.list_tuple tp.isList (show s.heap.IsTuple _ its'.toArray from z8) E5) (decide_eq_false fun z=>nomatch z).symm
   | @lstI _ b ys us j5 pm' =>
    cases ry
    by_cases L8:a=b
    ·subst L8;rw [Im.inj I (Im.lstI sq pm) (Im.lstI j5 pm'),decide_eq_true rfl];exact SeqAt.EqAt.same _
    ·exact SeqAt.EqAt.of_refs L8 (Im.list_rc I ih1 E5 sq pm.toP j5 pm'.toP).1
  | non =>
   cases rx;cases h' with
   | non=>cases ry;exact Yk (SeqAt.EqAt.same _) (decide_eq_true rfl).symm
   | int i=>obtain ⟨t',rfl⟩:=ry;exact Yk (SeqAt.EqAt.none_int i t') (decide_eq_false fun z=>nomatch z).symm
   | str i=>obtain ⟨t',rfl⟩:=ry;exact Yk (SeqAt.EqAt.none_str i t') (decide_eq_false fun z=>nomatch z).symm
   | tupI j5 pm'=>cases ry;obtain ⟨its',_,z8,_⟩:=I.tuple j5;exact Yk (SeqAt.EqAt.none_tuple (show s.heap.IsTuple _ its'.toArray from z8) E5) (decide_eq_false fun z=>nomatch z).symm
   | lstI j5 pm'=>cases ry;obtain ⟨its',_,z8,_⟩:=I.list j5;exact Yk (SeqAt.EqAt.none_list z8.isList E5) (decide_eq_false fun z=>nomatch z).symm
  | int j =>
   cases h' with
   | tupI j5 pm'=>obtain ⟨t',rfl⟩:=rx;cases ry;obtain ⟨its',_,z8,_⟩:=I.tuple j5;exact Yk (SeqAt.EqAt.int_tuple j t' (show s.heap.IsTuple _ its'.toArray from z8) E5) (decide_eq_false fun z=>nomatch z).symm
   | lstI j5 pm'=>obtain ⟨t',rfl⟩:=rx;cases ry;obtain ⟨its',_,z8,_⟩:=I.list j5;exact Yk (SeqAt.EqAt.int_list j t' z8.isList E5) (decide_eq_false fun z=>nomatch z).symm
   | _=>exact Yk (Zk0 rx ry rfl rfl) (by rw [Bool.eq_iff_iff];simp [eqV])
  | str j =>
   cases h' with
   | tupI j5 pm'=>obtain ⟨t',rfl⟩:=rx;cases ry;obtain ⟨its',_,z8,_⟩:=I.tuple j5;exact Yk (SeqAt.EqAt.str_tuple j t' (show s.heap.IsTuple _ its'.toArray from z8) E5) (decide_eq_false fun z=>nomatch z).symm
   | lstI j5 pm'=>obtain ⟨t',rfl⟩:=rx;cases ry;obtain ⟨its',_,z8,_⟩:=I.list j5;exact Yk (SeqAt.EqAt.str_list j t' z8.isList E5) (decide_eq_false fun z=>nomatch z).symm
   | _=>exact Yk (Zk0 rx ry rfl rfl) (by rw [Bool.eq_iff_iff];simp [eqV])
end
def Zx2(K:Frag)(neg:Bool):R2:=fun x y H Q=>∃n t u,n<=60/\((∃ts us,t=Tr.tup ts/\u=Tr.tup us)\/∃ts us,t=Tr.lst ts/\u=Tr.lst us)/\Im K H n t x/\Im K H n u y/\Q (.bl (if neg then !decide (t=u) else decide (t=u))) H
theorem Yan{X:Cx}(hu:X.A.units+64<cLine):OpR X (compareOp .Eq) (Zx2 X.K false):=by
 intro a6 s σ H x y v u Q I rx ry h;obtain ⟨n,t,t',hn,hk,h1,h2,q⟩:=h;rcases hk with ⟨ts,us,rfl,rfl⟩|⟨ts,us,rfl,rfl⟩
 ·cases h1 with
  | tupI sq pm =>
   cases h2 with
   | tupI j5 pm' =>
    cases rx;cases ry;exact (Im.tuple_rc (A:=X.A) I (fun z z' r r'=>Im.eqAt I _ _ z z' r r' (by rw [Wm];lia)) (by lia) sq pm.toP j5 pm'.toP).1 _ _ _ _ ⟨.bl _,H,I,rfl,q⟩
 ·cases h1 with
  | lstI sq pm =>
   cases h2 with
   | lstI j5 pm' =>
    cases rx;cases ry;exact (Im.list_rc (A:=X.A) I (fun z z' r r'=>Im.eqAt I _ _ z z' r r' (by rw [Wm];lia)) (by lia) sq pm.toP j5 pm'.toP).1 _ _ _ _ ⟨.bl _,H,I,rfl,q⟩
theorem Zz2{X:Cx}(hu:X.A.units+64<cLine):OpR X (compareOp .NotEq) (Zx2 X.K true):=by
 intro a6 s σ H x y v u Q I rx ry h;obtain ⟨n,t,t',hn,hk,h1,h2,q⟩:=h;rcases hk with ⟨ts,us,rfl,rfl⟩|⟨ts,us,rfl,rfl⟩
 ·cases h1 with
  | tupI sq pm =>
   cases h2 with
   | tupI j5 pm' =>
    cases rx;cases ry;exact (Im.tuple_rc (A:=X.A) I (fun z z' r r'=>Im.eqAt I _ _ z z' r r' (by rw [Wm];lia)) (by lia) sq pm.toP j5 pm'.toP).2 _ _ _ _ ⟨.bl _,H,I,rfl,q⟩
 ·cases h1 with
  | lstI sq pm =>
   cases h2 with
   | lstI j5 pm' =>
    cases rx;cases ry;exact (Im.list_rc (A:=X.A) I (fun z z' r r'=>Im.eqAt I _ _ z z' r r' (by rw [Wm];lia)) (by lia) sq pm.toP j5 pm'.toP).2 _ _ _ _ ⟨.bl _,H,I,rfl,q⟩
def Zy2(t:TA):TE:=fun σ H Q=>t σ H fun xs H1=>xs.length<=sizeLine/\∀p H',Same H1 H'->H1 p=none->H' p=some (.tup xs)->Q (.ref p) H'
def Ycl(t:TA):TE:=fun σ H Q=>t σ H fun xs H1=>xs.length<=sizeLine/\∀p H',Same H1 H'->H1 p=none->H' p=some (.lst xs)->Q (.ref p) H'
theorem Zk{x1}(h:PA X es t):PE X (.Tuple es x1 pos) (Zy2 t):=by
 intro a6 s σ H Q I hq;refine wpAny_Tuple_spliced (thn (h pos a6 s σ H _ I hq) fun us s1 ⟨xs,H1,I1,r,z,q⟩=>⟨by rw [<-r.length];exact z,?_⟩);have hf:H1 s1.heap.objs.size=none:=I1.hok.fresh (Nat.le_refl _);refine ⟨.ref s1.heap.objs.size,upd H1 s1.heap.objs.size (.tup xs),I1.laid (t':=s1.toks) (fun b u e=>Heap.get?_push_of_some _ e) (Nat.le_refl _) ?_,rfl,q _ _ (Same.new hf) hf Zf⟩;exact ⟨z,us,r,⟨_,Heap.get?_push_size _ rfl,rfl,_,rfl⟩⟩
theorem Zt(h:PA X es t):PE X (.List es pos) (Ycl t):=by
 intro a6 s σ H Q I hq;refine wpAny_List_spliced (thn (h pos a6 s σ H _ I hq) fun us s1 ⟨xs,H1,I1,r,z,q⟩=>⟨by rw [<-r.length];exact z,?_⟩);have hf:H1 s1.heap.objs.size=none:=I1.hok.fresh (Nat.le_refl _);refine ⟨.ref s1.heap.objs.size,upd H1 s1.heap.objs.size (.lst xs),I1.laid (t':=s1.toks) (fun b u e=>Heap.get?_push_of_some _ e) (Nat.le_refl _) ?_,rfl,q _ _ (Same.new hf) hf Zf⟩;exact ⟨z,us,0,r,Heap.get?_push_size _ rfl⟩
theorem OpR.imp{f:Value->Value->Sem Value}(h:OpR X f r)(g:∀x y H Q,r' x y H Q->r x y H Q):OpR X f r':=fun a6 s σ H x y v u Q I rx ry q=>h a6 s σ H x y v u Q I rx ry (g _ _ _ _ q)
theorem SlR.imp{r r':V->Option Int->Option Int->Hp->VK->Prop}(h:SlR X r)(g:∀x l u H Q,r' x l u H Q->r x l u H Q):SlR X r':=fun a6 s σ H x v vl vu lo hi sl Q I rx hs pl pu q=>h a6 s σ H x v vl vu lo hi sl Q I rx hs pl pu (g _ _ _ _ _ q)
theorem Xu.imp{r r':List V->Hp->VK->Prop}(h:Xu X f r)(g:∀xs H Q,r' xs H Q->r xs H Q):Xu X f r':=fun a6 s σ H xs us Q I rs q=>h a6 s σ H xs us Q I rs (g _ _ _ q)
def New(H:Hp)(o:HO)(Q:VK):Prop:=∀p H',Same H H'->H p=none->H' p=some o->Q (.ref p) H'
theorem New.at(h:New H o Q)(p:Addr)(hp:H p=none):Q (.ref p) (upd H p o):=h p _ (Same.new hp) hp Zf
def Zy1:R2:=fun x y H Q=>∃l b xs zs,x=.ref l/\y=.ref b/\H l=some (.lst xs)/\H b=some (.lst zs)/\xs.length+zs.length<=sizeLine/\New H (.lst (xs++zs)) Q
theorem Zxq:OpR X (binaryOp .Add) Zy1:=Zza.imp fun x y H Q ⟨l,b,xs,zs,h1,h2,h3,h4,h5,h6⟩=>⟨l,b,xs,zs,h1,h2,h3,h4,h5,fun p hp=>h6.at p hp⟩
def Zyq(K:Frag):V->Option Int->Option Int->Hp->VK->Prop:=fun x lo hi H Q=>∃a xs,x=.ref a/\SqT K H a xs/\¬(HT.sIx xs.length 0 lo=0/\HT.sIx xs.length xs.length hi=xs.length)/\New H (.tup (Zhr xs lo hi)) Q
theorem Zyb:SlR X (Zyq X.K):=Zze.imp fun x l u H Q ⟨a,xs,h1,h2,h3,h4⟩=>⟨a,xs,h1,h2,h3,fun p hp=>h4.at p hp⟩
def Zy6(K:Frag):V->Option Int->Option Int->Hp->VK->Prop:=fun x lo hi H Q=>∃a xs,x=.ref a/\SqL K H a xs/\New H (.lst (Zhr xs lo hi)) Q
theorem Zv0:SlR X (Zy6 X.K):=Zxc.imp fun x l u H Q ⟨a,xs,h1,h2,h4⟩=>⟨a,xs,h1,h2,fun p hp=>h4.at p hp⟩
theorem Zad(mr:List V->Hp->VK->Prop)(M:Mk X.K C f)
  (F:Z2 X.prog X.w X.K X.mg X.base CX k f fd ps sp) (hr:X2 (k+1) X.A) (hg:Gl X x) (hm:X.mg x=some (.ref C)) (hb:Zau X.K fd ps ds) (hd:Yc C4 ds) (hx:Zg6 CX X E)
  (hmr:∀vs H Q,mr vs H Q->∀x dx,H x=none->H dx=none->dx≠x->sp (.ref x ::(vs++C4)) (upd (upd H dx (.own x)) x (.ins C dx [])) (fun v H2=>v=.non/\Q (.ref x) H2) E)
  (ha:PA X (e ::es) t) (R1:(x ==("__debug__" :Str))=false:=by decide) (he:starEach (e ::es) X.env=(false,eval e X.env) ::starEach es X.env:=by rfl) (i4:(backTo pos (starEach es X.env)).any (·.1)=false:=by rfl) :
  PE X (.Call (.Name x p) (e ::es) [] pos) (tCB mr t):=by
 intro a6 s σ H Q I h;refine wpAny_Call_Name_kw (Zjz I hg hm ?_ R1);refine PySem.W.callWith_K (h₀:=X.base) I.ok.mod.kin M.kp (thn (ha pos a6 s σ H _ I h) fun us s1 ⟨vs,H1,I1,r,q⟩=>⟨I1.kIn,?_⟩) he i4;exact Zvu M F hr hb hd hx I1 r (hmr vs H1 Q q)
section
variable {X:Cx} {k:Nat}
theorem Zzt(hu:X.A.units+1<cLine):OpR X (compareOp .In) (fun y x H Q=>∃a o,x=.ref a/\Wc H a y o/\Q (.bl o.isSome) H):=by
 intro a6 s σ H y x v u Q I ry rx h;obtain ⟨a,ov,rfl,g,q⟩:=h;cases rx;exact Yc7 hu I g ry fun s3 I3=>⟨.bl ov.isSome,H,I3,rfl,q⟩
theorem Zt6(hu:X.A.units+1<cLine):OpR X (compareOp .NotIn) (fun y x H Q=>∃a o,x=.ref a/\Wc H a y o/\Q (.bl (!o.isSome)) H):=by
 intro a6 s σ H y x v u Q I ry rx h;obtain ⟨a,ov,rfl,g,q⟩:=h;cases rx;exact Zxi hu I g ry fun s3 I3=>⟨.bl (!ov.isSome),H,I3,rfl,q⟩
theorem W3:OpR X (binaryOp .Add) (fun x y H Q=>rI0 (fun i j=>.int (i+j)) x y H Q\/(∃i j,x=.str i/\y=.str j/\i.length+j.length<=sizeLine/\Q (.str (i++j)) H)\/Zy1 x y H Q):=Yag.or (Zqu.or Zxq)
end
theorem sz(h:n<=1000):n<=sizeLine:=Nat.le_of_lt (Zs h)
structure Zre(K:Frag)(x qual:Str)(st:Stmt)(dV:Value)(f:Addr)(fd:FuncData):Prop where
 ex:∃(oc:Value) (od:Option Addr) (kV k7 pm:Value) (an:Option Addr) (a9 ct:Value) (F3:Array (Option Value)),
  fd=fnOf x qual (Xt st) (Xa st) (Zi st) dV kV k7 pm an a9 ct/\K.lookup f=some ⟨oc,od,.func fd,F3⟩/\codeIn K a9 qual=true
 kp:keepIn K (.ref f)=true
section
variable {P:Program} {w:World} {K:Frag} {mg:Str->Option Value} {base:Heap}
theorem Zre.ok{x qual:Str}{st:Stmt}{dV:Value}{f:Addr}{fd:FuncData}{N ps:List Str}{k:Nat}{sp:Sp}(F:Zre K x qual st dV f fd)(S:Zn N ps (Zi st))(len:∀vs H Q E,sp vs H Q E->vs.length=ps.length)
  (m8:∀(a9:Value) (A:Around) (outer:List Env) (s:Shared) (H:Hp) (vs:List V) (Q:VK) (E:XK),X2 k (A.deeper (envOfC qual (Zi st) s.heap.objs.size f a9))->sp vs H Q E ->
   WSs (Zme CX0 P w K mg base N qual (Zi st) f a9 A outer s H E).nox (Xa st) { nx:=fun _ H'=>Q .non H',rt:=Q } (start N vs) H):Z2 P w K mg base CX0 (k+1) f fd ps sp:=by
 obtain ⟨oc,od,kV,k7,pm,an,a9,ct,F3,rfl,lk,F0⟩:=F.ex;refine Zv9 lk F0 S len fun A outer s H vs Q E hr E1=>?_
 exact ⟨_,PSs.nox Zq,m8 a9 A outer s H vs Q E hr E1⟩
theorem Fun.okW{x qual:Str}{st:Stmt}{f:Addr}{fd:FuncData}{N ps:List Str}{k:Nat}{sp:Sp}(F:Fun K x qual st f fd)(S:Zn N ps (Zi st))
  (m8:∀(a9:Value) (A:Around) (outer:List Env) (s:Shared) (H:Hp) (vs:List V) (Q:VK) (E:XK),X2 k (A.deeper (envOfC qual (Zi st) s.heap.objs.size f a9))->sp vs H Q E ->
   let X:=(Zme CX0 P w K mg base N qual (Zi st) f a9 A outer s H E).nox;WSs X (Xa st) { nx:=fun _ H'=>Q .non H',rt:=Q } (start N vs) H) (len:∀vs H Q E,sp vs H Q E->vs.length=ps.length:=by rintro _ _ _ _ h;repeat (first|(obtain ⟨e,_⟩:=h;subst e;rfl)|obtain ⟨_,h⟩:=h)):Z2 P w K mg base CX0 (k+1) f fd ps sp :=
 F.ok S len fun a9 A outer s H vs Q E hr h=>⟨_,Zq,m8 a9 A outer s H vs Q E hr h⟩
theorem Zsn{x qual:Str}{st:Stmt}{f:Addr}{oc dV:Value}{od an:Option Addr}{F3:Array (Option Value)}{kV k7 pm a9 ct:Value}(l:K.lookup f=some ⟨oc,od,.func (fnOf x qual (Xt st) (Xa st) (Zi st) dV kV k7 pm an a9 ct),F3⟩)
  (c:codeIn K a9 qual=true) (k:keepIn K (.ref f)=true):Zre K x qual st dV f (fnOf x qual (Xt st) (Xa st) (Zi st) dV kV k7 pm an a9 ct):=⟨⟨oc,od,kV,k7,pm,an,a9,ct,F3,rfl,l,c⟩,k⟩
end
structure Dn(K:Frag)(x qual:Str)(st:Stmt)(ps:List Str) where
 f:Addr
 fd:FuncData
 F:Fun K x qual st f fd
 b:Zau K fd ps []
theorem Ye{X:Cx}{y q x:Str}{st:Stmt}{ps:List Str}{d:Dn X.K y q st ps}{sp:Sp}{j k:Nat}{e:Expr}{es:List Expr}{t:TA}{p pos:Pos}(F:Z2 X.prog X.w X.K X.mg X.base CX0 k d.f d.fd ps sp)(hr:X2 j X.A)(hm:X.mg x=some (.ref d.f))(ha:PA X (e ::es) t)(hg:Gl X x:=by rfl)(hj:k<=j:=by decide) (R1:(x ==("__debug__" :Str))=false:=by decide) (he:starEach (e ::es) X.env=(false,eval e X.env) ::starEach es X.env:=by rfl) (i4:(backTo pos (starEach es X.env)).any (·.1)=false:=by rfl):PE X (.Call (.Name x p) (e ::es) [] pos) (Zyx sp [] E0 t):=Zeg F (hr.mono hj) hg hm d.F.kp d.b .nil Z7 ha R1 he i4
theorem Zk8{α:Type}{l:List α}{a:α}(h:l[i]? =some a):l.drop i=a ::l.drop (i+1):=by
 have hi:i<l.length:=by
  rcases Nat.lt_or_ge i l.length with z|z
  ·exact z
  ·rw [List.getElem?_eq_none z] at h;cases h
 rw [List.drop_eq_getElem_cons hi];rw [List.getElem?_eq_getElem hi] at h;rw [Option.some.inj h]
theorem Wg:∀l:List Str,(l.map V.str).all Zfi=true
 | []=>rfl
 | _ ::l=>by rw [List.map_cons,List.all_cons,Wg l];rfl
theorem Xp(x:Str):∀l:List Str,inV (.str x) (l.map V.str)=decide (x∈l)
 | []=>by simp [inV]
 | y ::l=>by
  have ih:=Xp x l;unfold inV at ih ⊢;rw [List.map_cons,List.any_cons,ih,Bool.eq_iff_iff];simp only [eqV,Bool.or_eq_true,beq_iff_eq,decide_eq_true_eq,List.mem_cons]
  constructor
  ·rintro (h|h)
   ·exact .inl h.symm
   ·exact .inr h
  ·rintro (h|h)
   ·exact .inl h.symm
   ·exact .inr h
end L2
end
section
namespace NM
def tA:List Int:=[0,1035609595,1591546621,1776858963,1869515134,207121919,1962171305,454727606,934757567,592286321,1177302783,484597899,2054827476,1896763824,227363803,784868522,1541120607,2082079291,1369884984,958709409,1662393215,867403751,1316040773,418501921,1027413738,1329914572,948381912,913256656,1187423725,1664836201,392434261,1903795744,1844302127,161532633,2114781469,949938980,684942492,1304871617,1553096528,632254608,1904938431,1177567069,1507443699,923030587,1731762210,977450723,1282992784,1986753328,513706869,985311221,664957286,2125682195,474190956,1235096585,456628328,1385409768,1667453686,319569803,1906159924,17552705,1269958954,1073116705,951897872,1004962466]
def tB:List Int:=[0,1073741815,1610612722,1789569691,805306361,214748363,1968526660,766958439,1476394995,2028178983,1181115996,1268967599,984263330,412977621,1457221034,787410664,1811939312,1831677213,2087831306,1412818177,590557998,255652813,1708225614,1820692642,492131665,1331439850,1280230625,676059661,728610517,1369946453,393705332,381005160,905969656,1138817076,1989580421,1871378591,1043915653,1421982403,1780150903,137659207,295278999,1126119464,1201568221,1173624774,854112807,1694125974,910346321,525448122,1319807647,1029915618,665719925,610559071,1713857127,1600483082,1411771645,1971780423,1438047073,1902595145,1758715041,1401324063,196852666,1637016209,190502580,1516873357]
end NM
namespace NM
open PySem L2
def Ze4:List Nat:=[97,98,99,100,101,102,103,104,105,106,107,108,109,110,111,112,113,114,115,116,117,118,119,120,121,122]
theorem Zo1:("abcdefghijklmnopqrstuvwxyz" :Str).cps.toList=Ze4:=by trivial
theorem Zj1:("abcdefghijklmnopqrstuvwxyz" :Str).length=26:=by trivial
def uniq(f:Nat->Str):Nat->List Str
 | 0=>[]
 | n+1=>if f n∈uniq f n then uniq f n else uniq f n++[f n]
end NM
end
section
namespace L2
open PySem PySem.Spec PyProof.Rows
def Ycq:HO->Bool
 | .dK _=>true
 | .dT _=>true
 | _=>false
section
variable {X:Cx} {a6:List (Addr×Obj)} {σ:St} {H:Hp} {s:Shared} {d:Addr} {o:Obj} {u:HO}
theorem HOk.retold(x:HOk P w H h)(hd:H d=some v)(no:∀y,v ≠ .own y)(nt:∀xs,v ≠ .tup xs)(nz:∀o y,v ≠ .frz o (.own y))(new:Yr P w (upd H d v') h d v'):HOk P w (upd H d v') h:=fun b q e=>by
 by_cases hb:b=d
 ·subst hb;rw [Zf] at e;cases e;exact new
 ·rw [Ze hb] at e;refine (x b q e).stay (fun _ _ _ z=>z) (fun c z=>?_) (fun c xs z=>?_) (fun c ob z=>?_)
  ·rw [Ze (fun y=>by subst y;rw [hd] at z;exact no _ (Option.some.inj z))];exact z
  ·rw [Ze (fun y=>by subst y;rw [hd] at z;exact nt _ (Option.some.inj z))];exact z
  ·rw [Ze (fun y=>by subst y;rw [hd] at z;exact nz _ _ (Option.some.inj z))];exact z
theorem Zh2(hd:H d=some v)(no:∀y,v ≠ .own y)(nt:∀xs,v ≠ .tup xs)(nz:∀o y,v ≠ .frz o (.own y))(x:Yr P w H h d u):Yr P w (upd H d v') h d u :=
 x.stay (fun _ _ _ z=>z) (fun c z=>by rw [Ze (fun y=>by subst y;rw [hd] at z;exact no _ (Option.some.inj z))];exact z) (fun c xs z=>by rw [Ze (fun y=>by subst y;rw [hd] at z;exact nt _ (Option.some.inj z))];exact z) (fun c ob z=>by rw [Ze (fun y=>by subst y;rw [hd] at z;exact nz _ _ (Option.some.inj z))];exact z)
theorem Inv.retell(I:Inv X a6 σ H s)(hd:H d=some v)(no:∀y,v ≠ .own y)(nt:∀xs,v ≠ .tup xs)(nz:∀o y,v ≠ .frz o (.own y))(nb:∀ps,v ≠ .tbl ps)(nf:∀o u,X.H₀ d≠some (.frz o u))(new:Yr X.prog X.w (upd H d v') s.heap d v') :
  Inv X a6 σ (upd H d v') s:=by
 have nd:∀b,H b=none->b≠d:=fun b n z=>by subst z;rw [n] at hd;cases hd
 refine ⟨I.ok,I.os,I.bare,?_,I.loc,I.cell,?_,fun x c e=>?_,fun p hp=>?_,I.hok.retold hd no nt nz new,I.len⟩
 ·have b:=I.base;refine ⟨b.keep,b.slot,fun c q e n hx=>?_,b.there,fun c xs e=>?_,fun c ob q e=>?_,fun c ps e=>?_⟩
  ·have z:=b.free c q e n hx;rw [Ze (nd c z)];exact z
  ·have z:=b.tups c xs e;rw [Ze (fun y=>by subst y;rw [hd] at z;exact nt _ (Option.some.inj z))];exact z
  ·have z:=b.frzs c ob q e;rw [Ze (fun y=>by subst y;exact nf _ _ e)];exact z
  ·obtain ⟨m,z⟩:=b.tbls c ps e;exact ⟨m,by rw [Ze (fun y=>by subst y;rw [hd] at z;exact nb _ (Option.some.inj z))];exact z⟩
 ·rw [Ze (nd _ I.free)];exact I.free
 ·rw [Ze (nd _ (I.freeC x c e))];exact I.freeC x c e
 ·obtain ⟨p1,p2,p3⟩:=I.pin p hp;exact ⟨p1,by rw [Ze (nd _ p2)];exact p2,p3⟩
theorem Inv.notFrz(I:Inv X a6 σ H s)(hd:H d=some v)(n:∀o u,v ≠ .frz o u):∀o u,X.H₀ d≠some (.frz o u):=fun o u z=>by
 have:=I.base.frzs d o u z;rw [hd] at this;exact n _ _ (Option.some.inj this)
theorem Inv.freeze(I:Inv X a6 σ H s)(hd:H d=some u)(hu:Ycq u=true)(ho:s.heap.get? d=some o):Inv X a6 σ (upd H d (.frz o u)) s:=by
 have n1:∀y,u ≠ .own y:=fun y z=>by subst z;cases hu
 have n2:∀xs,u ≠ .tup xs:=fun y z=>by subst z;cases hu
 have n3:∀o y,u ≠ .frz o (.own y):=fun o y z=>by subst z;cases hu
 refine I.retell hd n1 n2 n3 (fun y z=>by subst z;cases hu) (I.notFrz hd fun _ _ z=>by subst z;cases hu) ⟨ho,Zh2 hd n1 n2 n3 (I.hok d u hd)⟩
theorem Inv.thaw(I:Inv X a6 σ H s)(hd:H d=some (.frz o u))(nf:∀o u,X.H₀ d≠some (.frz o u))(nu:∀y,u ≠ .own y:=by exact fun _ z=>nomatch z):Inv X a6 σ (upd H d u) s:=by
 obtain ⟨_,q⟩:=I.hok d _ hd;have n3:∀o' y,HO.frz o u ≠ .frz o' (.own y):=fun o' y z=>nu y (HO.frz.inj z).2
 exact I.retell hd (fun _ z=>nomatch z) (fun _ z=>nomatch z) n3 (fun _ z=>nomatch z) nf (Zh2 hd (fun _ z=>nomatch z) (fun _ z=>nomatch z) n3 q)
end
theorem Same.thaw(hd:H d=some u)(h:Same (upd H d (.frz o u)) H'):Same H (upd H' d u):=fun b q e=>by
 by_cases hb:b=d
 ·subst hb;rw [hd] at e;cases e;exact Zf
 ·rw [Ze hb];exact h b q (by rw [Ze hb];exact e)
def Itd(d:Addr)(o:Obj)(kvs:List (Key×V)):It :=
 ⟨fun i H=>H d=some (.frz o (.dK kvs))/\i<kvs.length,fun i H x H'=>H'=H/\∃kv,kvs[i]? =some kv/\x=kV kv.1,fun i H=>H d=some (.frz o (.dK kvs))/\kvs.length<=i⟩
theorem Zuy(h:(Z0 P w).is k u=true):Yj (kV k) u:=by
 rcases Xi (show Zi1 k u=true from h) with ⟨i,t,rfl,rfl⟩|⟨x,t,rfl,rfl⟩
 ·exact ⟨t,rfl⟩
 ·exact ⟨t,rfl⟩
theorem KV.get{kvs:List (Key×V)}{vs:List (Key×Value)}{i:Nat}{kv:Key×V}(r:KV kvs vs)(h:kvs[i]? =some kv):∃u,vs[i]? =some (kv.1,u)/\Yj kv.2 u:=by
 obtain ⟨q,h1,h2,h3⟩:=Paired.get r h;exact ⟨q.2,by rw [h1,h2],h3⟩
theorem Zsw{P:Program}{w:World}{K:Frag}{tg:Expr}{d:Addr}{o:Obj}{kvs:List (Key×V)}{vs:List (Key×Value)}{ep:Nat}(it:Addr)(hk:KV kvs vs)
  (hD:∀h:Heap,h.get? d=some o->h.DictAt (Z0 P w) d vs ep):Zmg P w K tg (Itd d o kvs) [it] it (fun i h=>h.IsKeyIter it d i vs.length ep) where
 mem:=by simp
 obj:=fun i h st b hb=>by
  have e:b=it:=by simpa using hb
  subst e;obtain ⟨ob,e,c,dd⟩:=st;exact ⟨ob,e,fun v z=>by rw [dd] at z;cases z⟩
 keep:=fun i h h' st k=>st.at fun ob e=>k it (by simp) ob e
 item:=by
  intro X hP hw hK hc i a6 s σ H E I hf st hg;subst hP hw hK;obtain ⟨hq,c6⟩:=hg;obtain ⟨f0,f1,f2,f3,f4,f5⟩:=hf it (by simp);have O3:s.heap.get? d=some o:=(I.hok d _ hq).1;obtain ⟨u,hu,_⟩:=hk.get (i:=i) (kv:=kvs[i]) (by simp [c6]);refine wpAny_pyNext_dict_item (knd:=Z0 X.prog X.w) st (hD _ O3) hu fun key h' E8 x0 sb=>?_
  have I1:Inv X a6 σ H { s with heap:=h' }:=I.turned (t':=s.toks) (fun b o hb e=>(sb.2 b hb).trans e) f0 f1 f3 f4 f5;obtain ⟨ob,e,c,dd⟩:=id x0;exact ⟨key,rfl,Zl6 (s:={ s with heap:=h' }) e c dd (by decide) ⟨kV kvs[i].1,H,I1,Zuy E8,⟨rfl,kvs[i],by simp [c6],rfl⟩,x0,fun b hb=>(hf b hb).1⟩⟩
 done:=by
  intro X hP hw hK hc i a6 s σ H E I hf st hg;subst hP hw hK;obtain ⟨hq,B0⟩:=hg;obtain ⟨f0,f1,f2,f3,f4,f5⟩:=hf it (by simp);have O3:s.heap.get? d=some o:=(I.hok d _ hq).1;have hl:=KV.length hk;exact wpAny_pyNext_dict_end (knd:=Z0 X.prog X.w) (I.ok.hd hc) st (hD _ O3) (List.getElem?_eq_none (by lia)) fun h' eb=>⟨rfl,I.turned (t':=s.toks) (fun b o hb e=>eb b o hb e) f0 f1 f3 f4 f5⟩
 self:=fun _ _ _ _ _ st h=>wpAny_pyIter_keyiter st h
def NF(X:Cx)(d:Addr)(u:HO):Prop:=(∀o u,X.H₀ d≠some (.frz o u))/\∀y,u ≠ .own y
def Zg3(X:Cx)(Q:Hp->Prop)(H:Hp):Prop:=∃d o u,H d=some (.frz o u)/\NF X d u/\Q (upd H d u)
theorem Zg3.run{Q:Hp->Prop}(I:Inv X a6 σ H s)(h:Zg3 X Q H):∃H',Inv X a6 σ H' s/\Q H':=by
 obtain ⟨d,o,u,hd,nf,q⟩:=h;exact ⟨_,I.thaw hd nf.1 nf.2,q⟩
def Ycg(X:Cx)(tl:TE):TI:=fun σ H R=>tl σ H fun x H1=>∃d kvs,x=.ref d/\H1 d=some (.dK kvs)/\∀o,NF X d (.dK kvs)->R (Itd d o kvs) (upd H1 d (.frz o (.dK kvs)))
theorem Zf8{P:Program}{w:World}{h:Heap}{d:Addr}{o:Obj}{vs:List (Key×Value)}(x:h.DictOf (Z0 P w) d vs)(ho:h.get? d=some o):∃ep,∀h':Heap,h'.get? d=some o->h'.DictAt (Z0 P w) d vs ep:=by
 obtain ⟨o',es,ep,e,r⟩:=x;rw [ho] at e;cases e;exact ⟨ep,fun h' e'=>⟨o,es,e',r⟩⟩
theorem Zw6{X:Cx}{tg l:Expr}{tl:TE}(hl:PE X l tl):PI X tg l (Ycg X tl):=by
 intro a6 s σ H R I h;refine thn (hl a6 s σ H _ I h) fun v s1 ⟨y,H1,I1,r1,q1⟩=>?_
 obtain ⟨d,kvs,rfl,hd,q⟩:=q1;cases r1;obtain ⟨hz,hs,vs,kv,dd⟩:=Zi9 I1.hok hd;obtain ⟨o,_,_,ho,_⟩:=id dd;obtain ⟨ep,hD⟩:=Zf8 dd ho;have I2:=I1.freeze hd rfl ho;refine wpAny_pyIter_dict (knd:=Z0 X.prog X.w) hs (hD _ ho) ?_;have I3:Inv X a6 σ (upd H1 d (.frz o (.dK kvs))) { s1 with heap:=s1.heap.push { cls:=.type "dict_keyiterator",data:=.fields #[.ref d,.int 0 0,.int vs.length 0,.int ep 0] } }:=I2.kept (t':=s1.toks) fun b o e=>Heap.get?_push_of_some _ e
 refine ⟨s1.heap.objs.size,[s1.heap.objs.size],_,_,_,rfl,I3,Zsw _ kv hD,⟨_,Heap.get?_push_size _ rfl,rfl,rfl⟩,fun b hb=>?_,q o ⟨I1.notFrz hd (fun _ _ z=>nomatch z),fun _ z=>nomatch z⟩⟩;have e:b=s1.heap.objs.size:=by simpa using hb
 subst e;exact I2.fpOk (Nat.le_refl _) (I2.hok.fresh (Nat.le_refl _))
def Ybj(X:Cx)(t:TS):TS:=fun D σ H=>t { nx:=fun σ'=>Zg3 X (D.nx σ'),rt:=fun v=>Zg3 X (D.rt v),bk:=fun σ'=>Zg3 X (D.bk σ'),ct:=fun σ'=>Zg3 X (D.ct σ') } σ H
theorem Zpa{X:Cx}{st:Stmt}{t:TS}(h:PS X st t):PS X st (Ybj X t):=by
 intro a6 s σ H D I hq;refine thn (h a6 s σ H _ I hq) fun f s' z=>?_
 cases f with
 | next=>obtain ⟨σ',H',I',q⟩:=z;obtain ⟨H2,I2,q2⟩:=q.run I';exact ⟨σ',H2,I2,q2⟩
 | brk=>obtain ⟨σ',H',I',q⟩:=z;obtain ⟨H2,I2,q2⟩:=q.run I';exact ⟨σ',H2,I2,q2⟩
 | cont=>obtain ⟨σ',H',I',q⟩:=z;obtain ⟨H2,I2,q2⟩:=q.run I';exact ⟨σ',H2,I2,q2⟩
 | ret u=>obtain ⟨v,σ',H',I',r,q⟩:=z;obtain ⟨H2,I2,q2⟩:=q.run I';exact ⟨v,σ',H2,I2,r,q2⟩
def Yat(X:Cx)(t:TE):TE:=fun σ H Q=>t σ H fun v=>Zg3 X (Q v)
theorem Zxm(h:PE X e t):PE X e (Yat X t):=by
 intro a6 s σ H Q I hq;refine thn (h a6 s σ H _ I hq) fun u s' ⟨v,H',I',r,q⟩=>?_
 obtain ⟨H2,I2,q2⟩:=q.run I';exact ⟨v,H2,I2,r,q2⟩
theorem Zuo{d:Addr}{o:Obj}{kvs:List (Key×V)}{g:TG}{tb:TS}{D:Zh3}{σ:St}{H:Hp}(Pv:Nat->St->Hp->Prop)(h0:Pv 0 σ H)(hl:∀i σ H,i<=kvs.length->Pv i σ H->H d=some (.frz o (.dK kvs)))
  (hs:∀i kv σ H,kvs[i]? =some kv->Pv i σ H->g (kV kv.1) σ H fun σ2 H2=>tb { D with nx:=Pv (i+1),ct:=Pv (i+1),bk:=D.nx } σ2 H2) (hd:∀σ H,Pv kvs.length σ H->D.nx σ H) :
  ∃W:Nat->Nat->St->Hp->Prop,(∃m,W 0 m σ H)/\∀i m σ H,W i m σ H ->
   ((Itd d o kvs).stop i H/\D.nx σ H)\/((Itd d o kvs).go i H/\∃N:St->Hp->Prop,(∀σ' H',N σ' H'->∃m',m'<m/\W (i+1) m' σ' H')/\∀x H',(Itd d o kvs).yld i H x H'->g x σ H' fun σ2 H2=>tb { D with nx:=N,ct:=N,bk:=D.nx } σ2 H2):=by
 refine ⟨fun i m σ H=>m=kvs.length-i/\i<=kvs.length/\Pv i σ H,⟨kvs.length,by simp,Nat.zero_le _,h0⟩,?_⟩;rintro i m σ H ⟨rfl,hi,p⟩;have q:=hl i σ H hi p
 by_cases c6:i<kvs.length
 ·refine .inr ⟨⟨q,c6⟩,Pv (i+1),fun σ' H' p'=>⟨kvs.length-(i+1),by lia,rfl,c6,p'⟩,fun x H' y=>?_⟩;obtain ⟨e,kv,y9,ex⟩:=y;subst e ex;exact hs i kv σ _ y9 p
 ·have e:i=kvs.length:=by lia
  subst e;exact .inl ⟨⟨q,Nat.le_refl _⟩,hd σ H p⟩
section
variable {X:Cx} {a6:List (Addr×Obj)} {σ:St} {H:Hp} {s:Shared}
theorem Inv.turnedNew{ch:List Addr}{o:HO}{h':Heap}{t':Nat}(I:Inv X a6 σ H s)(hf:∀b∈ch,Zju X a6 H b)(k:∀b u,b∉ch->s.heap.get? b=some u->h'.get? b=some u)
  (new:Yr X.prog X.w (upd H s.heap.objs.size o) h' s.heap.objs.size o):Inv X a6 σ (upd H s.heap.objs.size o) { s with heap:=h',toks:=t' }:=by
 have hn:H s.heap.objs.size=none:=I.fresh;have r6:∀b u,s.heap.get? b=some u->b≠s.heap.objs.size:=fun b u e=>Nat.ne_of_lt (Heap.lt_size e)
 have trk:∀b u,H b=some u->b∉ch:=fun b u e z=>by rw [(hf b z).1] at e;cases e
 refine I.step (g':=s.gens) (d':=s.drawn) (ch:=ch) (fun b hb=>?_) (fun b o _ _ hc e _=>k b o hc e) (fun b o _ _ hc e _=>⟨o.slots,k b o hc e⟩) (fun b o _ e n=>by rw [Ze (r6 b o e)];exact n)
  (fun b o hc e=>⟨o,k b o hc e⟩) (fun b xs e=>by rw [Ze (Zh e hn)];exact e) (fun b ob u e=>by rw [Ze (Zh e hn)];exact e) (fun b ps e=>⟨#[],by rw [Ze (Zh e hn),e];simp⟩) (fun m hm=>?_) (fun b u e=>?_) I.bare
 ·obtain ⟨f0,f1,f2,f3,f4,f5⟩:=hf b hb;exact ⟨f3,f1,f4,f5⟩
 ·obtain ⟨ob,es,ep,ho,r⟩:=hm;exact ⟨ob,es,ep,k _ ob (fun z=>(hf _ z).2.1 rfl) ho,r⟩
 ·by_cases hb:b=s.heap.objs.size
  ·subst hb;rw [Zf] at e;cases e;exact new
  ·rw [Ze hb] at e;refine (I.hok b u e).stay (fun c v hc q=>k c v ?_ q) (fun c q=>by rw [Ze (Zh q hn)];exact q) fun c xs q=>by rw [Ze (Zh q hn)];exact q
   rcases hc with z|z
   ·rw [z];exact trk b u e
   ·exact trk c _ z
end
def Ite(K:Frag)(l:Addr):It :=
 ⟨fun i H=>∃xs x,SqL K H l xs/\xs[i]? =some x,fun i H x H'=>∃p y,x=.ref p/\H p=none/\H'=upd H p (.tup [.int (i:Nat),y])/\∀xs,SqL K H l xs->xs[i]? =some y,fun i H=>∃xs,SqL K H l xs/\xs.length<=i⟩
theorem Zs5{P:Program}{w:World}{K:Frag}{J8:List Expr}{x1:Nat}{pos:Pos}{l:Addr}(e it:Addr)(m6:e≠it) :
  Zmg P w K (.Tuple J8 x1 pos) (Ite K l) [e,it] e (fun i h=>(∃r6,IsEnum h e it (i:Nat) r6)/\h.IsListIter it l i) where
 mem:=by simp
 obj:=fun i h st b hb=>by
  obtain ⟨⟨r6,he⟩,hi⟩:=st;rcases List.mem_cons.mp hb with rfl|hb
  ·exact ⟨_,he,fun v z=>nomatch z⟩
  ·have q:b=it:=by simpa using hb
   subst q;obtain ⟨o,e,c,d⟩:=hi;exact ⟨o,e,fun v z=>by rw [d] at z;cases z⟩
 keep:=fun i h h' st k=>by
  obtain ⟨⟨r6,he⟩,hi⟩:=st;exact ⟨⟨r6,k e (by simp) _ he⟩,hi.at fun o q=>k it (by simp) o q⟩
 item:=by
  intro X hP hw hK hc i a6 s σ H E I hf st hg;subst hP hw hK;obtain ⟨⟨r6,he⟩,hi⟩:=st;obtain ⟨xs,x,hq,hx⟩:=hg;obtain ⟨a7,rv,p,hz⟩:=I.list hq;obtain ⟨u,hu,ru⟩:=rv.get hx;refine wpAny_pyNext_enum_item he hi p.isList (x:=u) (by simpa using hu) m6 fun h' ho hi' ht hsz kk=>?_
  refine ⟨_,rfl,wpAny_letOwnedTupleGo_enum ho fun h2 he2 sb=>?_⟩;have hel:e<s.heap.objs.size:=Heap.lt_size he;have R8:it<s.heap.objs.size:=let ⟨o,q,_⟩:=hi;Heap.lt_size q;have k2:∀b v,b∉[e,it]->s.heap.get? b=some v->h2.get? b=some v:=fun b v hb q=>by
   have b1:b≠e:=fun z=>hb (by simp [z])
   have b2:b≠it:=fun z=>hb (by simp [z])
   exact (sb.2 b b1).trans (kk b v b1 b2 q)
  have htup:h2.get? s.heap.objs.size=some { cls:=.type "tuple",data:=.seq #[.int i s.toks,u] }:=(sb.2 _ (Nat.ne_of_gt hel)).trans ht;have new:Yr X.prog X.w (upd H s.heap.objs.size (.tup [.int (i:Nat),x])) h2 s.heap.objs.size (.tup [.int (i:Nat),x]) :=
   ⟨sz (by simp),[.int i s.toks,u],.cons ⟨_,rfl⟩ (.cons ru .nil),⟨_,htup,rfl,_,rfl⟩⟩
  refine ⟨.ref s.heap.objs.size,_,I.turnedNew (t':=s.toks+1) hf k2 new,rfl,⟨_,x,rfl,I.fresh,rfl,fun ys hy=>by rw [I.list_inj hy hq];exact hx⟩,⟨⟨_,he2⟩,?_⟩,fun b hb=>?_⟩
  ·exact hi'.at fun o q=>(sb.2 it m6.symm).trans q
  ·rw [Ze ?_]
   ·exact (hf b hb).1
   ·rcases List.mem_cons.mp hb with rfl|hb
    ·exact Nat.ne_of_lt hel
    ·have q:b=it:=by simpa using hb
     subst q;exact Nat.ne_of_lt R8
 done:=by
  intro X hP hw hK hc i a6 s σ H E I hf st hg;subst hP hw hK;obtain ⟨⟨r6,he⟩,hi⟩:=st;obtain ⟨xs,hq,hx⟩:=hg;obtain ⟨a7,rv,p,hz⟩:=I.list hq;obtain ⟨f0,f1,f2,f3,f4,f5⟩:=hf it (by simp);have hl:=rv.length;exact wpAny_pyNext_enum_end (I.ok.hd hc) he hi p.isList (by simp;lia) fun h' eb=>⟨rfl,I.turned (t':=s.toks) (fun b o hb e=>eb b o hb e) f0 f1 f3 f4 f5⟩
 self:=fun _ _ _ _ _ st h=>by
  obtain ⟨⟨r6,he⟩,_⟩:=st;exact wpAny_pyIter_enum he h
def Ya5(K:Frag)(ta:TA):TI:=fun σ H R=>ta σ H fun vs H1=>∃l,vs=[.ref l]/\(∃xs,SqL K H1 l xs)/\R (Ite K l) H1
theorem Zka{X:Cx}{J8:List Expr}{x1:Nat}{R0:Pos}{a:Expr}{ta:TA}{p pos:Pos} (hg:Gl X "enumerate") (hm:X.mg "enumerate" =none) (ha:PA X [a] ta) (hs:starEach [a] X.env=[(false,eval a X.env)]:=by rfl) :
  PI X (.Tuple J8 x1 R0) (.Call (.Name "enumerate" p) [a] [] pos) (Ya5 X.K ta):=by
 intro a6 s σ H R I h;refine Call_ (Zfr I hg hm boot_enumerate (PyProof.Rows.callWith_type1 (thn (ha pos a6 s σ H _ I h) fun us s1 ⟨vs,H1,I1,r1,q1⟩=>?_) hs rfl));obtain ⟨l,e,⟨xs,hq⟩,q⟩:=q1;subst e;obtain ⟨u,rfl,ru⟩:=Zaz r1;cases ru;obtain ⟨a7,rv,pl,hz⟩:=I1.list hq;refine call_enumerate_list pl.isList fun h' he hi hsz kk=>wpAny_pyIter_enum he ?_
 have I2:Inv X a6 σ H1 { s1 with heap:=h' }:=I1.kept (t':=s1.toks) kk;refine ⟨s1.heap.objs.size+1,[s1.heap.objs.size+1,s1.heap.objs.size],_,_,H1,rfl,I2,Zs5 _ _ (Nat.succ_ne_self _),⟨⟨_,he⟩,hi⟩,fun b hb=>?_,q⟩;rcases List.mem_cons.mp hb with rfl|hb
 ·exact I1.fpOk (Nat.le_succ _) (I1.hok.fresh (Nat.le_succ _))
 ·have e:b=s1.heap.objs.size:=by simpa using hb
  subst e;exact I1.fpOk (Nat.le_refl _) (I1.hok.fresh (Nat.le_refl _))
theorem Zhz{K:Frag}{l:Addr}{xs:List V}{g:TG}{tb:TS}{D:Zh3}{σ:St}{H:Hp}(Pv:Nat->St->Hp->Prop)(h0:Pv 0 σ H)(hl:∀i σ H,i<=xs.length->Pv i σ H->SqL K H l xs)
  (hs:∀i x σ H,xs[i]? =some x->Pv i σ H->∀p H1,Same H H1->H p=none->H1 p=some (.tup [.int (i:Nat),x])->g (.ref p) σ H1 fun σ2 H2=>tb { D with nx:=Pv (i+1),ct:=Pv (i+1),bk:=D.nx } σ2 H2) (hd:∀σ H,Pv xs.length σ H->D.nx σ H) :
  ∃W:Nat->Nat->St->Hp->Prop,(∃m,W 0 m σ H)/\∀i m σ H,W i m σ H ->
   ((Ite K l).stop i H/\D.nx σ H)\/((Ite K l).go i H/\∃N:St->Hp->Prop,(∀σ' H',N σ' H'->∃m',m'<m/\W (i+1) m' σ' H')/\∀x H',(Ite K l).yld i H x H'->g x σ H' fun σ2 H2=>tb { D with nx:=N,ct:=N,bk:=D.nx } σ2 H2):=by
 refine ⟨fun i m σ H=>m=xs.length-i/\i<=xs.length/\Pv i σ H,⟨xs.length,by simp,Nat.zero_le _,h0⟩,?_⟩;rintro i m σ H ⟨rfl,hi,p⟩;have q:=hl i σ H hi p
 by_cases c6:i<xs.length
 ·refine .inr ⟨⟨xs,xs[i],q,by simp [c6]⟩,Pv (i+1),fun σ' H' p'=>⟨xs.length-(i+1),by lia,rfl,c6,p'⟩,fun x H' y=>?_⟩;obtain ⟨a,y,e,hn,e2,hy⟩:=y;subst e e2;exact hs i y σ H (hy xs q) p a _ (Same.new hn) hn Zf
 ·have e:i=xs.length:=by lia
  subst e;exact .inl ⟨⟨xs,q,Nat.le_refl _⟩,hd σ H p⟩
def Iti(d:Addr)(o:Obj)(kvs:List (Key×V)):It :=
 ⟨fun i H=>H d=some (.frz o (.dK kvs))/\i<kvs.length,fun i H x H'=>∃p kv,x=.ref p/\H p=none/\kvs[i]? =some kv/\H'=upd H p (.tup [kV kv.1,kv.2]),fun i H=>H d=some (.frz o (.dK kvs))/\kvs.length<=i⟩
theorem Zrw{P:Program}{w:World}{K:Frag}{J8:List Expr}{x1:Nat}{pos:Pos}{d:Addr}{o:Obj}{kvs:List (Key×V)}{vs:List (Key×Value)}{ep:Nat}(it:Addr)(hk:KV kvs vs)
  (hD:∀h:Heap,h.get? d=some o->h.DictAt (Z0 P w) d vs ep):Zmg P w K (.Tuple J8 x1 pos) (Iti d o kvs) [it] it (fun i h=>∃ok ov,IsItemIter h it d i vs.length ep ok ov) where
 mem:=by simp
 obj:=fun i h st b hb=>by
  have e:b=it:=by simpa using hb
  subst e;obtain ⟨ok,ov,e⟩:=st;exact ⟨_,e,fun v z=>nomatch z⟩
 keep:=fun i h h' st k=>by
  obtain ⟨ok,ov,e⟩:=st;exact ⟨ok,ov,k it (by simp) _ e⟩
 item:=by
  intro X hP hw hK hc i a6 s σ H E I hf st hg;subst hP hw hK;obtain ⟨ok,ov,hi⟩:=st;obtain ⟨hq,c6⟩:=hg;have O3:s.heap.get? d=some o:=(I.hok d _ hq).1;obtain ⟨u,hu,ru⟩:=hk.get (i:=i) (kv:=kvs[i]) (by simp [c6]);refine wpAny_pyNext_items_item (knd:=Z0 X.prog X.w) hi (hD _ O3) hu fun key h' E8 ho ht hsz kk=>?_
  refine ⟨_,rfl,wpAny_letOwnedTupleGo_items ho fun h2 he2 sb=>?_⟩;have hel:it<s.heap.objs.size:=Heap.lt_size hi;have k2:∀b v,b∉[it]->s.heap.get? b=some v->h2.get? b=some v:=fun b v hb q=>by
   have b1:b≠it:=fun z=>hb (by simp [z])
   exact (sb.2 b b1).trans (kk b v b1 q)
  have htup:h2.get? s.heap.objs.size=some { cls:=.type "tuple",data:=.seq #[key,u] }:=(sb.2 _ (Nat.ne_of_gt hel)).trans ht;have new:Yr X.prog X.w (upd H s.heap.objs.size (.tup [kV kvs[i].1,kvs[i].2])) h2 s.heap.objs.size (.tup [kV kvs[i].1,kvs[i].2]) :=
   ⟨sz (by simp),[key,u],.cons (Zuy E8) (.cons ru .nil),⟨_,htup,rfl,_,rfl⟩⟩
  refine ⟨.ref s.heap.objs.size,_,I.turnedNew (t':=s.toks) hf k2 new,rfl,⟨_,kvs[i],rfl,I.fresh,by simp [c6],rfl⟩,⟨_,_,he2⟩,fun b hb=>?_⟩;have e:b=it:=by simpa using hb
  subst e;rw [Ze (Nat.ne_of_lt hel)];exact (hf _ hb).1
 done:=by
  intro X hP hw hK hc i a6 s σ H E I hf st hg;subst hP hw hK;obtain ⟨ok,ov,hi⟩:=st;obtain ⟨hq,B0⟩:=hg;obtain ⟨f0,f1,f2,f3,f4,f5⟩:=hf it (by simp);have O3:s.heap.get? d=some o:=(I.hok d _ hq).1;have hl:=KV.length hk;exact wpAny_pyNext_items_end (knd:=Z0 X.prog X.w) (I.ok.hd hc) hi (hD _ O3) (List.getElem?_eq_none (by lia)) fun h' eb=>⟨rfl,I.turned (t':=s.toks) (fun b o hb e=>eb b o hb e) f0 f1 f3 f4 f5⟩
 self:=fun _ _ _ _ _ st h=>by
  obtain ⟨ok,ov,hi⟩:=st;exact PySem.W.kcp_self hi h
def Yaw(X:Cx)(tl:TE):TI:=fun σ H R=>tl σ H fun x H1=>∃d kvs,x=.ref d/\H1 d=some (.dK kvs)/\∀o,NF X d (.dK kvs)->R (Iti d o kvs) (upd H1 d (.frz o (.dK kvs)))
theorem Zpr{X:Cx}{J8:List Expr}{x1:Nat}{R0 c7 d7:Pos}{o:Expr}{to:TE}(ho:PE X o to) (u0:attributeBase o "items" X.env (eval o X.env)=eval o X.env:=by rfl) (u6:(c7.endLine ==d7.line)=true:=by rfl) :
  PI X (.Tuple J8 x1 R0) (.Call (.Attribute o "items" c7) [] [] d7) (Yaw X to):=by
 intro a6 s σ H R I h;refine wpAny_Call_method0_late u0 u6 (thn (ho a6 s σ H _ I h) fun v s1 ⟨y,H1,I1,r1,q1⟩=>?_);obtain ⟨d,kvs,rfl,hd,q⟩:=q1;cases r1;obtain ⟨hz,hs,vs,kv,dd⟩:=Zi9 I1.hok hd;obtain ⟨ob,_,_,C8,hex,_⟩:=id dd;obtain ⟨ep,hD⟩:=Zf8 dd C8;refine ⟨"dict", "dict.items",PySem.F.plainAttrs_dict,PySem.F.slot_dict_items,PySem.F.type_dict_items,dd.typeIs,fun a e=>?_,Calls.callWith_builtin rfl (PySem.evalArgs_none ?_)⟩
 ·cases e;exact ⟨ob,C8,hex.2.1⟩
 refine call_meetsIn PySem.F.slot_dict_items dd.typeIs PySem.F.entry_dict_items (PySem.F.args_dict_items_1 _) (meets_dict_items (Z0 X.prog X.w) d hs) ⟨⟨vs,dd⟩,?_⟩;have I2:=I1.freeze hd rfl C8;have I3:Inv X a6 σ (upd H1 d (.frz ob (.dK kvs))) { s1 with heap:=s1.heap.push { cls:=.type "dict_items",data:=.fields #[.ref d] } }:=I2.kept (t':=s1.toks) fun b o e=>Heap.get?_push_of_some _ e
 refine wpAny_pyIter_items (knd:=Z0 X.prog X.w) (d:=d) ⟨_,Heap.get?_push_size _ rfl,rfl,rfl⟩ (hD _ (Heap.get?_push_of_some _ C8)) ?_;refine ⟨_,[_],_,_,_,rfl,I3.kept (t':=s1.toks) fun b o e=>Heap.get?_push_of_some _ e,Zrw _ kv hD,⟨_,_,Heap.get?_push_size _ rfl⟩,fun b hb=>?_,q ob ⟨I1.notFrz hd (fun _ _ z=>nomatch z),fun _ z=>nomatch z⟩⟩;have e:=List.mem_singleton.mp hb;subst e;exact I3.fpOk (Nat.le_refl _) (I3.hok.fresh (Nat.le_refl _))
theorem Zt5{d:Addr}{o:Obj}{kvs:List (Key×V)}{g:TG}{tb:TS}{D:Zh3}{σ:St}{H:Hp}(Pv:Nat->St->Hp->Prop)(h0:Pv 0 σ H)(hl:∀i σ H,i<=kvs.length->Pv i σ H->H d=some (.frz o (.dK kvs)))
  (hs:∀i kv σ H,kvs[i]? =some kv->Pv i σ H->∀p H1,Same H H1->H p=none->H1 p=some (.tup [kV kv.1,kv.2])->g (.ref p) σ H1 fun σ2 H2=>tb { D with nx:=Pv (i+1),ct:=Pv (i+1),bk:=D.nx } σ2 H2) (hd:∀σ H,Pv kvs.length σ H->D.nx σ H) :
  ∃W:Nat->Nat->St->Hp->Prop,(∃m,W 0 m σ H)/\∀i m σ H,W i m σ H ->
   ((Iti d o kvs).stop i H/\D.nx σ H)\/((Iti d o kvs).go i H/\∃N:St->Hp->Prop,(∀σ' H',N σ' H'->∃m',m'<m/\W (i+1) m' σ' H')/\∀x H',(Iti d o kvs).yld i H x H'->g x σ H' fun σ2 H2=>tb { D with nx:=N,ct:=N,bk:=D.nx } σ2 H2):=by
 refine ⟨fun i m σ H=>m=kvs.length-i/\i<=kvs.length/\Pv i σ H,⟨kvs.length,by simp,Nat.zero_le _,h0⟩,?_⟩;rintro i m σ H ⟨rfl,hi,p⟩;have q:=hl i σ H hi p
 by_cases c6:i<kvs.length
 ·refine .inr ⟨⟨q,c6⟩,Pv (i+1),fun σ' H' p'=>⟨kvs.length-(i+1),by lia,rfl,c6,p'⟩,fun x H' y=>?_⟩;obtain ⟨a,kv,e,hn,y9,e2⟩:=y;subst e e2;exact hs i kv σ H y9 p a _ (Same.new hn) hn Zf
 ·have e:i=kvs.length:=by lia
  subst e;exact .inl ⟨⟨q,Nat.le_refl _⟩,hd σ H p⟩
def Znv(K:Frag)(H:Hp)(x y:V):Prop:=(Zfi x=true/\Zfi y=true/\eqV x y=true)\/∃n t,n<=60/\Im K H n t x/\Im K H n t y
theorem Znv.eqAt(I:Inv X a6 σ H s)(h:Znv X.K H x y)(rx:Yj x u)(ry:Yj y v)(hu:A.units+60<cLine):SeqAt.EqAt A s u v true:=by
 rcases h with ⟨f1,f2,e⟩|⟨n,t,hn,i1,i2⟩
 ·exact Yk (Zk0 rx ry f1 f2) e
 ·exact Yk (Im.eqAt I n A i1 i2 rx ry (by lia)) (decide_eq_true rfl)
def Ya7(K:Frag):R2:=fun x y H Q=>∃a b ka kb,x=.ref a/\y=.ref b/\Rd H a (.dK ka)/\Rd H b (.dK kb)/\ka.length=kb.length/\(∀kv∈ka,∃v,Yy kb kv.1=some v/\Znv K H kv.2 v)/\Q (.bl true) H
theorem Yak(hu:X.A.units+64<cLine):OpR X (compareOp .Eq) (Ya7 X.K):=by
 intro a6 s σ H x y v u Q I rx ry h;obtain ⟨a,b,ka,kb,rfl,rfl,ha,hb,hl,i9,q⟩:=h;cases rx;cases ry;obtain ⟨_,sa,va,ra,da⟩:=Zb1 I.hok ha;obtain ⟨_,sb,vb,rb,db⟩:=Zb1 I.hok hb;have la:=KV.length ra;have lb:=KV.length rb;have hits:∀{ka':List (Key×V)} {va':List (Key×Value)},KV ka' va'->(∀kv∈ka',∃v,Yy kb kv.1=some v/\Znv X.K H kv.2 v)->PySem.W.KeqHits X.A.in1 s vb va' true:=by
  intro ka' va' r
  induction r with
  | nil=>intro _;exact .nil
  | cons r t ih =>
   rename_i p q l m;intro hv;obtain ⟨e1,r2⟩:=r;obtain ⟨v,hv1,hv2⟩:=hv p List.mem_cons_self;have F4:=KV.val rb p.1;rw [hv1] at F4;obtain ⟨y,hy,ry⟩:=Zdh.some_of F4;rw [e1] at hy;have:=PySem.W.KeqHits.hit (k:=q.1) (v:=q.2) hy (hv2.eqAt (A:=X.A.in1) I r2 ry (by rw [Wm];lia)) (ih fun kv y9=>hv kv (List.mem_cons_of_mem _ y9));simpa using this
 refine PySem.W.keq_eq (knd:=Z0 X.prog X.w) sa sb da db (by lia) (fun _=>hits ra i9) ⟨.bl true,H,I,?_,q⟩;rw [show (va.length ==vb.length)=true by rw [<-la,<-lb,hl];simp]
 rfl
def Y7(K:Frag):R2:=fun x y H Q=>rEq x y H Q\/Zx2 K false x y H Q\/Ya7 K x y H Q
def Zbi(K:Frag):List V->Hp->VK->Prop:=fun xs H Q=>(∃p ys,xs=[.ref p]/\(SqL K H p ys\/SqT K H p ys)/\Q (.int ys.length) H)\/(∃z,xs=[.str z]/\z.length<=sizeLine/\Q (.int z.length) H)\/∃a kvs,xs=[V.ref a]/\H a=some (.dK kvs)/\Q (.int kvs.length) H
def Zmo(K:Frag):V->Option Int->Option Int->Hp->VK->Prop:=fun x lo hi H Q=>Zyq K x lo hi H Q\/Zy6 K x lo hi H Q\/Ycp x lo hi H Q
section
variable {X:Cx} {k:Nat}
theorem Xc(hr:X2 k X.A):OpR X (compareOp .Eq) (Y7 X.K):=Ycb.or ((Yan hr.units).or (Yak hr.units))
theorem Zbz:Xu X (.builtin "len") (Zbi X.K):=Zo7.or (Zob.or Ztc)
theorem Zot:SlR X (Zmo X.K):=Zyb.or (Zv0.or Yap)
def Zvw(K:Frag):List V->Hp->VK->Prop:=fun xs H Q=>∃p ys,xs=[.ref p]/\(SqL K H p ys\/SqT K H p ys)/\New H (.lst ys) Q
theorem Zku:Xu X (.type "list") (Zvw X.K):=Zop.imp fun xs H Q ⟨p,ys,h1,h2,h3⟩=>⟨p,ys,h1,h2,fun l hl=>h3.at l hl⟩
def Zy0:List V->Hp->VK->Prop:=fun xs H Q=>∃p kvs,xs=[.ref p]/\Rd H p (.dK kvs)/\New H (.dK kvs) Q
theorem Zrc:Xu X (.type "dict") Zy0:=by
 intro a6 s σ H xs us Q I r h;obtain ⟨p,kvs,rfl,hd,q⟩:=h;obtain ⟨u,rfl,ru⟩:=Zaz r;cases ru;exact Zu5 I hd fun a s' hn I'=>⟨.ref a,_,I',rfl,q.at a hn⟩
def Zyg:TE:=fun _ H Q=>New H (.dK []) Q
theorem Zb8:PE X (.Dict [] [] pos) Zyg:=fun a6 s σ H Q I h=>Zwb a6 s σ H Q I fun p hp=>h.at p hp
def Zx4:TE:=fun _ H Q=>New H (.dT []) Q
theorem Znf:PE X (.Dict [] [] pos) Zx4:=fun a6 s σ H Q I h=>Zuw a6 s σ H Q I fun p hp=>h.at p hp
def Ybx(K:Frag):List V->Hp->VK->Prop:=fun xs H Q=>∃(p:Addr) (bs:List Bool),xs=[.ref p]/\SqL K H p (bs.map V.bl)/\Q (.bl (bs.all id)) H
theorem Ztl(hc:X.calm=true):Xu X (.builtin "all") (Ybx X.K):=Zke hc
def Zjq(K:Frag):List V->Hp->VK->Prop:=fun xs H Q=>∃x c b t,xs=[x,c]/\Xy K H x t/\((∃n,c=.ty n/\kitOne K t (.type n)=some b)\/∃a,c=.ref a/\kitOne K t (.ref a)=some b)/\Q (.bl b) H
theorem Wh:Xu X (.builtin "isinstance") (Zjq X.K):=Zpt
end
theorem Zba{fr:St->St}
  (hN:X.N.Nodup) (hi':X.N[i]? =some y) (hy:Loc X.env.scope y) (hc:X.calm=true) (S:Z6 X scope cl N' fr) (hi:PI X tg m7 wi) (hg:∀s H C ex,PG (Xo X scope cl N' s H C ex) tg g) (hf:∀s H C ex,PF (Xo X scope cl N' s H C ex) N0 tf)
  (he:∀s H C ex,PE (Xo X scope cl N' s H C ex) R6 te) (hs:∀x,foldedSetIterable m7 X.env x=pure x:=by intro _;rfl)
  (hsw:swapsWith (.ListComp R6 [⟨tg,m7,N0,0⟩] scope pos) (some (.Name y py)) spos.line X.env=pure true:=by rfl) (E3:X.fn y=true\/X.env.scope.names.lookup y=some .local:=by first | exact .inl rfl | exact .inr rfl | assumption) :
  PS X (.Assign [.Name y py] (.ListComp R6 [⟨tg,m7,N0,0⟩] scope pos) spos) (Zyc (Zyt wi fr g tf te) (Ze1 i)):=by
 intro a6 s σ H D I h;rw [exec_Assign_Name_used _ _ _ _ hsw];refine wpAny_bind (wpAny_standAt (wpAny_bind ?_));show wpAny _ X.A (do let _ <-comprehension (.ListComp R6 [⟨tg,m7,N0,0⟩] scope pos) scope X.env _ (newList []) false (eval m7 X.env) (some (assign (.Name y py) X.env))) _ _ s;refine wpAny_bind (wpAny_mono (wpAny_comprehension_free (use:=some (assign (.Name y py) X.env)) (Q:=fun _ s'=>∃σ' H',Inv X a6 σ' H' s'/\D.nx σ' H') rfl hs S.clos S.kind S.names (thn (hi a6 s σ H _ I h) fun v s1 h1=>thn h1 fun itv s2 h2=>?_)) (fun _ s' hq=>wpAny_pure (wpAny_pure hq)) fun _ _ e=>e);obtain ⟨it,fp,tn,J,H2,e,I2,T,O2,f2,q⟩:=h2;subst e;refine wpAny_newObj_type (wpAny_newFunctionEnv S.cell (by intro y hy;simp at hy) (fun h₁ E7 y8=>?_) S.kind);dsimp only at E7 y8 ⊢;generalize hP:s2.heap.push { cls:=.type "list",dict:=none,data:=.seq ([]:List Value).toArray }=P at E7 y8 ⊢;have hPz:P.objs.size=s2.heap.objs.size+1:=by rw [<-hP,Heap.size_push]
 have R7:s2.heap.objs.size<P.objs.size:=by rw [hPz];exact Nat.lt_succ_self _
 have T7:∀b∈fp,∃o,s2.heap.get? b=some o:=fun b hb=>let ⟨o,e,_⟩:=T.obj _ _ O2 b hb;⟨o,e⟩
 have D6:∀b,b<s2.heap.objs.size->b≠P.objs.size:=fun b hb=>Nat.ne_of_lt (Nat.lt_trans hb R7)
 have r6:∀b o,s2.heap.get? b=some o->h₁.get? b=some o:=fun b o e=>y8.extBut b o (D6 b (Heap.lt_size e)) (Heap.get?_push_of_some _ (hP ▸ Heap.get?_push_of_some _ e))
 have x4:h₁.get? s2.heap.objs.size=some { cls:=.type "list",data:=.seq ([]:List Value).toArray 0 }:=y8.extBut _ _ (Nat.ne_of_lt R7) (Heap.get?_push_of_some _ (hP ▸ Heap.get?_push_size _ rfl));have fD:H2 s2.heap.objs.size=none:=I2.hok.fresh (Nat.le_refl _);obtain ⟨W,⟨m0,w0⟩,F1⟩:=q s2.heap.objs.size fD;have hz:h₁.objs.size<=P.objs.size+1:=by
  have e:=y8.1;rw [Heap.size_push] at e;exact Nat.le_of_eq e
 have st1:tn 0 h₁:=T.keep _ _ _ O2 fun b hb o e=>r6 b o e
 have z6:∀{j8:List (Addr×Obj)} {H':Hp},(∀p∈j8,p.1∉fp)->(∀b∈fp,H' b=none)->∀b∈fp,Zju (Xo X scope cl N' s2 H2 P.objs.size fp) j8 H' b:=fun {j8 H'} hp hn b hb=>by
  obtain ⟨o,e⟩:=T7 b hb;obtain ⟨_,f1,f2',f3,f4,f5⟩:=f2 b hb;refine ⟨hn b hb,D6 b (Heap.lt_size e),fun z=>?_,.inl hb,fun x c h=>f4 x c (S.sub x c h),fun p hp' z=>?_⟩
  ·rcases List.mem_cons.mp (I2.stkSub b z) with q|q
   ·exact f1 q
   ·exact f2' q
  ·have hp2:p∈j8:=by simpa [Xo] using hp'
   exact hp p hp2 (by rw [z];exact hb)
 have loop:∀s3:Shared,s3={ s2 with heap:=h₁,toks:=s2.toks+([]:List (Str×Value)).length } ->
   codeAny (model X.prog X.w) X.A (.compLoop (.ListComp R6 [⟨tg,m7,N0,0⟩] scope pos) 0 (.ref it) (.ref s2.heap.objs.size) (compEnvC scope cl P.objs.size X.env)) (compPost (model X.prog X.w) X.A X.xe (some (assign (.Name y py) X.env)) (fun _ s'=>∃σ' H',Inv X a6 σ' H' s'/\D.nx σ' H') (.ref s2.heap.objs.size) P.objs.size) s3:=by
  rintro s3 rfl;have I3:Inv (Xo X scope cl N' s2 H2 P.objs.size fp) [] (fr σ) (upd H2 s2.heap.objs.size (.lst [])) { s2 with heap:=h₁,toks:=s2.toks+([]:List (Str×Value)).length }:=Zlm I2 S R7 rfl f2 T7 r6 x4 E7 hz;refine Zbk (fun n s'=>∃i ys H',Inv (Xo X scope cl N' s2 H2 P.objs.size fp) [] (fr σ) H' s'/\tn i s'.heap/\(∀b∈fp,H' b=none)/\W i n ys H') ?_ m0 ⟨0,[],_,I3,st1,fun b hb=>?_,w0⟩
  ·rintro n s3 ⟨i,ys,H3,I3,T5,fr3,w3⟩;rcases F1 i n ys H3 w3 with ⟨stop,qn⟩|⟨go,N,hN,step⟩
   ·refine thn (T.done (Xo X scope cl N' s2 H2 P.objs.size fp) rfl rfl rfl hc i [] s3 (fr σ) H3 _ I3 (z6 (by simp) fr3) T5 stop) fun r s4 ⟨hr,I4⟩=>?_
    subst hr;obtain ⟨m4,hn4,_⟩:=I4.loc;obtain ⟨oC,esC,epC,hoC,hrC⟩:=id hn4;have J0:Inv X a6 σ H3 s4:=Zp0 I2 R7 f2 I4 (h':=s4.heap) ⟨rfl,fun _ _=>rfl⟩;have big:s2.heap.objs.size<=P.objs.size:=Nat.le_of_lt R7;have fC:H3 P.objs.size=none:=I4.free;have okC:=I2.fpOk big fC;have J1:Inv X (a6++[(P.objs.size,oC)]) σ H3 s4:=J0.pins_of fun p hp=>by
     rcases List.mem_append.mp hp with hp|hp
     ·exact J0.pin p (List.mem_append_right _ hp)
     ·have e:p=(P.objs.size,oC):=by simpa using hp
      subst e;exact ⟨hoC,fC,okC.2.1,okC.2.2.1,fun v z=>by rw [hrC.1] at z;cases z⟩
    refine thn (Zoe hN hi' hy E3 (X:=X) (pos:=py) _ s4 σ H3 (.ref s2.heap.objs.size) (.ref s2.heap.objs.size) _ J1 rfl qn) fun _ s5 ⟨σ5,H5,I5,q5⟩=>?_
    obtain ⟨p1,p2,p3,p4,p5⟩:=I5.pin (P.objs.size,oC) (List.mem_append_right _ (List.mem_append_right _ (by simp)));exact ⟨m4,⟨oC,esC,epC,p1,hrC⟩,fun h' M7=>⟨σ5,H5,(I5.unpinned).turned (t':=s5.toks) (it:=P.objs.size) (fun b o hb e=>(M7.2 b hb).trans e) p2 p3 okC.2.2.2.1 okC.2.2.2.2.1 okC.2.2.2.2.2,q5⟩⟩
   ·refine thn (T.item (Xo X scope cl N' s2 H2 P.objs.size fp) rfl rfl rfl hc i [] s3 (fr σ) H3 _ I3 (z6 (by simp) fr3) T5 go) fun r s4 ⟨u,hr,h4⟩=>?_
    subst hr;refine thn h4 fun _ s5 ⟨x,H5,I5,r5,y5,N8,fr5⟩=>?_
    have I5':=I5.pinned (z6 (by simp) fr5) (T.obj _ _ N8);refine thn (hg s2 H2 P.objs.size fp _ s5 (fr σ) H5 x u _ I5' r5 (step x H5 y5)) fun _ s6 ⟨σ6,H6,I6,kp,q6⟩=>?_
    refine thn (hf s2 H2 P.objs.size fp _ s6 σ6 H6 _ I6 q6) fun ok s7 ⟨H7,I7,q7⟩=>?_
    have w6:∀{σ8:St} {H8:Hp} {s8:Shared} {V9:List V},Wp (fr σ) σ8->Inv (Xo X scope cl N' s2 H2 P.objs.size fp) ([]++Zid fp s5.heap) σ8 H8 s8->N V9 H8 ->
      ∃m,m<n/\∃i ys H',Inv (Xo X scope cl N' s2 H2 P.objs.size fp) [] (fr σ) H' s8/\tn i s8.heap/\(∀b∈fp,H' b=none)/\W i m ys H':=fun {σ8 H8 s8 V9} kp8 I8 n8=>by
     obtain ⟨m',hm,w8⟩:=hN V9 H8 n8;refine ⟨m',hm,i+1,V9,H8,(I8.unpinned).weak (by rw [I8.len];exact S.len σ I2.len) kp8,T.keep _ _ _ N8 fun b hb o e=>(I8.pin (b,o) (List.mem_append_right _ (List.mem_append_right _ (Za1 hb e)))).1,fun b hb=>?_,w8⟩;obtain ⟨o,e,d⟩:=T.obj _ _ N8 b hb;exact (I8.pin (b,o) (List.mem_append_right _ (List.mem_append_right _ (Za1 hb e)))).2.1
    cases ok with
    | false=>exact w6 kp I7 q7
    | true =>
     refine thn (he s2 H2 P.objs.size fp _ s7 σ6 H7 _ I7 q7) fun uy s8 ⟨y,H8,I8,r8,hD8,hz8,q8⟩=>?_
     exact thn (Yx _ s8 σ6 H8 (.ref s2.heap.objs.size) [y] (.ref s2.heap.objs.size) [uy] (fun _ H9=>N (ys++[y]) H9) I8 rfl (.cons r8 .nil) ⟨_,ys,y,rfl,rfl,hD8,hz8,q8⟩) fun _ s9 ⟨v9,H9,I9,_,q9⟩=>w6 kp I9 q9
  ·show upd H2 s2.heap.objs.size (.lst []) b=none;obtain ⟨o,e⟩:=T7 b hb;rw [Ze (Nat.ne_of_lt (Heap.lt_size e))];exact (f2 b hb).1
 exact codeAny_compStart_list (loop _ rfl) (T.self X.A 0 _ _ _ st1 (loop _ rfl))
theorem Zc4{X:Cx}{K:Frag}{es:List Expr}{k:Nat}{pos:Pos}{t:TGs}{n:Nat}(hK:X.K=K)(hc:X.calm=true)(h:PGs X es t)
  (hn:(assignEach es X.env).length=n:=by rfl) (A1:(assignEach es X.env).findIdx? (·.1)=none:=by rfl):PG X (.Tuple es k pos) (Zzw K n t):=hK ▸ Wr hc h hn A1
end L2
end
section
namespace L2
open PySem PySem.Spec PyProof.Rows
def Zv6:List V->Hp->VK->Prop:=fun xs H Q=>∃p kvs,xs=[.ref p]/\Rd H p (.dK kvs)/\New H (.lst (kvs.map fun kv=>kV kv.1)) Q
theorem Zie  :∀{kvs:List (Key×V)} {va:List (Key×Value)} {vs:List Value},KV kvs va->vs.length=va.length->(∀(j:Nat) (v:Value),vs[j]? =some v->∃(k:Key) (x:Value),va[j]? =some (k,x)/\(Z0 P w).is k v=true)->Yc (kvs.map fun kv=>kV kv.1) vs
 | [],_,[],.nil,_,_=>.nil
 | [],_,_ ::_,.nil,h,_=>by simp at h
 | p ::kvs,q ::va,[],.cons r t,h,_=>by simp at h
 | p ::kvs,q ::va,v ::vs,.cons r t,h,hv=>by
  obtain ⟨k,x,e,hk⟩:=hv 0 v rfl;simp only [List.getElem?_cons_zero,Option.some.injEq] at e;subst e;rw [List.map_cons];refine .cons ?_ (Zie (P:=P) (w:=w) t (by simpa using h) fun j u hu=>by simpa using hv (j+1) u (by simpa using hu));rw [r.1];exact Zuy hk
theorem Zq5(hc:X.calm=true):Xu X (.type "list") Zv6:=by
 intro a6 s σ H xs us Q I r h;obtain ⟨p,kvs,rfl,hd,q⟩:=h;obtain ⟨u,rfl,rx⟩:=Zaz r;cases rx;obtain ⟨hz,lo,va,kv,da⟩:=Zb1 I.hok hd;obtain ⟨ep,A0⟩:=da.dictAt;have hl:=KV.length kv;refine PySem.W.kdl_call (PySem.W.kdl_dict (knd:=Z0 X.prog X.w) (kvs:=va) (ep:=ep) lo) (I.ok.hd hc) A0 (by lia) fun h' tk E9 c' hk hD x4=>?_
 have hv:Yc (kvs.map fun kv=>kV kv.1) E9.toList:=Zie (P:=X.prog) (w:=X.w) kv (by rw [Array.length_toList];exact x4.1) fun j v e=>x4.2 j v (by rw [<-Array.getElem?_toList];exact e)
 exact ⟨.ref s.heap.objs.size,_,I.laid (o:=.lst (kvs.map fun kv=>kV kv.1)) (t':=tk) hk (Nat.le_refl _) (show Yr X.prog X.w _ h' _ (.lst _) from ⟨by rw [List.length_map];exact hz,E9.toList,c',hv,by rw [hD]⟩),rfl,q.at _ (I.hok.fresh (Nat.le_refl _))⟩
def Ybk(K:Frag):R2:=fun x y H Q=>∃a b ka kb,x=.ref a/\y=.ref b/\Rd H a (.dK ka)/\Rd H b (.dK kb)/\ka.length=kb.length/\(∀kv∈ka,∃v,Yy kb kv.1=some v/\Znv K H kv.2 v)/\Q (.bl false) H
theorem Yaf(hu:X.A.units+64<cLine):OpR X (compareOp .NotEq) (Ybk X.K):=by
 intro a6 s σ H x y v u Q I rx ry h;obtain ⟨a,b,ka,kb,rfl,rfl,ha,hb,hl,i9,q⟩:=h;cases rx;cases ry;obtain ⟨_,sa,va,ra,da⟩:=Zb1 I.hok ha;obtain ⟨_,sb,vb,rb,db⟩:=Zb1 I.hok hb;have la:=KV.length ra;have lb:=KV.length rb;have hits:∀{ka':List (Key×V)} {va':List (Key×Value)},KV ka' va'->(∀kv∈ka',∃v,Yy kb kv.1=some v/\Znv X.K H kv.2 v)->PySem.W.KeqHits X.A.in1 s vb va' true:=by
  intro ka' va' r
  induction r with
  | nil=>intro _;exact .nil
  | cons r t ih =>
   rename_i p q l m;intro hv;obtain ⟨e1,r2⟩:=r;obtain ⟨v,hv1,hv2⟩:=hv p List.mem_cons_self;have F4:=KV.val rb p.1;rw [hv1] at F4;obtain ⟨y,hy,ry⟩:=Zdh.some_of F4;rw [e1] at hy;have:=PySem.W.KeqHits.hit (k:=q.1) (v:=q.2) hy (hv2.eqAt (A:=X.A.in1) I r2 ry (by rw [Wm];lia)) (ih fun kv y9=>hv kv (List.mem_cons_of_mem _ y9));simpa using this
 refine PySem.W.keq_ne (knd:=Z0 X.prog X.w) sa sb da db (by lia) (fun _=>hits ra i9) ⟨.bl false,H,I,?_,q⟩;rw [show (va.length ==vb.length)=true by rw [<-la,<-lb,hl];simp]
 rfl
def Zw9(K:Frag)(neg:Bool):R2:=fun x y H Q=>∃(p:Addr) (n:Nat) (t:Tr) (ts:List Tr) (as:List Addr),y=.ref p/\SqL K H p (as.map V.ref)/\n<=60/\Im K H n t x/\Paired (Im K H n) ts (as.map V.ref)/\Q (.bl (if neg then !decide (t∈ts) else decide (t∈ts))) H
noncomputable def Zmd (K:Frag) (H:Hp) (n:Nat) (t:Tr) (u:Value):Bool:=match u with
 | .ref a=>@decide (Im K H n t (.ref a)) (Classical.propDecidable _)
 | _=>false
theorem Zl2(I:Inv X a6 σ H s)  :∀{ts:List Tr} {as:List Addr} {us:List Value},Paired (Im X.K H n) ts (as.map V.ref)->Yc (as.map V.ref) us->us.any (Zmd X.K H n t)=decide (t∈ts)
 | [],[],_,_,v=>by rw [List.map_nil] at v;cases v;simp
 | [],a ::as,_,p,_=>by rw [List.map_cons] at p;cases p
 | t' ::ts,[],_,p,_=>by rw [List.map_nil] at p;cases p
 | t' ::ts,a ::as,us,p,v=>by
  rw [List.map_cons] at p v;cases p with
  | cons i p =>
   cases v with
   | cons r v =>
    cases r;rw [List.any_cons,Zl2 I p v,Bool.eq_iff_iff,Bool.or_eq_true];simp only [Zmd,decide_eq_true_eq,List.mem_cons]
    constructor
    ·rintro (z|z)
     ·exact .inl (Im.inj I z i)
     ·exact .inr z
    ·rintro (z|z)
     ·exact .inl (z ▸ i)
     ·exact .inr z
theorem Zk3(I:Inv X a6 σ H s)(hu:A.units+n<cLine)(hx:Im X.K H n t x)(rx:Yj x vx) :
  ∀{ts:List Tr} {as:List Addr} {us:List Value},Paired (Im X.K H n) ts (as.map V.ref)->Yc (as.map V.ref) us->∀u∈us,SeqAt.EqAt A s u vx (Zmd X.K H n t u)
 | [],[],_,_,v=>by rw [List.map_nil] at v;cases v;simp
 | [],a ::as,_,p,_=>by rw [List.map_cons] at p;cases p
 | t' ::ts,[],_,p,_=>by rw [List.map_nil] at p;cases p
 | t' ::ts,a ::as,us,p,v=>by
  rw [List.map_cons] at p v;cases p with
  | cons i p =>
   cases v with
   | cons r v =>
    cases r;intro u hm;rcases List.mem_cons.mp hm with e|e
    ·subst e;refine Yk (Im.eqAt I n A i hx rfl rx hu) ?_;simp only [Zmd,decide_eq_decide];exact ⟨fun z=>z ▸ i,fun z=>(Im.inj I z i).symm⟩
    ·exact Zk3 I hu hx rx p v u e
theorem Zzv(hu:X.A.units+64<cLine):OpR X (compareOp .In) (Zw9 X.K false):=by
 intro a6 s σ H x y v u Q I rx ry h;obtain ⟨p,n,t,ts,as,rfl,hq,hn,hx,hp,q⟩:=h;cases ry;obtain ⟨a7,r,pl,hz⟩:=I.list hq;refine SeqAt.in_listAt (Zmd X.K H n t) pl.isList (fun w hw=>Zk3 I (by rw [Wm];lia) hx rx hp r w (by simpa using hw)) ⟨.bl _,H,I,rfl,?_⟩;rw [show a7.toArray.any (Zmd X.K H n t)=a7.any (Zmd X.K H n t) by simp,Zl2 I hp r];exact q
theorem Ztq(hu:X.A.units+64<cLine):OpR X (compareOp .NotIn) (Zw9 X.K true):=by
 intro a6 s σ H x y v u Q I rx ry h;obtain ⟨p,n,t,ts,as,rfl,hq,hn,hx,hp,q⟩:=h;cases ry;obtain ⟨a7,r,pl,hz⟩:=I.list hq;refine SeqAt.notIn_listAt (Zmd X.K H n t) pl.isList (fun w hw=>Zk3 I (by rw [Wm];lia) hx rx hp r w (by simpa using hw)) ⟨.bl _,H,I,rfl,?_⟩;rw [show a7.toArray.any (Zmd X.K H n t)=a7.any (Zmd X.K H n t) by simp,Zl2 I hp r];exact q
section
variable {X:Cx} {k:Nat}
def Ze7(K:Frag):R2:=fun x y H Q=>rNe x y H Q\/Zx2 K true x y H Q\/Ybk K x y H Q
theorem Zhg(hr:X2 k X.A):OpR X (compareOp .NotEq) (Ze7 X.K):=Ybd.or ((Zz2 hr.units).or (Yaf hr.units))
def Zjt(K:Frag):R2:=fun x y H Q=>rIn K false x y H Q\/(∃a o,y=.ref a/\Wc H a x o/\Q (.bl o.isSome) H)\/(∃i j,x=.str i/\y=.str j/\Q (.bl (!(Builtin.Str.occurrences j i 0 j.length 1).isEmpty)) H)\/Zw9 K false x y H Q
theorem Zk5(hr:X2 k X.A):OpR X (compareOp .In) (Zjt X.K):=Zs2.or ((Zzt (Y8 hr)).or (Zs9.or (Zzv hr.units)))
def Zbd(K:Frag):R2:=fun x y H Q=>rIn K true x y H Q\/(∃a o,y=.ref a/\Wc H a x o/\Q (.bl (!o.isSome)) H)\/Zw9 K true x y H Q
theorem Zb4(hr:X2 k X.A):OpR X (compareOp .NotIn) (Zbd X.K):=Zoy.or ((Zt6 (Y8 hr)).or (Ztq hr.units))
end
end L2
end
section
namespace L2
open PySem
section
variable {M:Model} {A:Around} {E:Value->Shared->Prop} {s:Shared} {base:Heap} {env:Env} {outer l:List Env} {L e:Addr} {oe:Obj} {vs:Array Value} {head a0 cls fl:Value} {dx:Option Addr} {Q:Unit->Shared->Prop}
end
end L2
end
section
namespace L2
open PySem PySem.Spec PyProof.Rows
theorem Yr.there(x:Yr P w H h a o):∃ob,h.get? a=some ob:=by
 cases o with
 | lst xs=>obtain ⟨_,_,_,_,e⟩:=x;exact ⟨_,e⟩
 | tup xs=>obtain ⟨_,_,_,_,e,_⟩:=x;exact ⟨_,e⟩
 | dK kvs=>obtain ⟨_,_,_,_,o,_,_,e,_⟩:=x;exact ⟨_,e⟩
 | dT kvs=>obtain ⟨_,_,_,_,o,_,_,e,_⟩:=x;exact ⟨_,e⟩
 | set S n=>obtain ⟨o,_,_,_,e,_⟩:=x;exact ⟨_,e⟩
 | ins C dx fs=>obtain ⟨_,_,_,e,_⟩:=x;exact ⟨_,e⟩
 | own y=>obtain ⟨_,e⟩:=x;exact ⟨_,e⟩
 | xd fs=>obtain ⟨_,⟨_,_,_,e,_⟩,_⟩:=x;exact ⟨_,e⟩
 | rng lo hi=>obtain ⟨_,_,_,e⟩:=x;exact ⟨_,e⟩
 | frz ob u=>obtain ⟨e,_⟩:=x;exact ⟨_,e⟩
 | tbl ps =>
  obtain ⟨_,_,_,_,e,_⟩:=x;exact ⟨_,e⟩
 | met f y=>exact ⟨_,show h.get? a=some _ from x⟩
 | ext φ=>obtain ⟨_,⟨_,e⟩,_⟩:=x;exact ⟨_,e⟩
section
variable {P:Program} {w:World} {K:Frag} {mg:Str->Option Value} {base:Heap} {N:List Str} {qual:Str} {scope:Scope} {f:Addr} {cd:Value} {A:Around} {outer:List Env} {s₀:Shared} {H₀:Hp} {E:XK}
end
abbrev Cx.caught(X:Cx)(ea:Addr):Cx:={ X with A:=X.A.mark (some (.ref ea)),calm:=false,xe:=fun _ _=>False }
section
variable {X:Cx} {a6 j8:List (Addr×Obj)} {σ:St} {H:Hp} {s:Shared} {E:Value->Shared->Prop}
end
section
variable {P:Program} {w:World} {K:Frag} {mg:Str->Option Value} {base:Heap}
end
end L2
end
section
namespace L2
open PySem PySem.Spec PyProof.Rows
theorem Zoo:∀{ss:List Str} {us:List Value},Yc (ss.map V.str) us->StrsAre us ss
 | [],_,r=>by rw [List.map_nil] at r;cases r;exact .nil
 | x ::ss,_,r=>by
  rw [List.map_cons] at r;cases r with
  | cons r t =>
   obtain ⟨tk,rfl⟩:=r;exact .cons _ _ (Zoo t)
theorem Zn8:∀{ss:List Str} {us:List Value},StrsAre us ss->Yc (ss.map V.str) us
 | [],_,r=>by cases r;exact .nil
 | x ::ss,_,r=>by
  cases r with
  | cons _ _ t=>exact .cons ⟨_,rfl⟩ (Zn8 t)
def Zwk(K:Frag):List V->Hp->VK->Prop:=fun xs H Q=>∃(p:Addr) (ss:List Str),xs=[.ref p]/\SqL K H p (ss.map V.str)/\ss.length<64/\∀K1:List Str,K1.Perm ss->sortedS K1=true->New H (.lst (K1.map V.str)) Q
theorem Zrg:Xu X (.builtin "sorted") (Zwk X.K):=by
 intro a6 s σ H xs us Q I r h;obtain ⟨p,ss,rfl,hq,hl,q⟩:=h;obtain ⟨u,rfl,rx⟩:=Zaz r;cases rx;obtain ⟨a7,rv,pl,hz⟩:=I.list hq;have d4:a7.length=ss.length:=by have:=rv.length;rw [List.length_map] at this;exact this.symm
 refine sorted_strs pl.isList (Zoo rv) (by lia) fun out K1 a1 a2 a3=>?_
 obtain ⟨e,he⟩:=sortedAll_at s.heap a7 out;have hp:=a2.length_eq;have hn:H (s.heap.objs.size+1)=none:=I.hok.fresh (Nat.le_succ _);exact ⟨.ref (s.heap.objs.size+1),_,I.laid (a:=s.heap.objs.size+1) (o:=.lst (K1.map V.str)) (t':=s.toks) (fun b o h=>sortedAll_old h) (Nat.le_succ _) (show Yr X.prog X.w _ _ _ (.lst _) from ⟨by rw [List.length_map];exact sz (by lia),out.toList,e,Zn8 a1,by rw [he]⟩),rfl,(q K1 a2 a3).at _ hn⟩
theorem Inv.laidAt(I:Inv X a6 σ H s)(k:∀b u,s.heap.get? b=some u->h'.get? b=some u)(hn:s.heap.get? a=none)(new:Yr X.prog X.w (upd H a o) h' a o) :
  H a=none/\Inv X a6 σ (upd H a o) { s with heap:=h',toks:=t' }:=by
 have hH:H a=none:=by
  cases e:H a with
  | none=>rfl
  | some u =>
   obtain ⟨ob,z⟩:=(I.hok a u e).there;rw [hn] at z;cases z
 have ne:∀b u,s.heap.get? b=some u->b≠a:=fun b u e z=>by rw [z,hn] at e;cases e
 refine ⟨hH,I.call' (s':={ s with heap:=h',toks:=t' }) rfl ⟨fun b u e _ _ _=>k b u e,fun b u e _ _ _=>⟨u.slots,k b u e⟩,fun b u e n _=>by rw [Ze (ne b u e)];exact n,fun b u e _=>⟨u,k b u e⟩,fun b xs e=>?_,fun b q u e=>?_,fun b ps e=>⟨#[],?_⟩⟩ (fun b u e=>?_) I.bare (fun b z=>absurd z List.not_mem_nil)⟩
 ·rw [Ze (Zh e hH)];exact e
 ·rw [Ze (Zh e hH)];exact e
 ·rw [Ze (Zh e hH)];simpa using e
 ·by_cases z:b=a
  ·rw [z,Zf] at e;cases e;rw [z];exact new
  ·rw [Ze z] at e;exact (I.hok b u e).stay (fun c v _ h=>k c v h) (fun c h=>by rw [Ze (Zh h hH)];exact h) (fun c ys h=>by rw [Ze (Zh h hH)];exact h)
def Zig:List V->Hp->VK->Prop:=fun xs H Q=>∃(p:Addr) (kvs:List (Key×V)) (ss:List Str),xs=[.ref p]/\Rd H p (.dK kvs)/\kvs.map (fun kv=>kV kv.1)=ss.map V.str/\ss.length<64/\∀K1:List Str,K1.Perm ss->sortedS K1=true->New H (.lst (K1.map V.str)) Q
theorem Zca(hc:X.calm=true):Xu X (.builtin "sorted") Zig:=by
 intro a6 s σ H xs us Q I r h;obtain ⟨p,kvs,ss,rfl,hd,hk,hl,q⟩:=h;obtain ⟨u,rfl,rx⟩:=Zaz r;cases rx;obtain ⟨hz,lo,va,kv,da⟩:=Zb1 I.hok hd;obtain ⟨ep,A0⟩:=da.dictAt;have hlv:=KV.length kv;refine Calls.call_function_entry kind_sorted plain_sorted entry_sorted (args_sorted1 _) ?_;unfold Builtin.«sorted»;refine wpAny_bind (m:=checkCount "sorted" 1 1 _) (wpAny_pure ?_);refine wpAny_bind (PySem.W.kdu_collect (A:=X.A.in1) (PySem.W.kdl_dict (knd:=Z0 X.prog X.w) (kvs:=va) (ep:=ep) lo) (I.ok.hd hc) A0 (by lia) fun h' tk C1 hkp x4=>?_);have hv:Yc (kvs.map fun kv=>kV kv.1) C1.toList:=Zie (P:=X.prog) (w:=X.w) kv (by rw [Array.length_toList];exact x4.1) fun j v e=>x4.2 j v (by rw [<-Array.getElem?_toList];exact e)
 rw [hk] at hv;have hS:=Zoo hv;have d4:C1.toList.length=ss.length:=by have:=hv.length;rw [List.length_map] at this;exact this.symm
 refine wpAny_bind (wpAny_newList ?_ (by rw [d4];exact sz (by lia)));have hoL:(h'.push (seqObj "list" C1.toList.toArray 0)).get? h'.objs.size=some (seqObj "list" C1.toList.toArray 0):=Heap.get?_push_size _ rfl;refine wpAny_bind (wpAny_holding (wpAny_call_entry slot_list_sort ⟨_,hoL,rfl⟩ entry_list_sort (list_sort_treeK strKind_oneLt hoL hS.keysOf (fun v₁ v₂ Yo e=>keyKind_strs (by rw [<-e];exact hS)) (by lia) fun x0 a1 a2=>⟨_,rfl,?_⟩) (args_list_sort _)));obtain ⟨K1,b1,b2,b3⟩:=sorted_out_str hS a1 a2;obtain ⟨e,he⟩:=sortedHeap_at (out:=(arrOf x0).map (·.2)) hoL;have hp:=b2.length_eq;have hnone:s.heap.get? h'.objs.size=none:=by
  cases z:s.heap.get? h'.objs.size with
  | none=>rfl
  | some o=>exact absurd (Heap.lt_size (hkp _ _ z)) (Nat.lt_irrefl _)
 obtain ⟨hn,J⟩:=I.laidAt (h':=sortedHeap (h'.push (seqObj "list" C1.toList.toArray 0)) h'.objs.size C1.toList ((arrOf x0).map (·.2))) (t':=tk) (a:=h'.objs.size) (o:=.lst (K1.map V.str)) (fun b o hb=>by
  have O4:=hkp b o hb;rw [sortedHeap_old (Nat.ne_of_lt (Heap.lt_size O4)) (Nat.lt_of_lt_of_le (Heap.lt_size O4) (by rw [Heap.size_push];exact Nat.le_succ _))];exact Heap.get?_push_of_some _ O4) hnone (show Yr X.prog X.w _ _ _ (.lst _) from ⟨by rw [List.length_map];exact sz (by lia),((arrOf x0).map (·.2)).toList,e,Zn8 b1,by rw [he]⟩)
 exact wpAny_pure ⟨_,rfl,.ref h'.objs.size,_,J,rfl,(q K1 b2 b3).at _ hn⟩
def Zt9(tl:TE):TE:=fun σ H Q=>tl σ H fun x H1=>∃d kvs,x=.ref d/\Rd H1 d (.dK kvs)/\New H1 (.lst (kvs.map fun kv=>kv.2)) Q
theorem Ztn{kvs:List (Key×V)}{va:List (Key×Value)}(h:KV kvs va):Yc (kvs.map fun kv=>kv.2) (va.map fun kv=>kv.2):=by
 induction h with
 | nil=>exact .nil
 | cons r t ih=>exact .cons r.2 ih
theorem Zpv(hc:X.calm=true) (hgl:Gl X "list") (hml:X.mg "list" =none) (ho:PE X o to) (u0:attributeBase o "values" X.env (eval o X.env)=eval o X.env:=by rfl) (u6:(c7.endLine ==d7.line)=true:=by rfl) :
  PE X (.Call (.Name "list" p') [.Call (.Attribute o "values" c7) [] [] d7] [] A3) (Zt9 to):=by
 intro a6 s σ H Q I h;refine wpAny_Call_Name_kw (Zfr I hgl hml PyProof.Rows.boot_list ?_);refine PyProof.Rows.callWith_type1 ?_ rfl rfl;refine Calls.spliced_cons ?_;refine wpAny_Call_method0_late u0 u6 (thn (ho a6 s σ H _ I h) fun v s1 ⟨y,H1,I1,r1,q1⟩=>?_);obtain ⟨d,kvs,rfl,hd,q⟩:=q1;cases r1;obtain ⟨hz,hs,vs,kv,dd⟩:=Zb1 I1.hok hd;obtain ⟨ob,_,_,C8,hex,_⟩:=id dd;obtain ⟨ep,hD⟩:=Zf8 dd C8;refine ⟨"dict", "dict.values",PySem.F.plainAttrs_dict,PySem.F.slot_dict_values,PySem.F.type_dict_values,dd.typeIs,fun a e=>?_,Calls.callWith_builtin rfl (PySem.evalArgs_none ?_)⟩
 ·cases e;exact ⟨ob,C8,hex.2.1⟩
 refine call_meetsIn PySem.F.slot_dict_values dd.typeIs PySem.F.entry_dict_values (PySem.F.args_dict_values_1 _) (meets_dict_values (Z0 X.prog X.w) d hs) ⟨⟨vs,dd⟩,?_⟩;refine Calls.spliced_nil ?_;have I2:Inv X a6 σ H1 { s1 with heap:=s1.heap.push { cls:=.type "dict_values",data:=.fields #[.ref d] } }:=I1.kept (t':=s1.toks) fun b o e=>Heap.get?_push_of_some _ e
 have hl:=KV.length kv;refine PySem.W.kdl_call (PySem.W.kdl_values (knd:=Z0 X.prog X.w) (r:=s1.heap.objs.size) (d:=d) (kvs:=vs) (ep:=ep)) (I2.ok.hd hc) ⟨⟨_,Heap.get?_push_size _ rfl,rfl,rfl⟩,hD _ (Heap.get?_push_of_some _ C8)⟩ (by lia) fun h' tk E9 c' hk p8 x4=>?_
 have e1:E9.toList=vs.map (·.2):=PySem.W.kdl_vals_eq E9.toList (by rw [Array.length_toList];exact x4.1) fun j v e=>x4.2 j v (by rw [<-Array.getElem?_toList];exact e)
 have hv:Yc (kvs.map fun kv=>kv.2) E9.toList:=by rw [e1];exact Ztn kv
 exact ⟨.ref _,_,I2.laid (o:=.lst _) (t':=tk) hk (Nat.le_refl _) (show Yr X.prog X.w _ h' _ (.lst _) from ⟨by rw [List.length_map];exact hz,E9.toList,c',hv,by rw [p8]⟩),rfl,q.at _ (I2.hok.fresh (Nat.le_refl _))⟩
end L2
end
section
namespace L2
open PySem PySem.Spec PyProof.Rows Builtin Builtin.ObjectAttr
section
variable {P:Program} {w:World} {H:Hp} {h:Heap} {e C t:Addr} {dx:Option Addr}
end
section
variable {X:Cx} {a6:List (Addr×Obj)} {σ:St} {H:Hp} {s:Shared}
end
section
variable {X:Cx} {a6:List (Addr×Obj)} {σ:St} {H:Hp} {s:Shared} {e C Y t:Addr} {f:Str} {A:Around} {E:Value->Shared->Prop}
end
section
variable {prog:Program} {w:World} {A:Around} {E:Value->Shared->Prop} {s:Shared} {K:Frag} {x C:Addr} {ox:Obj} {od:Option Obj} {name:Str} {tk:Tok}
end
section
variable {X:Cx} {f:Str}
end
end L2
end
section
namespace L2
open PySem PySem.Spec PyProof.Rows
section
variable {prog:Program} {w:World} {A:Around} {E:Value->Shared->Prop} {h:Heap} {g:Array GenState} {d:Drawn} {tk:Nat} {os:OsState} {nm qn:Str} {C N:Addr} {bs bm bmB:List Value} {hdct:Bool} {sn:List Str} {sub:List Value} {ab:Bool} {col:Option Bool} {dd:Option Addr} {k0 k1 k2 k3 k5:Option Value} {B newId initId:String}
 {Yo:List Value} {fI:Addr} {oI:Obj}
end
section
variable {M:Model} {A:Around} {E:Value->Shared->Prop} {s:Shared} {env:Env} {nm qn:Str} {C N:Addr} {bs bm:List Value} {hdct:Bool} {sn:List Str} {sub:List Value} {ab:Bool} {col:Option Bool} {dd:Option Addr} {k0 k1 k2 k3 k5:Option Value} {newId:String}
end
section
variable {P:Program} {w:World} {K:Frag} {mg:Str->Option Value} {base:Heap} {N:List Str} {qual:Str} {scope:Scope} {f:Addr} {cd:Value} {A:Around} {outer:List Env} {s₀:Shared} {H₀:Hp} {E:XK}
end
section
variable {K:Frag} {M:Model} {A:Around} {E:Value->Shared->Prop} {s:Shared} {e C B:Addr} {o:Obj} {r:Bool}
end
section
variable {X:Cx} {σ:St} {H:Hp}
end
theorem Zn2:∀{cs:List Addr} {a7:List Value},Yc (cs.map V.ref) a7->a7=cs.map Value.ref
 | [],_,.nil=>rfl
 | c ::cs,_,.cons r t=>by
  rw [Zn2 t];cases r
  rfl
end L2
end
section
namespace L2
open PySem PySem.Spec PyProof.Rows
theorem Zok:typeLookup (.type "list") "keys" =pure none:=by rw [typeLookup_type,builtinLookup_eq_fast];kernel_rfl
theorem Zjl:typeLookup (.type "list") "__getattr__" =pure none:=by rw [typeLookup_type,builtinLookup_eq_fast];kernel_rfl
theorem Zq3:isSubtype (.type "AttributeError") (.type "AttributeError")=pure true:=by rw [isSubtype_type];kernel_rfl
section
variable {prog:Program} {w:World} {A:Around} {E:Value->Shared->Prop} {h:Heap} {g:Array GenState} {d:Drawn} {t:Nat} {os:OsState} {a:Addr} {vs:Array Value} {n:Nat}
theorem Zw2{β:Type}{Q:β->Shared->Prop}(hh:A.handled=none)(hm:msg.length<=sizeLine)
  (hq:∀h' e u7,(∀b u,h.get? b=some u->h'.get? b=some u)->(∃oe,h'.get? e=some oe/\oe.cls=.type "AttributeError")->E (.ref e) ⟨h',g,d,u7,os⟩) :
  wpAny (model prog w) A (raiseAttrError (.ref a) "keys" msg:Sem β) Q E ⟨h,g,d,t,os⟩:=by
 have f5:=Zq3;have hm':¬msg.length >sizeLine:=by lia
 unfold raiseAttrError newExc
 repeat (any_goals (first | assumption | rw [if_neg hm'] | wp_step))
 generalize hoX:({ cls:=Value.type "AttributeError",data:=Data.fields (#[Value.ref h.objs.size,Value.none,Value.none,Value.none,Value.bool false,if ((Manifest.find? "AttributeError").elim false fun t=>t.mro.contains "StopIteration" || t.mro.contains "SystemExit")=true then [Value.str msg t].headD Value.none else Value.none]++ownMembersOf (Value.type "AttributeError") [Value.str msg t]) }:Obj)=oX;have hcX:oX.cls=.type "AttributeError" :=by rw [<-hoX]
 have hdX:∃ws,oX.data=.fields ws:=⟨_,by rw [<-hoX]⟩
 obtain ⟨ws,hdX⟩:=hdX;have hX:((h.push { cls:=Value.type "tuple",data:=Data.seq #[Value.str msg t] }).push oX).get? (h.push { cls:=Value.type "tuple",data:=Data.seq #[Value.str msg t] }).objs.size=some oX:=Heap.get?_push_size _ (Obj.isFreed_of_fields hdX);refine wpAny_raiseNew_none hh (hq _ _ _ (fun b u hb=>?_) ⟨_,Heap.get?_update_self _ hX (Obj.isFreed_of_fields (Obj.data_mapFields hdX _)),by rw [Obj.cls_mapFields];exact hcX⟩);rw [Heap.get?_update_other _ _ (by rw [Heap.size_push];exact Nat.ne_of_gt (Nat.lt_succ_of_lt (Heap.lt_size hb)))];exact Heap.get?_push_of_some _ (Heap.get?_push_of_some _ hb)
theorem Zq7{Q:Fin->Shared->Prop}(hh:A.handled=none) (hx:h.get? a=some { cls:=.type "list",data:=.seq vs n })
  (hq:∀h' e u7,(∀b u,h.get? b=some u->h'.get? b=some u)->(∃oe,h'.get? e=some oe/\oe.cls=.type "AttributeError")->E (.ref e) ⟨h',g,d,u7,os⟩) :
  wpAny (model prog w) A (Builtin.«object.__getattribute__» ⟨[.ref a,.str "keys" tk],[]⟩) Q E ⟨h,g,d,t,os⟩:=by
 have hT:(⟨h,g,d,t,os⟩:Shared).TypeIs (.ref a) "list" :=⟨_,hx,rfl⟩
 have f4:=Zok;have f5:=Zq3
 repeat (any_goals (first | assumption | wp_step))
 exact Zw2 hh (by trivial) hq
theorem Znm{Q:Option Value->Shared->Prop}(hh:A.handled=none) (hx:h.get? a=some { cls:=.type "list",data:=.seq vs n })
  (hq:∀h' u7,(∀b u,h.get? b=some u->h'.get? b=some u)->Q none ⟨h',g,d,u7,os⟩):wpAny (model prog w) A (getAttr? (.ref a) "keys") Q E ⟨h,g,d,t,os⟩:=by
 have hT:(⟨h,g,d,t,os⟩:Shared).TypeIs (.ref a) "list" :=⟨_,hx,rfl⟩
 have f2:=F.slot_list_getattribute.lookup;have f3:=F.slot_list_getattribute.bind (.ref a);have f5:=Zq3;have f6:=Zjl;unfold getAttr? getAttrBy?
 repeat (any_goals (first | assumption | wp_step))
 refine codeAny_call_builtin F.slot_list_getattribute.plain F.entry_list_ga (F.slot_list_getattribute.check _ _ _ _ _ _ _ _ (show (⟨h,g,d,t+1,os⟩:Shared).TypeIs (.ref a) "list" from ⟨_,hx,rfl⟩) (F.args_list_getattribute_2 _ _) (Zq7 hh hx fun h' e u7 kp ⟨oe,he,hc⟩=>?_));have hTe:(⟨h',g,d,u7,os⟩:Shared).TypeIs (.ref e) "AttributeError" :=⟨_,he,hc⟩
 have hq':=hq h' u7 kp;unfold getattributeRaised
 repeat (any_goals (first | assumption | wp_step))
 all_goals trace_state
end
theorem Zf9:entryFor table "dict.update.loop" =some Builtin.«dict.update.loop» :=entryFor_of_tree (by kernel_rfl)
section
variable {prog:Program} {w:World} {KT:Type} [DecidableEq KT] {knd:KeyKind prog w KT} {A:Around} {R:Result->Shared->Prop} {l d it:Addr} {tps:List Addr} {prs D0:List (KT×Value)} {h₀:Heap}
def Zou(knd:KeyKind prog w KT)(h:Heap)(tps:List Addr)(prs:List (KT×Value)):Prop:=Paired (fun p (q:KT×Value)=>∃key o n,knd.is q.1 key=true/\h.get? p=some o/\o.cls=.type "tuple" /\o.data=.seq #[key,q.2] n) tps prs
theorem Zrb(hh:A.handled=none)(hdi:d≠it)(hl:h₀.IsList l (tps.map Value.ref).toArray)(hld:l≠d)(S5:l≠it)(hp:Zou knd h₀ tps prs)(hsz:D0.length+prs.length<=sizeLine)(hpd:∀p∈tps,p≠d/\p≠it) :
  ∀(n i:Nat) (s:Shared) (j:Int) (tk:Tok),i+n=prs.length->s.heap.IsListIter it l i->s.heap.DictOf knd d (merged D0 (prs.take i))->(∀b o,b≠d->b≠it->h₀.get? b=some o->s.heap.get? b=some o) ->
   (∀h' u7,h'.DictOf knd d (merged D0 prs)->(∀b o,b≠d->b≠it->h₀.get? b=some o->h'.get? b=some o)->R (.ok (.ret .none)) { s with heap:=h',toks:=u7 }) ->
   codeAny (model prog w) A (.builtin "dict.update.loop" ⟨[.ref d,.ref it,.int j tk,.none],[]⟩) R s:=by
 have d4:tps.length=prs.length:=Paired.length hp;intro n
 induction n with
 | zero =>
  intro i s j tk hi hit hD keep hq;have E4:s.heap.IsList l (tps.map Value.ref).toArray:=by
   obtain ⟨o,ho,r⟩:=hl;exact ⟨o,keep _ _ hld S5 ho,r⟩
  refine codeAny_builtin Zf9 ?_;unfold Builtin.«dict.update.loop»;dsimp only;refine wpAny_bind (wpAny_pyNext_list_end hh hit E4 (by rw [List.getElem?_toArray,List.getElem?_map,List.getElem?_eq_none (by lia)];rfl) fun h' eb=>?_);dsimp only;refine wpAny_bind (wpAny_pure (wpAny_pure ?_));refine hq h' s.toks ?_ ?_
  ·rw [show prs.take i=prs from List.take_of_length_le (by lia)] at hD;obtain ⟨o,es,ep,ho,r⟩:=hD;exact ⟨o,es,ep,eb d o hdi ho,r⟩
  ·exact fun b o h1 h2 h3=>eb b o h2 (keep b o h1 h2 h3)
 | succ n ih =>
  intro i s j tk hi hit hD keep hq;have E4:s.heap.IsList l (tps.map Value.ref).toArray:=by
   obtain ⟨o,ho,r⟩:=hl;exact ⟨o,keep _ _ hld S5 ho,r⟩
  have F5:i<tps.length:=by lia
  obtain ⟨q,hqi,key,ot,nt,hk,p0,hct,hdt⟩:=Paired.get hp (i:=i) (a:=tps[i]) (List.getElem?_eq_getElem F5);obtain ⟨nd,ni⟩:=hpd tps[i] (List.getElem_mem F5);refine codeAny_builtin Zf9 ?_;unfold Builtin.«dict.update.loop»;dsimp only;refine wpAny_bind (wpAny_pyNext_list_item hit E4 (x:=.ref tps[i]) (by rw [List.getElem?_toArray,List.getElem?_map,List.getElem?_eq_getElem F5];rfl) fun h1 it1 sb1=>?_);have O5:h1.get? tps[i]=some ot:=by rw [sb1.2 _ ni];exact keep _ _ nd ni p0
  have hT:({ s with heap:=h1 }:Shared).TypeIs (.ref tps[i]) "tuple" :=⟨_,O5,hct⟩
  have N1:h1.DictOf knd d (merged D0 (prs.take i)):=by
   obtain ⟨o,es,ep,ho,r⟩:=hD;exact ⟨o,es,ep,by rw [sb1.2 _ hdi];exact ho,r⟩
  refine wpAny_bind (wpAny_holding (wpAny_bind (wpAny_tryCatch ?_)));unfold Builtin.Dict.pairItems;refine wpAny_bind (wpAny_typeOf hT ?_);rw [if_pos (by decide)];refine wpAny_bind (wpAny_seqItems (s:={ s with heap:=h1 }) O5 hdt (wpAny_pure ?_));refine wpAny_holding (wpAny_dictSet_pairs hk N1 (fun h2 A4 sb2=>?_) ?_)
  ·refine wpAny_pure ⟨Code.quiet_builtin _ (by trivial),?_⟩;have A1:stored (merged D0 (prs.take i)) q.1 q.2=merged D0 (prs.take (i+1)):=(merged_take_succ D0 prs i q hqi).symm;rw [A1] at A4;refine ih (i+1) { s with heap:=h2,toks:=s.toks+1 } (j+1) _ (by lia) ?_ A4 (fun b o n1 n2 z=>?_) fun h' u7=>hq h' u7
   ·exact it1.at fun o z=>by rw [sb2.2 _ hdi.symm];exact z
   ·rw [sb2.2 _ n1,sb1.2 _ n2];exact keep b o n1 n2 z
  ·have:=merged_length_le (K:=KT) D0 (prs.take i);rw [List.length_take] at this;lia
theorem Zjg{Q:Value->Shared->Prop}{E:Value->Shared->Prop}(hh:A.handled=none) (hx:s.heap.get? l=some { cls:=.type "list",data:=.seq (tps.map Value.ref).toArray n }) (hp:Zou knd s.heap tps prs) (hsz:prs.length<=sizeLine)
  (h:∀h' u7 dd,h'.DictOf knd dd (merged [] prs)->dd=s.heap.objs.size->s.heap.get? dd=none->(∀b o,s.heap.get? b=some o->h'.get? b=some o)->Q (.ref dd) { s with heap:=h',toks:=u7 }) :
  wpAny (model prog w) A (call (.type "dict") [.ref l]) Q E s:=by
 refine callType_codes (Q₁:=fun obj s₁=>obj=.ref s.heap.objs.size/\s₁={ s with heap:=s.heap.push { cls:=.type "dict",data:=.dict #[] } }) F.kt_called_dict (F.kt_typeCall_dict_1 _) F.entry_dict_init (kt_code_dict_new _ ⟨rfl,rfl⟩) ?_;rintro obj s₁ ⟨rfl,rfl⟩;have i5:(s.heap.push { cls:=.type "dict",data:=.dict #[] }).DictOf knd s.heap.objs.size []:=Heap.DictOf.new s.heap;have hx1:(s.heap.push { cls:=.type "dict",data:=.dict #[] }).get? l=some { cls:=.type "list",data:=.seq (tps.map Value.ref).toArray n }:=Heap.get?_push_of_some _ hx;refine ⟨i5.typeIs,F.args_dict_init_2 _ _,?_⟩;unfold Builtin.«dict.__init__»;refine wpAny_bind ?_;unfold Builtin.Dict.selfAndRest;refine wpAny_bind (wpAny_notOrdered_dict i5.typeIs ?_);show wpAny _ _ (pure (s.heap.objs.size,[Value.ref l])) _ _ _;refine wpAny_pure ?_;show wpAny _ _ (Builtin.Dict.updateFrom "dict.__init__" s.heap.objs.size (.ref l) [] .none) _ _ _;unfold Builtin.Dict.updateFrom;refine wpAny_bind (wpAny_typeOf (T := "list") ⟨_,hx1,rfl⟩ ?_);rw [if_pos (by decide)];obtain ⟨h0,g0,d0,t0,os0⟩:=s;dsimp only at *;refine wpAny_bind (Znm hh hx1 fun h1 tk1 k1=>?_);simp only [Option.isNone_none,if_true];have T3:=k1 _ _ hx1;have L5:h1.IsList l (tps.map Value.ref).toArray:=⟨_,T3,rfl,n,rfl⟩
 refine wpAny_bind (wpAny_rule (wpAny_bind (wpAny_pyIter_list (s:=⟨h1,g0,d0,tk1,os0⟩) L5 (wpAny_pure ⟨Code.quiet_builtin _ (by trivial),?_⟩))));have k2:∀b o,h0.get? b=some o->(h1.push { cls:=.type "list_iterator",data:=.fields #[.ref l,.int 0 0] }).get? b=some o:=fun b o z=>Heap.get?_push_of_some _ (k1 _ _ (Heap.get?_push_of_some _ z))
 have hd1:h1.get? h0.objs.size=some { cls:=.type "dict",data:=.dict #[] }:=k1 _ _ (Heap.get?_push_size h0 rfl);have lt1:h0.objs.size<h1.objs.size:=Heap.lt_size hd1;have T8:l<h0.objs.size:=Heap.lt_size hx;refine Zrb (A:=A.in1) (knd:=knd) (h₀:=h1.push { cls:=.type "list_iterator",data:=.fields #[.ref l,.int 0 0] }) (l:=l) (tps:=tps) (prs:=prs) (D0:=[]) hh (Nat.ne_of_lt lt1) ?_ (Nat.ne_of_lt T8) (Nat.ne_of_lt (Nat.lt_trans T8 lt1)) ?_ (by simpa using hsz) (fun p z=>?_) prs.length 0 ⟨h1.push { cls:=.type "list_iterator",data:=.fields #[.ref l,.int 0 0] },g0,d0,tk1,os0⟩ 0 0 (by lia) ?_ ?_ (fun _ _ _ _ z=>z) fun h' u7 hD kp=>?_
 ·exact ⟨_,k2 _ _ hx,rfl,n,rfl⟩
 ·exact Paired.mapP hp fun p q ⟨key,o,m,z1,z2,z3⟩=>⟨key,o,m,z1,k2 _ _ z2,z3⟩
 ·obtain ⟨i,hi,rfl⟩:=List.getElem_of_mem z;obtain ⟨q,_,key,o,m,_,z2,_⟩:=Paired.get hp (i:=i) (a:=tps[i]) (List.getElem?_eq_getElem hi);have:=Heap.lt_size z2;exact ⟨Nat.ne_of_lt this,Nat.ne_of_lt (Nat.lt_trans this lt1)⟩
 ·exact ⟨_,Heap.get?_push_size h1 rfl,rfl,rfl⟩
 ·obtain ⟨o,es,ep,ho,r⟩:=i5;exact ⟨o,es,ep,Heap.get?_push_of_some _ (k1 _ _ ho),r⟩
 ·refine ⟨rfl,h h' u7 h0.objs.size hD rfl (Heap.get?_none_of_le (Nat.le_refl _)) fun b o z=>kp b o ?_ ?_ (k2 b o z)⟩
  ·exact Nat.ne_of_lt (Heap.lt_size z)
  ·exact Nat.ne_of_lt (Nat.lt_trans (Heap.lt_size z) lt1)
end
def Zra:List V->Hp->VK->Prop:=fun xs H Q=>∃(l:Addr) (tps:List Addr) (kvs:List (Key×V)),xs=[.ref l]/\H l=some (.lst (tps.map V.ref))/\Paired (fun t (q:Key×V)=>H t=some (.tup [kV q.1,q.2])) tps kvs/\(kvs.map Prod.fst).Nodup/\New H (.dK kvs) Q
theorem Zln(hc:X.calm=true):Xu X (.type "dict") Zra:=by
 intro a6 s σ H xs us Q I r h;obtain ⟨l,tps,kvs,rfl,hl,hp,hn,q⟩:=h;obtain ⟨u,rfl,ru⟩:=Zaz r;cases ru;obtain ⟨hz,a7,n,rv,hg⟩:=(show Yr X.prog X.w H s.heap l (.lst (tps.map V.ref)) from I.hok l _ hl)
 rw [Zn2 rv] at hg;have key:∀{tps:List Addr} {kvs:List (Key×V)},Paired (fun t (q:Key×V)=>H t=some (.tup [kV q.1,q.2])) tps kvs->∃prs:List (Key×Value),KV kvs prs/\Zou (Z0 X.prog X.w) s.heap tps prs:=by
  intro tps kvs hp
  induction hp with
  | nil=>exact ⟨[],.nil,.nil⟩
  | cons r t ih =>
   rename_i p q _ _;obtain ⟨prs,h1,h2⟩:=ih;obtain ⟨_,a7,rv,o,ho,t9,m,hd⟩:=(show Yr X.prog X.w H s.heap p (.tup [kV q.1,q.2]) from I.hok p _ r)
   obtain ⟨k,v,rfl,rk,rv2⟩:=Zpy rv;exact ⟨(q.1,v) ::prs,.cons ⟨rfl,rv2⟩ h1,.cons ⟨k,o,m,Zgq rk,ho,t9,hd⟩ h2⟩
 obtain ⟨prs,y9,hpi⟩:=key hp;have B0:kvs.length<=sizeLine:=by
  have:=Paired.length hp;rw [List.length_map] at hz;lia
 have R9:(prs.map Prod.fst).Nodup:=by
  have:∀{kvs:List (Key×V)} {prs:List (Key×Value)},KV kvs prs->prs.map Prod.fst=kvs.map Prod.fst:=by
   intro kvs prs z
   induction z with
   | nil=>rfl
   | cons r t ih=>rw [List.map_cons,List.map_cons,ih,r.1]
  rw [this y9];exact hn
 refine Zjg (I.ok.hd hc) hg hpi (by rw [<-KV.length y9];exact B0) fun h' u7 dd hD hdd hn' k=>?_
 rw [merged_nil_of_nodup prs R9] at hD;have hsm:dd≠sysModules:=fun z=>by
  have hb:=I.big;rw [<-hdd,z] at hb;exact Nat.lt_irrefl _ hb
 obtain ⟨hH,J⟩:=I.laidAt (t':=u7) (o:=.dK kvs) k hn' (Zg4 B0 (beq_eq_false_iff_ne.mpr hsm) y9 hD);exact ⟨.ref dd,_,J,rfl,q.at dd hH⟩
end L2
namespace L2
open PySem PySem.Spec PyProof.Rows
theorem Zrd{fr:St->St}(Pv:Nat->List V->Hp->Prop)(h0:Pv 0 [] (upd H1 D (.lst [])))(hl:∀i ys H,i<=kvs.length->Pv i ys H->H d=some (.frz o (.dK kvs)))
  (hs:∀i kv ys H,kvs[i]? =some kv->Pv i ys H->∀p H2,Same H H2->H p=none->H2 p=some (.tup [kV kv.1,kv.2])->Zam fr g tf te σ D (.ref p) ys H2 (Pv (i+1))) (hd:∀ys H,Pv kvs.length ys H->Q (.ref D) H):Zft (Iti d o kvs) fr g tf te Q σ H1 D:=by
 refine ⟨fun i m ys H=>m=kvs.length-i/\i<=kvs.length/\Pv i ys H,⟨kvs.length,by simp,Nat.zero_le _,h0⟩,?_⟩;rintro i m ys H ⟨rfl,hi,p⟩;have q:=hl i ys H hi p
 by_cases c6:i<kvs.length
 ·refine .inr ⟨⟨q,c6⟩,Pv (i+1),fun ys' H' p'=>⟨kvs.length-(i+1),by lia,rfl,c6,p'⟩,fun x H' y=>?_⟩;obtain ⟨a,kv,e,hn,y9,e2⟩:=y;subst e e2;exact hs i kv ys H y9 p a _ (Same.new hn) hn Zf
 ·have e:i=kvs.length:=by lia
  subst e;exact .inl ⟨⟨q,Nat.le_refl _⟩,hd ys H p⟩
end L2
end
section
namespace L2
open PySem
end L2
end
section
namespace L2
open PySem PySem.Spec PyProof.Rows
section
variable {prog:Program} {w:World} {KT:Type} [DecidableEq KT] {knd:KeyKind prog w KT} {A:Around} {l d:Addr} {tps:List Addr} {prs D0:List (KT×Value)} {s:Shared} {Q:Value->Shared->Prop} {E:Value->Shared->Prop} {n:Nat}
end
section
variable {X:Cx} {o e:Expr} {c7 d7:Pos} {td ty:TE}
end
end L2
namespace L2
open PySem PySem.Spec PyProof.Rows
abbrev Fz(o:Obj):HO:=.frz o (.frz o (.own 0))
def Clo(H:Hp)(Pt fl:Addr)(q:Str)(la:Arguments)(lb:Expr)(ls:Scope)(clos:List (Str×Addr)):Prop :=
 ∃(pm D1:Value) (c:Addr) (oc:Obj) (vs:Array Value) (tt:Nat),H fl=some (Fz (PySem.W.kla_obj "<lambda>" q la lb ls clos pm c D1))/\H c=some (.frz oc (.own Pt))/\oc.data=.fields vs/\vs[1]? =some (.str q tt)
theorem Clo.mono(e:Same H H')(h:Clo H Pt fl q la lb ls clos):Clo H' Pt fl q la lb ls clos:=by
 obtain ⟨pm,D1,c,oc,vs,tt,h1,h2,h3⟩:=h;exact ⟨pm,D1,c,oc,vs,tt,e _ _ h1,e _ _ h2,h3⟩
def Zfl(H:Hp)(c:Addr)(v:V):Prop:=∃o u,H c=some (Fz o)/\o.data=.cell (some u)/\Yj v u
theorem Zfl.mono(e:Same H H')(h:Zfl H c v):Zfl H' c v:=by
 obtain ⟨o,u,h1,h2⟩:=h;exact ⟨o,u,e _ _ h1,h2⟩
theorem Zzn{l:List (Nat×Nat×Str)}{a b:Nat}{q r:Str}(nd:(l.map fun p=>(p.1,p.2.1)).Nodup)(h1:(a,b,q)∈l)(h2:(a,b,r)∈l):q=r:=by
 induction l with
 | nil=>cases h1
 | cons p l ih =>
  rw [List.map_cons,List.nodup_cons] at nd;rcases List.mem_cons.mp h1 with z1|z1 <;>rcases List.mem_cons.mp h2 with z2|z2
  ·have:=z1.trans z2.symm;simpa using this
  ·exact absurd (List.mem_map.mpr ⟨_,z2,by rw [<-z1]⟩) nd.1
  ·exact absurd (List.mem_map.mpr ⟨_,z1,by rw [<-z2]⟩) nd.1
  ·exact ih nd.2 z1 z2
section
variable {X:Cx} {a6:List (Addr×Obj)} {σ:St} {H:Hp} {s:Shared} {Q:Value->Shared->Prop} {la:Arguments} {lb:Expr} {ls:Scope} {lp:Pos} {c Pt:Addr} {clos:List (Str×Addr)}
theorem Zws{ls0:List (Nat×Nat×Str)}(I:Inv X a6 σ H s)(hdef:defaultsOf la X.env=([],[]))(L3:X.env.code=.ref c)(C:PySem.W.CodeHd X.base c Pt)(hH:H Pt=some (.tbl (Zbt ls0))) (J6:(lp.line,lp.col,X.env.qual ++ "<lambda>")∈ls0) (t9:closureFor ls X.env=pure clos)
  (h:∀fl H' s',Inv X a6 σ H' s'->Same H H'->H fl=none->Clo H' Pt fl (X.env.qual ++ "<lambda>") la lb ls clos->Q (.ref fl) s'):wpAny (model X.prog X.w) X.A (eval (.Lambda la lb ls lp) X.env) Q X.xe s:=by
 refine PySem.W.kla_eval hdef ?_;obtain ⟨ls',fs,e1,nd,hT,hfs⟩:=(show Yr X.prog X.w H s.heap Pt (.tbl (Zbt ls0)) from I.hok Pt _ hH)
 have e1:=Zvn e1;subst e1;have hg:s.heap.Ns mainGlobals X.mg:=I.mod.glob.keeps I.bk;have CH:PySem.W.CodeHd s.heap c Pt:=C.keeps I.bk;have nP:∀b,H b=none->b≠Pt:=fun b n z=>by rw [z,hH] at n;cases n
 have hB:s.heap.BuiltinsAt X.mg Pt:=by
  obtain ⟨bm,ob,b1,b2,b3,b4,b5,b6⟩:=I.mod.bm;obtain ⟨b3',hn⟩:=I.bs _ _ b3;refine ⟨bm,ob,b1,b2,fun z=>?_,nP bm hn,b3',b4,b5,b6⟩;obtain ⟨o,es,ep,e,d,_⟩:=hg;rw [<-z,b3'] at e;cases e;rw [b6] at d;cases d
 have hgP:mainGlobals≠Pt:=by
  obtain ⟨o,es,ep,e,d,_⟩:=I.mod.glob;exact nP _ (I.bs _ _ e).2
 cases hca:codeAmong lp (Zb0 fs).toList with
 | none =>
  refine PySem.W.kla_makeFunction (ps:=Zb0 fs) t9 I.ok.glob hg L3 CH hT (Zes fs) hca hgP hB fun c' D1 h' tk hx hge c6 hrec htb=>?_
  obtain ⟨c2,oc,vs,tt,e,hoc,hd,hv⟩:=hrec;cases e;generalize C8:PySem.W.kla_obj "<lambda>" (X.env.qual ++ "<lambda>") la lb ls clos ((X.mg "__name__").getD .none) c' D1=ob;have F6:ob.isFreed=false:=by rw [<-C8];rfl
  have O6:H h'.objs.size=none:=I.hok.fresh (Nat.le_trans hge (Nat.le_of_lt c6));have hcn:H c'=none:=I.hok.fresh hge;have ncf:c'≠h'.objs.size:=Nat.ne_of_lt c6;have r6:∀b o,s.heap.get? b=some o->b≠c'/\b≠h'.objs.size:=fun b o e=>by
   have:=Heap.lt_size e;exact ⟨Nat.ne_of_lt (Nat.lt_of_lt_of_le this hge),Nat.ne_of_lt (Nat.lt_trans (Nat.lt_of_lt_of_le this hge) c6)⟩
  have kp:∀b o,b≠Pt->s.heap.get? b=some o->(h'.push ob).get? b=some o:=fun b o n e=>Heap.get?_push_of_some _ (hx b o n e)
  have tr:∀b o,H b=some o->b≠c'/\b≠h'.objs.size:=fun b o e=>⟨Zh e hcn,Zh e O6⟩
  have A0:∀{b:Addr},b≠c'->b≠h'.objs.size->upd (upd H c' (.frz oc (.own Pt))) h'.objs.size (Fz ob) b=H b:=fun n1 n2=>by rw [Ze n2,Ze n1]
  have nPc:Pt≠c'/\Pt≠h'.objs.size:=tr _ _ hH;refine h h'.objs.size (upd (upd H c' (.frz oc (.own Pt))) h'.objs.size (Fz ob)) _ (I.step (g':=s.gens) (d':=s.drawn) (ch:=[]) (fun _ z=>nomatch z) (fun b o _ _ _ e n=>kp b o (nP b n) e) (fun b o _ _ _ e n=>⟨o.slots,kp b o (nP b n) e⟩) (fun b o _ e n=>by rw [A0 (r6 b o e).1 (r6 b o e).2];exact n) (fun b o _ e=>?_)
   (fun b xs e=>by rw [A0 (tr _ _ e).1 (tr _ _ e).2];exact e) (fun b o u e=>by rw [A0 (tr _ _ e).1 (tr _ _ e).2];exact e) (fun b ps e=>⟨#[],by rw [A0 (tr _ _ e).1 (tr _ _ e).2,e];simp⟩) (fun m hm=>?_) (fun b u e=>?_) I.bare)
   (fun b o e=>by rw [A0 (tr _ _ e).1 (tr _ _ e).2];exact e) O6 ⟨_,D1,c',oc,vs,tt,by rw [Zf,C8],by rw [Ze ncf,Zf],hd,hv⟩
  ·by_cases hb:b=Pt
   ·exact ⟨_,by rw [hb];exact Heap.get?_push_of_some _ htb⟩
   ·exact ⟨o,kp b o hb e⟩
  ·obtain ⟨o,es,ep,e,r⟩:=hm;exact ⟨o,es,ep,kp _ o (nP _ I.free) e,r⟩
  ·by_cases h1:b=h'.objs.size
   ·subst h1;rw [Zf] at e;cases e;have:=Heap.get?_push_size h' F6;exact ⟨this,this,_,this⟩
   ·rw [Ze h1] at e
    by_cases h2:b=c'
    ·subst h2;rw [Zf] at e;cases e;exact ⟨Heap.get?_push_of_some _ hoc,_,Heap.get?_push_of_some _ hoc⟩
    ·rw [Ze h2] at e
     by_cases h3:b=Pt
     ·subst h3;rw [hH] at e;cases e;refine ⟨ls0,fs++[(lp.line,lp.col,X.env.qual ++ "<lambda>",c')],rfl,nd,?_,fun f hf=>?_⟩
      ·rw [Zt2];exact Heap.get?_push_of_some _ htb
      ·rcases List.mem_append.mp hf with z|z
       ·obtain ⟨z1,oc1,vs1,tt1,f1,f2,f3⟩:=hfs f z;exact ⟨z1,oc1,vs1,tt1,by rw [A0 (tr _ _ f1).1 (tr _ _ f1).2];exact f1,f2,f3⟩
       ·rw [List.mem_singleton.mp z];exact ⟨J6,oc,vs,tt,by rw [Ze ncf,Zf],hd,hv⟩
     ·refine (I.hok b u e).stay (fun d v hd q=>kp d v ?_ q) (fun d q=>by rw [A0 (tr _ _ q).1 (tr _ _ q).2];exact q) (fun d xs q=>by rw [A0 (tr _ _ q).1 (tr _ _ q).2];exact q) (fun d o q=>by rw [A0 (tr _ _ q).1 (tr _ _ q).2];exact q);rcases hd with z|z
      ·rw [z];exact h3
      ·exact fun y=>by rw [y,hH] at z;cases z
 | some cv =>
  obtain ⟨f,hf,rfl,hl,hc⟩:=Zlf hca;obtain ⟨z1,oc,vs,tt,f1,f2,f3⟩:=hfs f hf;obtain ⟨fl,fc,fq,c'⟩:=f;have hl:fl=lp.line:=hl;have hc:fc=lp.col:=hc;subst hl hc;have eq:fq=X.env.qual ++ "<lambda>" :=Zzn nd z1 J6;subst eq;refine PySem.W.kla_makeFunctionHit (ps:=Zb0 fs) (cv:=.ref c') t9 I.ok.glob hg L3 CH hT (Zes fs) hca hB fun D1 h' tk hk hsz=>?_
  ·have O6:H h'.objs.size=none:=I.hok.fresh hsz;have:=Heap.get?_push_size h' (o:=PySem.W.kla_obj "<lambda>" (X.env.qual ++ "<lambda>") la lb ls clos ((X.mg "__name__").getD .none) c' D1) rfl;exact h _ _ _ (I.laid (a:=h'.objs.size) (o:=Fz (PySem.W.kla_obj "<lambda>" (X.env.qual ++ "<lambda>") la lb ls clos ((X.mg "__name__").getD .none) c' D1)) (t':=tk) (fun b u e=>Heap.get?_push_of_some _ (hk b u e)) hsz ⟨this,this,_,this⟩) (Same.new O6) O6
    ⟨_,D1,c',oc,vs,tt,Zf,by rw [Ze (Zh f1 O6)];exact f1,f2,f3⟩
end
open Classical in
noncomputable def Zjj (cells:List (Str×Addr)) (H:Hp) (h:Heap):Hp:=fun b=>if ∃x,cells.lookup x=some b then (h.get? b).map Fz else H b
section
variable {X:Cx} {a6:List (Addr×Obj)} {σ:St} {H:Hp} {s:Shared} {Q:VK}
theorem Zcn(I:Inv X a6 σ H s)(e:H b=some o):Zjj X.env.cells H s.heap b=some o:=by
 unfold Zjj;rw [if_neg]
 ·exact e
 ·rintro ⟨x,z⟩;rw [I.freeC x b z] at e;cases e
theorem Zf3(n:∀x,X.env.cells.lookup x≠some b):Zjj X.env.cells H s.heap b=H b:=by
 unfold Zjj;rw [if_neg];rintro ⟨x,z⟩;exact n x z
theorem Ztb(I:Inv X a6 σ H s){i:Nat}{x:Str}{v:V}{c:Addr}(hi:X.N[i]? =some x)(hs:σ[i]? =some (some v))(hk:X.env.scope.names.lookup x=some .cell)(hc:X.env.cells.lookup x=some c):H c=none/\Zfl (Zjj X.env.cells H s.heap) c v:=by
 obtain ⟨m,hn,hl⟩:=I.loc;obtain ⟨u,r,l⟩:=hl i x v hi hs (.inr (.inl hk));refine ⟨I.freeC x c hc,?_⟩;rcases l with ⟨k,_⟩|⟨_,c',S9,o,ho,hd⟩
 ·have k:X.env.scope.names.lookup x=some .local:=k;rw [hk] at k;cases k
 ·rw [hc] at S9;cases S9;refine ⟨o,u,?_,hd,r⟩;unfold Zjj;rw [if_pos ⟨x,hc⟩,ho]
  rfl
end
def Ybv(K:Frag)(fd:FuncData)(Pt:Addr):Prop:=∃c,fd.code=.ref c/\PySem.W.codeHdIn K c Pt=true
section
variable {P:Program} {w:World} {K:Frag} {mg:Str->Option Value} {base:Heap}
end
def Zr0(P:Program)(w:World)(K:Frag)(mg:Str->Option Value)(base:Heap)(k:Nat)(f:Addr)(H:Hp)(vs:List V)(Q:VK):Prop :=
 ∀(A:Around) (outer:List Env) (s:Shared) (us:List Value),X2 k A->Zoq P w K mg base A outer s H->Yc vs us->codeAny (model P w) A (.call (.ref f) ⟨us,[]⟩) (CR CX0 outer P w H s Q E0) s
def FnO(H:Hp)(f:Addr):Prop:=∃oc od fd sl u,H f=some (.frz ⟨oc,od,.func fd,sl⟩ u)
theorem FnO.at(I:Inv X a6 σ H s)(h:FnO H f):PySem.W.FnAt f s.heap:=by
 obtain ⟨oc,od,fd,sl,u,e⟩:=h;exact ⟨oc,od,fd,sl,(I.hok f _ e).1⟩
theorem Clo.fn(h:Clo H Pt fl q la lb ls clos):FnO H fl:=by
 obtain ⟨pm,D1,c,oc,vs,tt,h1,_⟩:=h;exact ⟨_,_,_,_,_,h1⟩
def Zwq(P:Program)(w:World)(K:Frag)(mg:Str->Option Value)(base:Heap)(N:List Str)(q:Str)(scope:Scope)(f:Addr)(cd:Value)(cells:List (Str×Addr))(A:Around)(outer:List Env)(s:Shared)(H:Hp):Cx where
 prog:=P
 w:=w
 K:=K
 mg:=mg
 base:=base
 A:=A.deeper (PySem.W.envX q scope s.heap.objs.size f cd cells)
 N:=N
 s₀:=s
 H₀:=H
 env:=PySem.W.envX q scope s.heap.objs.size f cd cells
 outer:=outer
 stack:=PySem.W.envX q scope s.heap.objs.size f cd cells ::outer
 ex:=[]
 calm:=true
 fn:=fun _=>false
 pn:=[]
 xe:=fun _ _=>False
def offL(H:Hp)(cells:List (Str×Addr)):Hp:=fun b=>if b∈cells.map Prod.snd then none else H b
theorem Zf5(h:b∉cells.map Prod.snd):offL H cells b=H b:=if_neg h
theorem Zkb(h:b∈cells.map Prod.snd):offL H cells b=none:=if_pos h
theorem Znp:∀{l:List (Str×Addr)} {x y:Str} {a:Addr},(l.map Prod.snd).Nodup->(x,a)∈l->(y,a)∈l->x=y
 | [],_,_,_,_,h,_=>by cases h
 | p ::r,x,y,a,nd,h1,h2=>by
  have nd:(p.2 ::r.map Prod.snd).Nodup:=nd;obtain ⟨n1,n2⟩:=List.nodup_cons.mp nd;rcases List.mem_cons.mp h1 with e1|e1
  ·rcases List.mem_cons.mp h2 with e2|e2
   ·rw [<-e1] at e2;cases e2;rfl
   ·exact absurd (List.mem_map.mpr ⟨_,e2,by rw [<-e1]⟩) n1
  ·rcases List.mem_cons.mp h2 with e2|e2
   ·exact absurd (List.mem_map.mpr ⟨_,e1,by rw [<-e2]⟩) n1
   ·exact Znp n2 e1 e2
def Ycw:HO->Prop
 | .frz _ _=>False
 | _=>True
structure Lit(H:Hp)(ls:Scope)(clos:List (Str×Addr))(fs:List Str)(fvs:List V):Prop where
 cells:Paired (fun x v=>ls.names.lookup x=some .free/\∃c,clos.lookup x=some c/\Zfl H c v) fs fvs
 all:∀p∈clos,p.1∈fs
 one:(clos.map Prod.fst).Nodup
 apart:(clos.map Prod.snd).Nodup
theorem Zdb{β:Type}:∀{l:List (Str×β)} {p:Str×β},(l.map Prod.fst).Nodup->p∈l->l.lookup p.1=some p.2
 | [],_,_,h=>by cases h
 | q ::r,p,nd,h=>by
  have nd:(q.1 ::r.map Prod.fst).Nodup:=nd;obtain ⟨n1,n2⟩:=List.nodup_cons.mp nd;rw [List.lookup_cons];rcases List.mem_cons.mp h with e|e
  ·rw [e,beq_self_eq_true]
  ·have:(p.1 ==q.1)=false:=by rw [beq_eq_false_iff_ne];exact fun z=>n1 (List.mem_map.mpr ⟨p,e,z⟩)
   rw [this];exact Zdb n2 e
theorem Lit.cell(L:Lit H ls clos fs fvs)(hp:p∈clos):∃v,Zfl H p.2 v:=by
 obtain ⟨i,hi,e⟩:=List.getElem_of_mem (L.all p hp);obtain ⟨v,_,_,c,h1,h2⟩:=Paired.get L.cells (i:=i) (a:=p.1) (by rw [List.getElem?_eq_getElem hi,e]);rw [Zdb L.one hp] at h1;cases h1;exact ⟨v,h2⟩
theorem Lit.soft(L:Lit H ls clos fs fvs)(h:H b=some o)(n:Ycw o):offL H clos b=some o:=by
 rw [Zf5]
 ·exact h
 ·intro z;obtain ⟨p,hp,e⟩:=List.mem_map.mp z;obtain ⟨v,ob,u,h1,_⟩:=L.cell hp;rw [e,h] at h1;cases h1;exact n
theorem Ztw  :Same (offL H cells) H:=fun b o e=>by
 by_cases z:b∈cells.map Prod.snd
 ·rw [Zkb z] at e;cases e
 ·rw [Zf5 z] at e;exact e
open Classical in
noncomputable def Zjc (H H':Hp) (cells:List (Str×Addr)):Hp:=fun b=>if b∈cells.map Prod.snd then H b else H' b
section
variable {P:Program} {w:World} {K:Frag} {mg:Str->Option Value} {base:Heap}
theorem Zq2(C:Clo H Pt fl q la lb ls clos)(L:Lit H ls clos fs fvs)
  (hb:∀(pm a9 D1 u:Value),bindArgs (PySem.W.kla_fn "<lambda>" q la lb ls clos pm a9 D1) ⟨[u],[]⟩=pure [(g,u)]) (hg:ls.names.lookup g=some .local) (hgf:g∉fs) (F6:∀y∈ls.names,y.2=.free->y.1∈fs) (hnc:∀y∈ls.names,y.2 ≠ .cell)
  (hk:ls.kind=.function) (hco:ls.isCoroutine=false) (hgen:ls.isGenerator=false)
  (body:∀(a9:Value) (A:Around) (outer:List Env) (s:Shared),X2 k (A.deeper (PySem.W.envX q ls s.heap.objs.size fl a9 clos)) ->
   WE (Zwq P w K mg base (g ::fs) q ls fl a9 clos A outer s (offL H clos)) lb (some gv ::fvs.map some) (offL H clos) (fun v H'=>Same (offL H clos) H'/\∀H'',Same H' H''->Same H H''->Q v H'')):Zr0 P w K mg base (k+1) fl H [gv] Q:=by
 intro A outer s us hr e0 rv;obtain ⟨u,rfl,ru⟩:=Zaz rv;obtain ⟨pm,D1,c,oc,vs,tt,h1,h2,h3,h4⟩:=C;have o1:s.heap.get? fl=some (PySem.W.kla_obj "<lambda>" q la lb ls clos pm c D1):=(e0.hok fl _ h1).1;have o2:s.heap.get? c=some oc:=(e0.hok c _ h2).1;have lim:s.heap.NoLimit:=e0.mod.nolimit.keeps fun b o e=>(e0.bs b o e).1
 refine PySem.W.kla_callFunE hr.depth o1 rfl hco hgen rfl ⟨c,oc,vs,tt,rfl,o2,h3,h4⟩ ?_;rw [hb];refine wpAny_pure (wpAny_newFunctionEnv hnc (fun y hy=>?_) (fun h₁ T0 hsb=>⟨lim.fresh _ hsb,?_⟩) hk)
 ·obtain rfl:y=(g,u):=List.mem_singleton.mp hy;exact hg
 show codeAny _ _ (.expr lb (PySem.W.envX q ls s.heap.objs.size fl (.ref c) clos)) _ _;have hk₁:∀b o,s.heap.get? b=some o->h₁.get? b=some o:=fun b o e=>hsb.extBut b o (Nat.ne_of_lt (Heap.lt_size e)) (Heap.get?_push_of_some _ e)
 have F8:∀{x:Str} {a:Addr},clos.lookup x=some a->(x,a)∈clos:=fun h=>PySem.mem_of_lookup h
 have inC:∀{x:Str} {a:Addr},clos.lookup x=some a->a∈clos.map Prod.snd:=fun h=>List.mem_map.mpr ⟨_,F8 h,rfl⟩
 have isC:∀{b:Addr},b∈clos.map Prod.snd->∃o u,H b=some (Fz o)/\o.data=.cell (some u):=fun {b} z=>by
  obtain ⟨p,hp,e⟩:=List.mem_map.mp z;obtain ⟨v,o,u,z1,z2,_⟩:=L.cell hp;exact ⟨o,u,e ▸ z1,z2⟩
 have hok0:HOk P w (offL H clos) s.heap:=fun b o e=>by
  have e':=Ztw b o e;refine (e0.hok b o e').stay (fun _ _ _ z=>z) (fun d z=>L.soft z trivial) (fun d xs z=>L.soft z trivial) (fun d ob z=>?_);rw [Zf5]
  ·exact z
  ·intro y;obtain ⟨o3,u3,y1,_⟩:=isC y;rw [z] at y1;cases y1
 have L7:∀{b:Addr},H b=none->offL H clos b=none:=fun {b} n=>by
  by_cases z:b∈clos.map Prod.snd
  ·exact Zkb z
  ·rw [Zf5 z];exact n
 have nA:∀b:Addr,b∉(Zwq P w K mg base (g ::fs) q ls fl (.ref c) clos A outer s (offL H clos)).ex:=fun b z=>absurd (show b∈([]:List Addr) from z) (by simp)
 have I:Inv (Zwq P w K mg base (g ::fs) q ls fl (.ref c) clos A outer s (offL H clos)) [] (some gv ::fvs.map some) (offL H clos) { s with heap:=h₁,toks:=s.toks+[(g,u)].length }:=by
  refine ⟨⟨e0.mod,hk,rfl,rfl,Nat.le_refl _,fun y z a h1 h2=>?_,fun y hy=>?_,fun y a z _=>(Bool.false_ne_true z).elim,fun _=>hr.hd,Around.frames_deeper e0.frames,.inr ⟨rfl,rfl⟩,fun b z=>absurd z (nA b),fun b o e=>⟨(e0.bs b o e).1,L7 (e0.bs b o e).2⟩,e0.bsz,fun b _ _=>nA b,fun b z=>absurd z (nA b),e0.funs,fun b z=>L7 (e0.frf b z)⟩,
   rfl,e0.bare,Un.kept hk₁,⟨_,T0,fun i y v h1 h2 h3=>?_⟩,fun y a z=>?_,L7 (e0.hok.fresh (Nat.le_refl _)),fun y a z=>Zkb (inC z),fun p hp=>absurd (show p∈([]:List (Addr×Obj)) from hp) (by simp),hok0.kept hk₁,?_⟩
  ·exact Znp L.apart (F8 h1) (F8 h2)
  ·have hy:ls.names.lookup y=some .cell\/ls.names.lookup y=some .free:=hy;rcases hy with hy|hy
   ·exact absurd rfl (hnc _ (PySem.mem_of_lookup hy))
   ·obtain ⟨i,hi,e⟩:=List.getElem_of_mem (F6 _ (PySem.mem_of_lookup hy) rfl);obtain ⟨v,_,_,a,z1,_⟩:=Paired.get L.cells (i:=i) (a:=y) (by rw [List.getElem?_eq_getElem hi,e]);exact ⟨a,z1⟩
  ·cases i with
   | zero =>
    have h1:g=y:=Option.some.inj h1;have h2:gv=v:=Option.some.inj (Option.some.inj h2);subst h1 h2;exact ⟨u,ru,.inl ⟨hg,by simp⟩⟩
   | succ i =>
    have h1:fs[i]? =some y:=h1;have h2:(fvs.map some)[i]? =some (some v):=h2;rw [List.getElem?_map] at h2;obtain ⟨v',h5,h6⟩:=Option.map_eq_some_iff.mp h2;cases h6;obtain ⟨v2,z0,z1,a,z2,o,uu,z3,z4,z5⟩:=Paired.get L.cells h1;rw [h5] at z0;cases z0;exact ⟨uu,z5,.inr ⟨.inr z1,a,z2,o,hk₁ _ _ (e0.hok a _ z3).1,z4⟩⟩
  ·obtain ⟨o,uu,z1,z2⟩:=isC (inC z);exact ⟨_,o,hk₁ _ _ (e0.hok a _ z1).1,z2⟩
  ·show (some gv ::fvs.map some).length=(g ::fs).length;rw [List.length_cons,List.length_map,List.length_cons,Paired.length L.cells]
 refine PySem.W.kla_codeExpr (wpAny_mono ((body (.ref c) A outer s (hr.deeper _)).run [] _ I) (fun v s' hs=>?_) fun _ _ z=>z.elim);obtain ⟨v',H',J,K5,sm,qq⟩:=hs;have JB:Un (frs outer) [] (offL H clos) H' s.heap s'.heap:=J.base;have cellH:∀{b:Addr},b∈clos.map Prod.snd->H' b=none:=fun {b} z=>by
  obtain ⟨p,hp,e⟩:=List.mem_map.mp z;exact J.freeC p.1 b (by rw [<-e];exact Zdb L.one hp)
 have nin:∀{b:Addr} {o:HO},H' b=some o->b∉clos.map Prod.snd:=fun {b o} e z=>by rw [cellH z] at e;cases e
 have bk:∀{b:Addr} {o:HO},H' b=some o->Zjc H H' clos b=some o:=fun {b o} e=>by unfold Zjc;rw [if_neg (nin e)];exact e
 have nofs:∀{b:Addr},b∈clos.map Prod.snd->b∉frs outer:=fun {b} z y=>by
  obtain ⟨o,uu,z1,_⟩:=isC z;rw [e0.frf b y] at z1;cases z1
 refine ⟨v',Zjc H H' clos,J.os,J.bare,⟨fun b o h1 n hb _=>JB.keep b o h1 (L7 n) hb (by simp),fun b o h1 n hb _=>JB.slot b o h1 (L7 n) hb (by simp),fun b o h1 n _=>?_,fun b o h1 _=>JB.there b o h1 (by simp),fun b xs e=>bk (JB.tups b xs (L.soft e trivial)),fun b ob x e=>?_,fun b ps e=>?_⟩,fun b o e=>?_,K5,qq _ (fun b o e=>bk e) fun b o e=>?_⟩
 ·unfold Zjc;rw [if_neg fun z=>by obtain ⟨o,uu,z1,_⟩:=isC z;rw [n] at z1;cases z1];exact JB.free b o h1 (L7 n) (by simp)
 ·by_cases z:b∈clos.map Prod.snd
  ·unfold Zjc;rw [if_pos z];exact e
  ·exact bk (JB.frzs b ob x (by rw [Zf5 z];exact e))
 ·obtain ⟨m,z⟩:=JB.tbls b ps (L.soft e trivial);exact ⟨m,bk z⟩
 ·by_cases z:b∈clos.map Prod.snd
  ·unfold Zjc at e;rw [if_pos z] at e;obtain ⟨o3,uu,z1,z2⟩:=isC z;rw [e] at z1;cases z1;have z3:=(e0.hok b _ e).1;have z4:=JB.keep b o3 z3 (Zkb z) (nofs z) (by simp);exact ⟨z4,z4,_,z4⟩
  ·have e':=e;unfold Zjc at e';rw [if_neg z] at e';exact (J.hok b o e').stay (fun _ _ _ y=>y) (fun d y=>bk y) (fun d xs y=>bk y) (fun d ob y=>bk y)
 ·by_cases z:b∈clos.map Prod.snd
  ·unfold Zjc;rw [if_pos z];exact e
  ·exact bk (sm b o (by rw [Zf5 z];exact e))
end
end L2
namespace L2
open PySem PySem.Spec PyProof.Rows
structure Zk9(K:Frag)(h:Heap)(tabs:List (Addr×Array Value)):Prop where
 cod:∀p∈tabs,∃c,PySem.W.codeHdIn K c p.1=true
 emp:∀p∈tabs,h.get? p.1=some (PySem.W.tabObj #[])
 shape:∀p∈tabs,∃ls,p.2=Zbt ls/\(ls.map fun p=>(p.1,p.2.1)).Nodup
 nd:(tabs.map Prod.fst).Nodup
 nt:PySem.W.noTabs K=true
def Zkw(K:Frag)(tabs:List (Addr×Array Value)):Sp:=fun vs H Q _=>∃(a:Addr) (ns:List Int),vs=[.ref a]/\SqL K H a (ns.map V.int)/\ns.length<=63/\(∀p∈tabs,H p.1=some (.tbl p.2))/\∀H',Q (.bl true) H'
theorem Zfb{β:Type}:∀{l:List (Addr×β)} {p:Addr×β},(l.map Prod.fst).Nodup->p∈l->l.lookup p.1=some p.2
 | [],_,_,h=>by cases h
 | q ::r,p,nd,h=>by
  have nd:(q.1 ::r.map Prod.fst).Nodup:=nd;obtain ⟨n1,n2⟩:=List.nodup_cons.mp nd;rw [List.lookup_cons];rcases List.mem_cons.mp h with e|e
  ·rw [e,beq_self_eq_true]
  ·have:(p.1 ==q.1)=false:=by rw [beq_eq_false_iff_ne];exact fun z=>n1 (List.mem_map.mpr ⟨p,e,z⟩)
   rw [this];exact Zfb n2 e
theorem Zcx{β:Type}:∀{l:List (Addr×β)} {a:Addr} {v:β},l.lookup a=some v->(a,v)∈l
 | [],_,_,e=>by cases e
 | (b,x) ::r,a,v,e=>by
  rw [List.lookup_cons] at e;cases hb:a ==b with
  | true=>rw [hb] at e;cases e;rw [eq_of_beq hb];exact .head _
  | false=>rw [hb] at e;exact .tail _ (Zcx e)
end L2
end
section
namespace L2
open PySem PySem.Spec PyProof.Rows
section
variable {X:Cx} {a6:List (Addr×Obj)} {σ:St} {H:Hp} {s:Shared}
end
end L2
end
section
namespace L2
open PySem PySem.Spec PyProof.Rows
end L2
end
section
namespace L2
open PySem PySem.Spec PyProof.Rows
section
variable {X:Cx} {σ:St} {H:Hp}
end
theorem Zlx(hg:Gl X x)(h:∃tk,X.mg x=some (.str v tk)) (hd:(x ==("__debug__" :Str))=false:=by decide):PE X (.Name x pos) (tC (.str v)):=by
 obtain ⟨tk,h⟩:=h;exact Zhk hg h ⟨tk,rfl⟩ hd
theorem Zed:∀{p:Str} {l:List Str},risingS p l=true->(p ::l).Pairwise (fun a b=>ltCps b.cps.toList a.cps.toList=false)
 | p,[],_=>by simp
 | p,x ::r,h=>by
  rw [show risingS p (x ::r)=(!ltCps x.cps.toList p.cps.toList && risingS x r) from rfl,Bool.and_eq_true,Bool.not_eq_true'] at h;have ih:=Zed h.2;refine List.pairwise_cons.mpr ⟨fun b hb=>?_,ih⟩;rcases List.mem_cons.mp hb with z|z
  ·rw [z];exact h.1
  ·have h2:=List.rel_of_pairwise_cons ih z;have h1:=h.1;rw [ltCps_eq,decide_eq_false_iff_not] at h1 h2 ⊢;exact List.not_lt.mpr (List.le_trans (List.not_lt.mp h1) (List.not_lt.mp h2))
theorem Zer(h:sortedS l=true)(h':sortedS l'=true)(p:l.Perm l'):l=l':=by
 have pw:∀{l:List Str},sortedS l=true->l.Pairwise (fun a b=>ltCps b.cps.toList a.cps.toList=false):=fun {l} h=>by
  cases l with
  | nil=>exact .nil
  | cons x r=>exact Zed h
 refine p.eq_of_pairwise (fun a b _ _ h1 h2=>?_) (pw h) (pw h');rw [ltCps_eq,decide_eq_false_iff_not] at h1 h2;have e:=List.le_antisymm (List.not_lt.mp h1) (List.not_lt.mp h2);cases a;cases b;simpa using Array.toList_inj.mp e
end L2
end
section
namespace L2
open PySem PyProof.Rows
theorem Zns{E:Value->Shared->Prop}(hh:A.handled=none)(m6:l≠it):∀(n i:Nat) (s:Shared) (Q:List Value->Shared->Prop),(s.heap.IsListIter it l i/\s.heap.IsList l a7)->i+n<=a7.size ->
  (∀h' tk,(h'.IsListIter it l (i+n)/\h'.IsList l a7)->(∀b o,b∉[it]->s.heap.get? b=some o->h'.get? b=some o)->Q ((a7.toList.drop i).take n) { s with heap:=h',toks:=tk })->wpAny (model P w) A (draw (.ref it) n) Q E s
 | 0,i,s,Q,A1,_,hQ=>by
  show wpAny _ _ (pure []) Q E s;exact wpAny_pure (by simpa using hQ s.heap s.toks A1 fun _ _ _ e=>e)
 | n+1,i,s,Q,A1,B0,hQ=>by
  have c6:i<a7.size:=by lia
  show wpAny _ _ (pyNext (.ref it) >>=_) Q E s;refine wpAny_bind ((Walks.list (prog:=P) (w:=w) hh it l m6 a7).item i s _ _ c6 A1 fun v h1 tk1 hv T1 hk1=>?_);refine wpAny_bind (wpAny_holding (Zns hh m6 n (i+1) _ _ T1 (by lia) fun h2 tk2 hst2 E2=>wpAny_pure ?_));have hd:a7.toList.drop i=a7[i] ::a7.toList.drop (i+1):=by simp [List.drop_eq_getElem_cons,c6]
  have ev:v=a7[i]:=by rw [Array.getElem?_eq_getElem c6] at hv;exact (Option.some.inj hv).symm
  have:=hQ h2 tk2 (by rw [show i+(n+1)=i+1+n by lia];exact hst2) fun b o hb e=>E2 b o hb (hk1 b o hb e)
  rw [hd,List.take_succ_cons,<-ev] at this;exact this
theorem Zpg{E:Value->Shared->Prop}{y7:List (Bool×(Value->Sem Unit))}{Q:Unit->Shared->Prop}(hh:A.handled=none)(hl:s.heap.IsList l a7)
  (hn:y7.length=a7.size) (hstar:y7.findIdx? (·.1)=none)
  (h:∀h' tk,(∀b o,s.heap.get? b=some o->h'.get? b=some o)->wpAny (model P w) A (assignInOrder (y7.map (·.2)) a7.toList) Q E { s with heap:=h',toks:=tk }) :
  wpAny (model P w) A (unpack (.ref l) y7) Q E s:=by
 have c6:l<s.heap.objs.size:=by obtain ⟨o,ho,_⟩:=hl;exact Heap.lt_size ho
 have ty:s.TypeIs (.ref l) "list" :=by obtain ⟨o,ho,hc,_⟩:=hl;exact ⟨o,ho,hc⟩
 unfold unpack;rw [hn,hstar];refine wpAny_bind (wpAny_holding ?_);unfold unpackItems;refine wpAny_bind ?_;unfold notIterableAtAll;refine wpAny_bind (wpAny_specialOf ty F.slot_list_iter.lookup ?_);refine wpAny_pure ?_;simp only [Bool.false_eq_true,if_false];refine wpAny_bind (wpAny_holding (wpAny_pyIter_list hl ?_));have m6:l≠s.heap.objs.size:=Nat.ne_of_lt c6;refine wpAny_bind (wpAny_holding (Zns hh m6 a7.size 0 _ _ ⟨⟨_,Heap.get?_push_size _ rfl,rfl,rfl⟩,hl.push _⟩ (by lia) fun h1 tk1 T1 hk1=>?_));have i9:List.take a7.size (List.drop 0 a7.toList)=a7.toList:=by
  rw [List.drop_zero];exact List.take_of_length_le (by simp)
 rw [i9];rw [if_neg (by simp)];rw [Nat.zero_add] at T1;refine wpAny_bind (wpAny_holding ((Walks.list (prog:=P) (w:=w) hh s.heap.objs.size l m6 a7).done _ _ _ T1 fun h2 tk2 E2=>?_));simp only [Option.isSome_none,Bool.false_eq_true,if_false];refine wpAny_pure (h h2 tk2 fun b o e=>?_);have hb:b∉[s.heap.objs.size]:=fun z=>by
  have z':b=s.heap.objs.size:=by simpa using z
  rw [z'] at e;exact Nat.lt_irrefl _ (Heap.lt_size e)
 exact E2 b o hb (hk1 b o hb (Heap.get?_push_of_some _ e))
def Ydm(K:Frag)(n:Nat)(t:TGs):TG:=fun v σ H Q=>∃a xs,v=.ref a/\SqL K H a xs/\xs.length=n/\t xs σ H Q
theorem Zzx(hc:X.calm=true)(h:PGs X es t)
  (hn:(assignEach es X.env).length=n:=by rfl) (A1:(assignEach es X.env).findIdx? (·.1)=none:=by rfl):PG X (.Tuple es k pos) (Ydm X.K n t):=by
 intro a6 s σ H v u Q I r hw;obtain ⟨a,xs,e1,hq,hl,hw⟩:=hw;subst e1;cases r;obtain ⟨a7,rv,ht,hz⟩:=I.list hq;rw [assign_Tuple];refine wpAny_bind (wpAny_standAt (Zpg (I.ok.hd hc) ht.isList (by simp [hn,<-hl,rv.length]) A1 fun h' tk hx=>?_));have I1:Inv X a6 σ H { s with heap:=h',toks:=tk }:=I.kept (t':=tk) fun b o e=>hx b o e
 exact h a6 _ σ H xs _ Q I1 (by simpa using rv) hw
def Zur(ns:List Int):Int:=ns.foldl (· + ·) 0
theorem Zi8(ns:List Int):∀j,preSum (fun i=>ns.getD i 0) j=Zur (ns.take j)\/ns.length<j
 | 0=>.inl rfl
 | j+1=>by
  by_cases h:ns.length<j+1
  ·exact .inr h
  ·refine .inl ?_;rcases Zi8 ns j with e|e
   ·have hj:j<ns.length:=by lia
    rw [preSum,e,List.take_add_one,List.getElem?_eq_getElem hj];unfold Zur;rw [List.foldl_append,List.getD_eq_getElem?_getD,List.getElem?_eq_getElem hj]
    rfl
   ·lia
theorem Zum(hc:X.calm=true):Xu X (.builtin "sum") (fun xs H Q=>∃(p:Addr) (ns:List Int),xs=[.ref p]/\SqL X.K H p (ns.map V.int)/\Q (.int (Zur ns)) H):=by
 intro a6 s σ H xs us Q I r h;obtain ⟨p,ns,rfl,hq,q⟩:=h;obtain ⟨u,rfl,ru⟩:=Zaz r;cases ru;obtain ⟨a7,rv,pl,hz⟩:=I.list hq;have c6:p<s.heap.objs.size:=by obtain ⟨_,_,e,_⟩:=pl;exact Heap.lt_size e
 refine call_sum_walkG (wpAny_pyIter_list pl.isList ?_);refine ⟨s.heap.objs.size,_,_,a7.toArray.size,_,_,fun i=>ns.getD i 0,rfl,Walks.list (A:=X.A.in1) (show X.A.in1.handled=none from I.ok.hd hc) s.heap.objs.size p (Nat.ne_of_lt c6) a7.toArray,⟨⟨_,Heap.get?_push_size _ rfl,rfl,rfl⟩,pl.isList.push _⟩,?_,?_,fun h' tk t' k=>?_⟩
 ·intro b hb;have:=Heap.size_push s.heap { cls:=.type "list_iterator",data:=.fields #[.ref p,.int 0 0] };have O4:b=s.heap.objs.size\/b=p:=by simpa using hb
  show b<(s.heap.push _).objs.size;rw [this];rcases O4 with rfl|rfl
  ·exact Nat.lt_succ_self _
  ·exact Nat.lt_succ_of_lt c6
 ·intro i v hv;obtain ⟨x,hx,rx⟩:=Paired.get' rv (i:=i) (b:=v) (by simpa using hv);rw [List.getElem?_map] at hx;obtain ⟨n,hn,rfl⟩:=Option.map_eq_some_iff.mp hx;obtain ⟨t,rfl⟩:=rx;exact ⟨t,by show Value.int n t=Value.int (ns.getD i 0) t;rw [List.getD_eq_getElem?_getD,hn];rfl⟩
 ·have hl:=rv.length;rw [List.length_map] at hl;refine ⟨.int (Zur ns),H,?_,?_,q⟩
  ·refine I.kept (t':=tk) fun b o e=>k b o ?_ (Heap.get?_push_of_some _ e)
   have:=Heap.lt_size e;intro z;have z':b=s.heap.objs.size:=by simpa using z
   rw [z'] at this;exact Nat.lt_irrefl _ this
  ·refine ⟨t',?_⟩;rw [List.size_toArray,<-hl];rcases Zi8 ns ns.length with e|e
   ·rw [e,List.take_length]
   ·lia
def Zh7(x:Str)(n:Nat):Str:=⟨(List.replicate n x.cps).foldl (· ++ ·) #[]⟩
def Ycc:R2:=fun x y H Q=>∃(z:Str) (n:Nat),x=.str z/\y=.int n/\z.length * n<=1000/\n<=1000/\Q (.str (Zh7 z n)) H
theorem Zx7:OpR X (binaryOp .Mult) Ycc:=by
 intro a6 s σ H x y v u Q I rx ry h;obtain ⟨z,n,rfl,rfl,hz,hn,q⟩:=h;obtain ⟨t,rfl⟩:=rx;obtain ⟨t',rfl⟩:=ry;refine PySem.P.mul_str ?_ ?_ ?_ ?_
 ·rw [decide_eq_false (by lia),decide_eq_false (by lia)];rfl
 ·intro h1 h2 h3;have:((2:Int) ^ 63-1) / (n:Int) ≥ 1000:=by
   rw [ge_iff_le,Int.le_ediv_iff_mul_le (by lia)];lia
  have hz1:z.length<=z.length * n:=Nat.le_mul_of_pos_right _ (by lia);lia
 ·intro h1 h2;show decide (z.length * (n:Int).toNat >sizeLine)=false;rw [decide_eq_false];have:=sz (n:=z.length * n) hz;rw [Int.toNat_natCast];lia
 ·by_cases h0:n=0
  ·subst h0;rw [if_pos (by decide)];exact ⟨by decide,.str (Zh7 z 0),H,I.kept fun b o e=>e,⟨_,rfl⟩,q⟩
  ·rw [if_neg (by lia)]
   by_cases h1:((n:Int) ==1 || z.length ==0)=true
   ·rw [if_pos h1];refine ⟨.str (Zh7 z n),H,I,⟨t,?_⟩,q⟩;have:Zh7 z n=z:=by
     rw [Bool.or_eq_true,beq_iff_eq,beq_iff_eq] at h1;rcases h1 with e|e
     ·have e:n=1:=by lia
      subst e;unfold Zh7;simp
     ·have e:z.cps=#[]:=Array.eq_empty_of_size_eq_zero e;have:∀m,(List.replicate m (#[]:Array Nat)).foldl (· ++ ·) #[]=#[]:=fun m=>by
       induction m with
       | zero=>rfl
       | succ m ih=>rw [List.replicate_succ,List.foldl_cons];simpa using ih
      unfold Zh7;rw [e,this n];cases z;simp at e;rw [e]
    rw [this]
   ·rw [if_neg h1,Int.toNat_natCast];refine ⟨?_,.str (Zh7 z n),H,I.kept fun b o e=>e,⟨_,rfl⟩,q⟩;exact fits_reps (by show decide (_ >sizeLine)=false;rw [decide_eq_false];have:=sz (n:=z.length * n) hz;lia)
def Ydi(K:Frag)(te:TE)(ts:TO):TE:=fun σ H Q=>te σ H fun x H1=>ts σ H1 fun k H2=>∃a xs,k=some (-1)/\x=.ref a/\SqL K H2 a xs/\New H2 (.lst xs.reverse) Q
theorem Yc.rev(h:Yc xs us):Yc xs.reverse us.reverse:=by
 induction h with
 | nil=>exact .nil
 | cons r _ ih=>rw [List.reverse_cons,List.reverse_cons];exact Paired.append ih (.cons r .nil)
theorem Zuu{X:Cx}{e st:Expr}{te:TE}{ts:TO}{p2 pos:Pos}{ops:Value->Value->List Value}(he:PE X e te)(A1:PO X (some st) ts)(hs:∀l r,subscripted (.Slice none none (some st) p2) false l r=operate (ops l r) (getItem l r)):PE X (.Subscript e (.Slice none none (some st) p2) pos) (Ydi X.K te ts):=by
 intro a6 s σ H Q I h;refine Subscript_ (thn (he a6 s σ H _ I h) fun v s1 ⟨x,H1,I1,r1,q1⟩=>?_);refine wpAny_Slice ?_;rw [evalPart_none];refine wpAny_pure ?_;refine wpAny_pure ?_;refine thn (A1 a6 s1 σ H1 _ I1 q1) fun vk s3 ⟨k,H3,I3,pk,a,xs,hk,hx,hq,q⟩=>?_
 subst hk hx;cases r1;have I4:Inv X a6 σ H3 { s3 with heap:=s3.heap.push { cls:=.type "slice",data:=.fields #[.none,.none,vk] } }:=I3.kept (t':=s3.toks) fun b ob q=>Heap.get?_push_of_some _ q
 obtain ⟨a7,r,ht,hz⟩:=I4.list hq;show wpAny (model X.prog X.w) X.A (subscriptTail e (.Slice none none (some st) p2) (.ref a) (.ref s3.heap.objs.size)) (EP X a6 σ Q) X.xe { s3 with heap:=s3.heap.push { cls:=.type "slice",data:=.fields #[.none,.none,vk] } };refine tail_any (ops:=ops (.ref a) (.ref s3.heap.objs.size)) ht.isList.typeIs slot_list_getitem.lookup ?_ (hs _ _);refine wpAny_getItem_list_slice ht.isList (Heap.IsSliceOf.new ..) .none .none pk (by simp) ?_ (by rw [List.size_toArray,<-r.length];exact hz);rw [PySem.W.krv_pick];refine ⟨.ref _,_,I4.laid (t':=s3.toks) (o:=.lst xs.reverse) (fun b ob q=>Heap.get?_push_of_some _ q) (Nat.le_refl _) ?_,rfl,q.at _ (I4.hok.fresh (Nat.le_refl _))⟩;exact ⟨by rw [List.length_reverse];exact hz,_,0,Yc.rev r,Heap.get?_push_size _ rfl⟩
end L2
end
section
namespace L2
open PySem PySem.Spec PyProof.Rows
structure DnD(K:Frag)(x qual:Str)(st:Stmt)(ps:List Str)(v:V) where
 f:Addr
 fd:FuncData
 dV:Value
 F:Zre K x qual st dV f fd
 b:Zau K fd ps []
 u:Value
 r:Yj v u
 b1:Zau K fd ps [u]
theorem Zre.okW{P:Program}{w:World}{K:Frag}{mg:Str->Option Value}{base:Heap}{x qual:Str}{st:Stmt}{dV:Value}{f:Addr}{fd:FuncData}{N ps:List Str}{k:Nat}{sp:Sp}(F:Zre K x qual st dV f fd)(S:Zn N ps (Zi st))
  (m8:∀(a9:Value) (A:Around) (outer:List Env) (s:Shared) (H:Hp) (vs:List V) (Q:VK) (E:XK),X2 k (A.deeper (envOfC qual (Zi st) s.heap.objs.size f a9))->sp vs H Q E ->
   let X:=(Zme CX0 P w K mg base N qual (Zi st) f a9 A outer s H E).nox;WSs X (Xa st) { nx:=fun _ H'=>Q .non H',rt:=Q } (start N vs) H) (len:∀vs H Q E,sp vs H Q E->vs.length=ps.length:=by rintro _ _ _ _ h;repeat (first|(obtain ⟨e,_⟩:=h;subst e;rfl)|obtain ⟨_,h⟩:=h)):Z2 P w K mg base CX0 (k+1) f fd ps sp:=Zre.ok F S len m8
theorem Zgb(hg:Gl X x)(h:∃tk,X.mg x=some (.int v tk)) (hd:(x ==("__debug__" :Str))=false:=by decide):PE X (.Name x pos) (tC (.int v)):=by
 obtain ⟨tk,h⟩:=h;exact Zhk hg h ⟨tk,rfl⟩ hd
theorem Zj9{α:Type}{l:List α}{a:α}(nd:l.Nodup)(h:l[i]? =some a):a∉l.take i:=fun m=>by
 have e:l=l.take i++(a ::l.drop (i+1)):=by rw [<-Zk8 h,List.take_append_drop]
 rw [e,List.nodup_append] at nd;exact nd.2.2 a m a List.mem_cons_self rfl
section
variable {prog:Program} {w:World} {KT:Type} [DecidableEq KT] {knd:HeapKind prog w KT} {A:Around} {E:Value->Shared->Prop} {s:Shared}
theorem Zq4(c:Addr)(hc:(c ==sysModules)=false):MeetsIn prog w (Builtin.«dict.__len__» ⟨[.ref c],[]⟩) (fun _ R s=>∃ys,s.heap.DictOfH knd c ys/\R (.ok (.ret (.int ys.length s.toks))) { s with toks:=s.toks+1 }) :=
 .of_wp fun A R s ⟨ys,hm,h⟩=>by
  obtain ⟨ob,es,ep,C8,_,hda,hen,_,_⟩:=hm;show wpAny _ _ (dictSize c >>=_) _ _ s;unfold dictSize;refine wpAny_bind (wpAny_bind (wpAny_dictEntries C8 hda (wpAny_pure ?_)));show wpAny _ _ (Builtin.Dict.pendingCount c >>=_) _ _ s;refine wpAny_bind (wpAny_pendingCount_other hc (wpAny_ret_mkInt ?_));rw [Nat.add_zero,size_of_entries hen];exact h
theorem Ztd{Q:Value->Shared->Prop}(hc:(c ==sysModules)=false)(hm:s.heap.DictOfH knd c ys)(hf:(ys.length:Int)<2 ^ 63)
  (h:Q (.int ys.length (s.toks+1)) { s with toks:=s.toks+1+1 }):wpAny (model prog w) A (call (.builtin "len") [.ref c]) Q E s:=by
 refine Calls.call_function_entry kind_len plain_len entry_len (args_len1 _) ?_;unfold Builtin.«len»;refine wpAny_bind (m:=oneArg "len" _) (wpAny_pure (wpAny_bind (m:=callSpecial? (.ref c) (Str.ofString "__len__")) ?_));refine wpAny_callSpecial?_slot (name:=Str.ofString "__len__") hm.typeIs F.slot_dict_len (call_meetsIn F.slot_dict_len hm.typeIs F.entry_dict_len (F.args_dict_len_1 _) (Zq4 (knd:=knd) c hc) ⟨ys,hm,?_⟩);show wpAny _ _ _ _ _ { s with toks:=s.toks+1 };refine wpAny_bind (wpAny_holding (wpAny_pure (wpAny_bind (wpAny_letGo ?_))));show wpAny _ _ (if ((ys.length:Nat):Int)<0 then _ else _) _ _ _;rw [if_neg (by lia)];show wpAny _ _ (if ((ys.length:Nat):Int) ≥ 2 ^ 63 then _ else _) _ _ _;rw [if_neg (by lia)];exact wpAny_bind (wpAny_mkInt (wpAny_pure ⟨_,rfl,h⟩))
end
def Zv8:List V->Hp->VK->Prop:=fun xs H Q=>∃a kvs,xs=[V.ref a]/\H a=some (.dT kvs)/\Q (.int kvs.length) H
theorem Znr:Xu X (.builtin "len") Zv8:=by
 intro a6 s σ H xs us Q I r h;obtain ⟨a,kvs,rfl,ha,q⟩:=h;obtain ⟨u,rfl,ru⟩:=Zaz r;cases ru;obtain ⟨z,hd,ys,i7,dd⟩:=Zyv I.hok ha;have hl:kvs.length=ys.length:=Paired.length i7;refine Ztd hd dd (by rw [<-hl];rw [sizeLine_eq] at z;lia) ?_;rw [<-hl];exact ⟨.int _,H,I.tok _,⟨_,rfl⟩,q⟩
section
variable {prog:Program} {w:World} {KT:Type} [DecidableEq KT] {knd:HeapKind prog w KT} {A:Around} {R:Result->Shared->Prop} {l d it:Addr} {tps:List Addr} {qs:List (KT×Addr×Value)} {h₀:Heap}
def Zd3(knd:HeapKind prog w KT)(h:Heap)(tps:List Addr)(qs:List (KT×Addr×Value)):Prop :=
 Paired (fun p (q:KT×Addr×Value)=>(∃o n,h.get? p=some o/\o.cls=.type "tuple" /\o.data=.seq #[.ref q.2.1,q.2.2] n)/\∃ok,h.get? q.2.1=some ok/\∀h':Heap,h'.get? q.2.1=some ok->knd.is h' q.1 q.2.1) tps qs
theorem Zd3.key(hp:Zd3 knd h tps qs):∀q∈qs,∃ok,h.get? q.2.1=some ok/\∀h':Heap,h'.get? q.2.1=some ok->knd.is h' q.1 q.2.1:=by
 unfold Zd3 at hp
 induction hp with
 | nil=>intro q z;cases z
 | cons r _ ih =>
  intro q z;rcases List.mem_cons.mp z with rfl|z
  ·exact r.2
  ·exact ih q z
theorem Zk2{h h':Heap}{ys:List (KT×Addr×Value)}(hD:h.DictOfH knd d ys)(hd:∀o,h.get? d=some o->h'.get? d=some o)(hk:∀y∈ys,knd.is h' y.1 y.2.1):h'.DictOfH knd d ys:=by
 obtain ⟨o,es,ep,ho,r1,r2,r3,_,r5⟩:=hD;exact ⟨o,es,ep,hd o ho,r1,r2,r3,hk,r5⟩
theorem Zqf(hh:A.handled=none)(hu:knd.room A.in1)(hdi:d≠it)(hl:h₀.IsList l (tps.map Value.ref).toArray)(hld:l≠d)(S5:l≠it)(hp:Zd3 knd h₀ tps qs)(R9:(qs.map (·.1)).Nodup)(hsz:qs.length<=sizeLine)
  (hpd:∀p∈tps,p≠d/\p≠it) (hqd:∀q∈qs,q.2.1≠d/\q.2.1≠it) :
  ∀(n i:Nat) (s:Shared) (j:Int) (tk:Tok),i+n=qs.length->s.heap.IsListIter it l i->s.heap.DictOfH knd d (qs.take i)->(∀b o,b≠d->b≠it->h₀.get? b=some o->s.heap.get? b=some o) ->
   (∀h' u7,h'.DictOfH knd d qs->(∀b o,b≠d->b≠it->h₀.get? b=some o->h'.get? b=some o)->R (.ok (.ret .none)) { s with heap:=h',toks:=u7 }) ->
   codeAny (model prog w) A (.builtin "dict.update.loop" ⟨[.ref d,.ref it,.int j tk,.none],[]⟩) R s:=by
 have d4:tps.length=qs.length:=Paired.length hp;have E8:=hp.key;have hu':∀args:Args,knd.room (A.under (.builtin "dict.update.loop" args)):=fun args=>by rw [Around.under_plainId (by trivial)];exact hu
 have is_:∀h':Heap,(∀b o,b≠d->b≠it->h₀.get? b=some o->h'.get? b=some o)->∀q∈qs,knd.is h' q.1 q.2.1:=fun h' kp q hq=>by
  obtain ⟨ok,h1,h2⟩:=E8 q hq;exact h2 h' (kp _ _ (hqd q hq).1 (hqd q hq).2 h1)
 intro n
 induction n with
 | zero =>
  intro i s j tk hi hit hD keep hq;have E4:s.heap.IsList l (tps.map Value.ref).toArray:=by
   obtain ⟨o,ho,r⟩:=hl;exact ⟨o,keep _ _ hld S5 ho,r⟩
  refine codeAny_builtin Zf9 ?_;unfold Builtin.«dict.update.loop»;dsimp only;refine wpAny_bind (wpAny_pyNext_list_end hh hit E4 (by rw [List.getElem?_toArray,List.getElem?_map,List.getElem?_eq_none (by lia)];rfl) fun h' eb=>?_);dsimp only;refine wpAny_bind (wpAny_pure (wpAny_pure ?_));have kp:∀b o,b≠d->b≠it->h₀.get? b=some o->h'.get? b=some o:=fun b o h1 h2 h3=>eb b o h2 (keep b o h1 h2 h3)
  refine hq h' s.toks ?_ kp;rw [show qs.take i=qs from List.take_of_length_le (by lia)] at hD;exact Zk2 hD (fun o ho=>eb d o hdi ho) (is_ h' kp)
 | succ n ih =>
  intro i s j tk hi hit hD keep hq;have E4:s.heap.IsList l (tps.map Value.ref).toArray:=by
   obtain ⟨o,ho,r⟩:=hl;exact ⟨o,keep _ _ hld S5 ho,r⟩
  have F5:i<tps.length:=by lia
  obtain ⟨q,hqi,⟨ot,nt,p0,hct,hdt⟩,_⟩:=Paired.get hp (i:=i) (a:=tps[i]) (List.getElem?_eq_getElem F5);obtain ⟨nd,ni⟩:=hpd tps[i] (List.getElem_mem F5);have hqm:q∈qs:=List.mem_of_getElem? hqi;refine codeAny_builtin Zf9 ?_;unfold Builtin.«dict.update.loop»;dsimp only;refine wpAny_bind (wpAny_pyNext_list_item hit E4 (x:=.ref tps[i]) (by rw [List.getElem?_toArray,List.getElem?_map,List.getElem?_eq_getElem F5];rfl) fun h1 it1 sb1=>?_);have O5:h1.get? tps[i]=some ot:=by rw [sb1.2 _ ni];exact keep _ _ nd ni p0
  have hT:({ s with heap:=h1 }:Shared).TypeIs (.ref tps[i]) "tuple" :=⟨_,O5,hct⟩
  have kp1:∀b o,b≠d->b≠it->h₀.get? b=some o->h1.get? b=some o:=fun b o z1 z2 z3=>by rw [sb1.2 _ z2];exact keep b o z1 z2 z3
  have N1:h1.DictOfH knd d (qs.take i):=Zk2 hD (fun o ho=>by rw [sb1.2 _ hdi];exact ho) fun y hy=>is_ h1 kp1 y (List.mem_of_mem_take hy)
  refine wpAny_bind (wpAny_holding (wpAny_bind (wpAny_tryCatch ?_)));unfold Builtin.Dict.pairItems;refine wpAny_bind (wpAny_typeOf hT ?_);rw [if_pos (by decide)];refine wpAny_bind (wpAny_seqItems (s:={ s with heap:=h1 }) O5 hdt (wpAny_pure ?_));refine wpAny_holding (wpAny_dictSet_heap (s:={ s with heap:=h1 }) (hu' _) (is_ h1 kp1 q hqm) N1 (fun h2 A4 sb2=>?_) ?_)
  ·refine wpAny_pure ⟨Code.quiet_builtin _ (by trivial),?_⟩;have M9:atKey (qs.take i) q.1=none:=by
    cases e:atKey (qs.take i) q.1 with
    | none=>rfl
    | some z =>
     unfold atKey at e;obtain ⟨y,hy,_⟩:=Option.map_eq_some_iff.mp e;have y0:=List.find?_some hy;have y1:y.1=q.1:=of_decide_eq_true y0;have m1:y.1∈(qs.map (·.1)).take i:=by rw [<-List.map_take];exact List.mem_map.mpr ⟨y,List.mem_of_find?_eq_some hy,rfl⟩
     rw [y1] at m1;exact absurd m1 (Zj9 R9 (by rw [List.getElem?_map,hqi];rfl))
   have A1:storedH (qs.take i) q.1 q.2.1 q.2.2=qs.take (i+1):=by rw [storedH_new M9,List.take_add_one,hqi];rfl
   rw [A1] at A4;refine ih (i+1) { s with heap:=h2,toks:=_ } (j+1) _ (by lia) ?_ A4 (fun b o n1 n2 z=>?_) fun h' u7=>hq h' u7
   ·exact it1.at fun o z=>by rw [sb2.2 _ hdi.symm];exact z
   ·rw [sb2.2 _ n1];exact kp1 b o n1 n2 z
  ·rw [List.length_take];lia
theorem Ziq{Q:Value->Shared->Prop}{E:Value->Shared->Prop}(hh:A.handled=none)(hu:knd.room A.in1.in1) (hx:s.heap.get? l=some { cls:=.type "list",data:=.seq (tps.map Value.ref).toArray n }) (hp:Zd3 knd s.heap tps qs) (R9:(qs.map (·.1)).Nodup) (hsz:qs.length<=sizeLine)
  (h:∀h' u7 dd,h'.DictOfH knd dd qs->dd=s.heap.objs.size->s.heap.get? dd=none->(∀b o,s.heap.get? b=some o->h'.get? b=some o)->Q (.ref dd) { s with heap:=h',toks:=u7 }) :
  wpAny (model prog w) A (call (.type "dict") [.ref l]) Q E s:=by
 refine callType_codes (Q₁:=fun obj s₁=>obj=.ref s.heap.objs.size/\s₁={ s with heap:=s.heap.push { cls:=.type "dict",data:=.dict #[] } }) F.kt_called_dict (F.kt_typeCall_dict_1 _) F.entry_dict_init (kt_code_dict_new _ ⟨rfl,rfl⟩) ?_;rintro obj s₁ ⟨rfl,rfl⟩;have i5:(s.heap.push { cls:=.type "dict",data:=.dict #[] }).DictOfH knd s.heap.objs.size []:=Heap.DictOfH.new s.heap;have hx1:(s.heap.push { cls:=.type "dict",data:=.dict #[] }).get? l=some { cls:=.type "list",data:=.seq (tps.map Value.ref).toArray n }:=Heap.get?_push_of_some _ hx;refine ⟨i5.typeIs,F.args_dict_init_2 _ _,?_⟩;unfold Builtin.«dict.__init__»;refine wpAny_bind ?_;unfold Builtin.Dict.selfAndRest;refine wpAny_bind (wpAny_notOrdered_dict i5.typeIs ?_);show wpAny _ _ (pure (s.heap.objs.size,[Value.ref l])) _ _ _;refine wpAny_pure ?_;show wpAny _ _ (Builtin.Dict.updateFrom "dict.__init__" s.heap.objs.size (.ref l) [] .none) _ _ _;unfold Builtin.Dict.updateFrom;refine wpAny_bind (wpAny_typeOf (T := "list") ⟨_,hx1,rfl⟩ ?_);rw [if_pos (by decide)];obtain ⟨h0,g0,d0,t0,os0⟩:=s;dsimp only at *;refine wpAny_bind (Znm hh hx1 fun h1 tk1 k1=>?_);simp only [Option.isNone_none,if_true];have T3:=k1 _ _ hx1;have L5:h1.IsList l (tps.map Value.ref).toArray:=⟨_,T3,rfl,n,rfl⟩
 refine wpAny_bind (wpAny_rule (wpAny_bind (wpAny_pyIter_list (s:=⟨h1,g0,d0,tk1,os0⟩) L5 (wpAny_pure ⟨Code.quiet_builtin _ (by trivial),?_⟩))));have k2:∀b o,h0.get? b=some o->(h1.push { cls:=.type "list_iterator",data:=.fields #[.ref l,.int 0 0] }).get? b=some o:=fun b o z=>Heap.get?_push_of_some _ (k1 _ _ (Heap.get?_push_of_some _ z))
 have hd1:h1.get? h0.objs.size=some { cls:=.type "dict",data:=.dict #[] }:=k1 _ _ (Heap.get?_push_size h0 rfl);have lt1:h0.objs.size<h1.objs.size:=Heap.lt_size hd1;have T8:l<h0.objs.size:=Heap.lt_size hx;have T9:∀c o,h0.get? c=some o->c≠h0.objs.size/\c≠h1.objs.size:=fun c o z=>by
  have:=Heap.lt_size z;exact ⟨Nat.ne_of_lt this,Nat.ne_of_lt (Nat.lt_trans this lt1)⟩
 refine Zqf (A:=A.in1) (knd:=knd) (h₀:=h1.push { cls:=.type "list_iterator",data:=.fields #[.ref l,.int 0 0] }) (l:=l) (tps:=tps) (qs:=qs) hh hu (Nat.ne_of_lt lt1) ?_ (Nat.ne_of_lt T8) (Nat.ne_of_lt (Nat.lt_trans T8 lt1)) ?_ R9 hsz (fun p z=>?_) (fun q z=>?_) qs.length 0 ⟨h1.push { cls:=.type "list_iterator",data:=.fields #[.ref l,.int 0 0] },g0,d0,tk1,os0⟩ 0 0 (by lia) ?_ ?_ (fun _ _ _ _ z=>z) fun h' u7 hD kp=>?_
 ·exact ⟨_,k2 _ _ hx,rfl,n,rfl⟩
 ·exact Paired.mapP hp fun p q ⟨⟨o,m,z2,z3⟩,ok,z4,z5⟩=>⟨⟨o,m,k2 _ _ z2,z3⟩,ok,k2 _ _ z4,z5⟩
 ·obtain ⟨i,hi,rfl⟩:=List.getElem_of_mem z;obtain ⟨q,_,⟨o,m,z2,_⟩,_⟩:=Paired.get hp (i:=i) (a:=tps[i]) (List.getElem?_eq_getElem hi);exact T9 _ _ z2
 ·obtain ⟨ok,z4,_⟩:=hp.key q z;exact T9 _ _ z4
 ·exact ⟨_,Heap.get?_push_size h1 rfl,rfl,rfl⟩
 ·exact Zk2 i5 (fun o ho=>Heap.get?_push_of_some _ (k1 _ _ ho)) fun y hy=>by cases hy
 ·refine ⟨rfl,h h' u7 h0.objs.size hD rfl (Heap.get?_none_of_le (Nat.le_refl _)) fun b o z=>kp b o ?_ ?_ (k2 b o z)⟩
  ·exact (T9 _ _ z).1
  ·exact (T9 _ _ z).2
end
def Zvi:List V->Hp->VK->Prop:=fun xs H Q=>∃(l:Addr) (tps:List Addr) (kvs:List (List Key×V)),xs=[.ref l]/\H l=some (.lst (tps.map V.ref)) /\
 Paired (fun t (q:List Key×V)=>∃a,H t=some (.tup [.ref a,q.2])/\H a=some (.tup (q.1.map kV))) tps kvs/\(kvs.map Prod.fst).Nodup/\New H (.dT kvs) Q
theorem Zqz(hc:X.calm=true)(hu:X.A.units+64<cLine):Xu X (.type "dict") Zvi:=by
 intro a6 s σ H xs us Q I r h;obtain ⟨l,tps,kvs,rfl,hl,hp,hn,q⟩:=h;obtain ⟨u,rfl,ru⟩:=Zaz r;cases ru;obtain ⟨hz,a7,n,rv,hg⟩:=(show Yr X.prog X.w H s.heap l (.lst (tps.map V.ref)) from I.hok l _ hl)
 rw [Zn2 rv] at hg;have key:∀{tps:List Addr} {kvs:List (List Key×V)},Paired (fun t (q:List Key×V)=>∃a,H t=some (.tup [.ref a,q.2])/\H a=some (.tup (q.1.map kV))) tps kvs->∃qs,KT H kvs qs/\Zd3 (tupleKind (Z0 X.prog X.w)) s.heap tps qs:=by
  intro tps kvs hp
  induction hp with
  | nil=>exact ⟨[],.nil,.nil⟩
  | cons r t ih =>
   rename_i p q _ _;obtain ⟨qs,h1,h2⟩:=ih;obtain ⟨a,ra,rk⟩:=r;obtain ⟨_,a7,rv,o,ho,t9,m,hd⟩:=(show Yr X.prog X.w H s.heap p (.tup [.ref a,q.2]) from I.hok p _ ra)
   obtain ⟨k,v,rfl,rk1,rv2⟩:=Zpy rv;cases (show k=Value.ref a from rk1);obtain ⟨_,D5,r2,o2,T7,hcl2,m2,hd2⟩:=(show Yr X.prog X.w H s.heap a (.tup (q.1.map kV)) from I.hok a _ rk)
   exact ⟨(q.1,a,v) ::qs,.cons ⟨rfl,rk,rv2⟩ h1,.cons ⟨⟨o,m,ho,t9,hd⟩,o2,T7,fun h' e=>⟨o2,_,m2,e,hcl2,hd2,by simpa using Ziy r2⟩⟩ h2⟩
 obtain ⟨qs,y9,hpi⟩:=key hp;have hql:kvs.length=qs.length:=Paired.length y9;have B0:kvs.length<=sizeLine:=by
  have:=Paired.length hp;rw [List.length_map] at hz;lia
 have R9:(qs.map (·.1)).Nodup:=by
  have:∀{kvs:List (List Key×V)} {qs:List (List Key×Addr×Value)},KT H kvs qs->qs.map (·.1)=kvs.map Prod.fst:=by
   intro kvs qs z
   induction z with
   | nil=>rfl
   | cons r t ih=>rw [List.map_cons,List.map_cons,ih,r.1]
  rw [this y9];exact hn
 refine Ziq (knd:=tupleKind (Z0 X.prog X.w)) (I.ok.hd hc) (tupleKind_room_in1 (A:=X.A.in1) (by show X.A.units+1+1<cLine;lia)) hg hpi R9 (by rw [<-hql];exact B0) fun h' u7 dd hD hdd hn' k=>?_
 have hsm:dd≠sysModules:=fun z=>by
  have hb:=I.big;rw [<-hdd,z] at hb;exact Nat.lt_irrefl _ hb
 have hH0:H dd=none:=by
  cases e:H dd with
  | none=>rfl
  | some u =>
   obtain ⟨ob,z⟩:=(I.hok dd u e).there;rw [hn'] at z;cases z
 obtain ⟨o,es,ep,e1,e2,e3,e4,_,e5⟩:=hD;obtain ⟨hH,J⟩:=I.laidAt (t':=u7) (o:=.dT kvs) k hn' (show Yr X.prog X.w (upd H dd (.dT kvs)) h' dd (.dT kvs) from ⟨B0,beq_eq_false_iff_ne.mpr hsm,qs,y9.keeps fun b ys e=>by rw [Ze (Zh e hH0)];exact e,o,es,ep,e1,e2,e3,e4,e5⟩);exact ⟨.ref dd,_,J,rfl,q.at dd hH⟩
end L2
end
section
namespace L2
open PySem PySem.Spec PyProof.Rows
section
variable {prog:Program} {w:World} {A:Around} {E:Value->Shared->Prop} {s:Shared}
end
end L2
end
section
namespace L2
open PySem PySem.Spec PyProof.Rows
section
variable {prog:Program} {w:World} {A:Around} {E:Value->Shared->Prop} {s:Shared} {o:Array Keyed} {κ:KeyKind} {kd:SortKind}
def Lts(prog:Program)(w:World)(A:Around)(s:Shared)(κ:KeyKind)(kd:SortKind):Prop :=
 ∀(x y:Value) (a b:κ.α) (E':Value->Shared->Prop) (Q':Bool->Shared->Prop),κ.keyOf x=some a->κ.keyOf y=some b->a≠b->Q' (κ.blt a b) s->wpAny (model prog w) A (keyLt' kd x y) Q' E' s
def Ybw(κ:KeyKind)(o:Array Keyed):Prop:=(o.toList.map fun p=>κ.keyOf p.1).Nodup
variable (hL:Lts prog w A s κ kd) (k:KeysOf κ o) (d:Ybw κ o)
include hL k d
end
end L2
namespace L2
open PySem PySem.Spec PyProof.Rows
section
variable {prog:Program} {w:World} {A:Around} {E:Value->Shared->Prop} {s:Shared}
theorem Yay:∀{vs:List Value},vs.length<2->(vs.toArray.zip vs.toArray).map (·.2)=vs.toArray
 | [],_=>by simp
 | [_],_=>by simp
 | _ ::_ ::_,h=>absurd h (by simp)
theorem Yba{α β:Type}{f:α->β}{R:β->β->Prop}:∀{vs:List α},vs.length<2->(vs.map f).Pairwise R
 | [],_=>.nil
 | [_],_=>List.pairwise_singleton _ _
 | _ ::_ ::_,h=>absurd h (by simp)
theorem Ydw{α:Type}:∀{vs:List α},2<=vs.length->∃a b r,vs=a ::b ::r
 | a ::b ::r,_=>⟨a,b,r,rfl⟩
end
end L2
namespace L2
open PySem PySem.Spec PyProof.Rows
end L2
end
section
namespace L2
open PySem PySem.Spec PyProof.Rows
def Itv(K:Frag)(l:Addr)(n:Nat):It :=
 ⟨fun i H=>i<n/\∃xs,SqL K H l xs/\xs.length=n,fun i H x H'=>H'=H/\∀xs,SqL K H l xs->xs.reverse[i]? =some x,fun i _=>i=n⟩
theorem Zuj{P:Program}{w:World}{K:Frag}{tg:Expr}(l it:Addr)(n:Nat):Zmg P w K tg (Itv K l n) [it] it (fun i h=>h.IsRevIter it l ((n:Int)-1-(i:Nat))) where
 mem:=by simp
 obj:=fun i h st b hb=>by
  have e:b=it:=by simpa using hb
  subst e;obtain ⟨o,e,c,d⟩:=st;exact ⟨o,e,fun v z=>by rw [d] at z;cases z⟩
 keep:=fun i h h' st k=>st.at fun o e=>k it (by simp) o e
 item:=by
  intro X hP hw hK hc i a6 s σ H E I hf st hg;subst hP hw hK;obtain ⟨hi,xs,hq,hn⟩:=hg;obtain ⟨a7,rv,p,hz⟩:=I.list hq;have c6:n-1-i<xs.length:=by lia
  have hx:xs[n-1-i]? =some xs[n-1-i]:=List.getElem?_eq_getElem c6;obtain ⟨u,hu,ru⟩:=rv.get hx;obtain ⟨f0,f1,f2,f3,f4,f5⟩:=hf it (by simp);rw [show (n:Int)-1-(i:Nat)=((n-1-i:Nat):Int) by lia] at st;refine wpAny_pyNext_rev_item st p.isList (x:=u) (by simpa using hu) fun h' x0 sb=>?_
  rw [show ((n-1-i:Nat):Int)-1=(n:Int)-1-((i+1:Nat):Nat) by lia] at x0;have I1:Inv X a6 σ H { s with heap:=h' }:=I.turned (t':=s.toks) (fun b o hb e=>(sb.2 b hb).trans e) f0 f1 f3 f4 f5;obtain ⟨o,e,c,d⟩:=id x0;refine ⟨u,rfl,Zl6 (s:={ s with heap:=h' }) e c d (by decide) ⟨_,H,I1,ru,⟨rfl,fun ys hy=>?_⟩,x0,fun b hb=>(hf b hb).1⟩⟩;rw [I.list_inj hy hq,List.getElem?_reverse (by lia),hn,hx]
 done:=by
  intro X hP hw hK hc i a6 s σ H E I hf st hg;subst hP hw hK;obtain ⟨f0,f1,f2,f3,f4,f5⟩:=hf it (by simp);have hg:i=n:=hg;rw [hg,show (n:Int)-1-(n:Nat)=-1 by lia] at st;exact wpAny_pyNext_rev_end (I.ok.hd hc) st fun h' eb=>⟨rfl,I.turned (t':=s.toks) (fun b o hb e=>eb b o hb e) f0 f1 f3 f4 f5⟩
 self:=fun _ _ _ _ _ st h=>wpAny_pyIter_revIter st h
def Ycr(K:Frag)(ta:TA):TI:=fun σ H R=>ta σ H fun vs H1=>∃l xs,vs=[.ref l]/\SqL K H1 l xs/\R (Itv K l xs.length) H1
theorem Yax{X:Cx}{tg a:Expr}{ta:TA}{p pos:Pos} (hg:Gl X "reversed") (hm:X.mg "reversed" =none) (ha:PA X [a] ta) (hs:starEach [a] X.env=[(false,eval a X.env)]:=by rfl) :
  PI X tg (.Call (.Name "reversed" p) [a] [] pos) (Ycr X.K ta):=by
 intro a6 s σ H R I h;refine Call_ (Zfr I hg hm boot_reversed (PyProof.Rows.callWith_type1 (thn (ha pos a6 s σ H _ I h) fun us s1 ⟨vs,H1,I1,r1,q1⟩=>?_) hs rfl));obtain ⟨l,xs,e,hq,q⟩:=q1;subst e;obtain ⟨u,rfl,ru⟩:=Zaz r1;cases ru;obtain ⟨a7,rv,pl,hz⟩:=I1.list hq;have d4:=rv.length;refine call_reversed_list pl.isList (wpAny_pyIter_revIter ⟨_,Heap.get?_push_size _ rfl,rfl,rfl⟩ ?_);refine ⟨s1.heap.objs.size,[s1.heap.objs.size],_,_,H1,rfl,I1.kept (t':=s1.toks) fun b o e=>Heap.get?_push_of_some _ e,Zuj l _ xs.length,⟨_,Heap.get?_push_size _ rfl,rfl,?_⟩,fun b hb=>?_,q⟩
 ·show Data.fields #[.ref l,rawInt ((a7.toArray.size:Int)-1)]=Data.fields #[.ref l,rawInt ((xs.length:Int)-1-((0:Nat):Int))];rw [show (a7.toArray.size:Int)-1=(xs.length:Int)-1-((0:Nat):Int) by rw [List.size_toArray,<-d4];lia]
 ·have e:b=s1.heap.objs.size:=by simpa using hb
  subst e;exact I1.fpOk (Nat.le_refl _) (I1.hok.fresh (Nat.le_refl _))
theorem Zv3{K:Frag}{l:Addr}{xs:List V}{fr:St->St}{g:TG}{tf:TT}{te:TE}{Q:VK}{σ:St}{H1:Hp}{D:Addr}(Pv:Nat->List V->Hp->Prop)(h0:Pv 0 [] (upd H1 D (.lst [])))(hl:∀i ys H,i<=xs.length->Pv i ys H->SqL K H l xs)
  (hs:∀i x ys H,xs.reverse[i]? =some x->Pv i ys H->Zam fr g tf te σ D x ys H (Pv (i+1))) (hd:∀ys H,Pv xs.length ys H->Q (.ref D) H):Zft (Itv K l xs.length) fr g tf te Q σ H1 D:=by
 refine ⟨fun i m ys H=>m=xs.length-i/\i<=xs.length/\Pv i ys H,⟨xs.length,by simp,Nat.zero_le _,h0⟩,?_⟩;rintro i m ys H ⟨rfl,hi,p⟩;have q:=hl i ys H hi p
 by_cases c6:i<xs.length
 ·refine .inr ⟨⟨c6,xs,q,rfl⟩,Pv (i+1),fun ys' H' p'=>⟨xs.length-(i+1),by lia,rfl,c6,p'⟩,fun x H' y=>?_⟩;obtain ⟨e,y⟩:=y;subst e;exact hs i x ys _ (y xs q) p
 ·have e:i=xs.length:=by lia
  subst e;exact .inl ⟨rfl,hd ys H p⟩
end L2
end
section
namespace L2
open PySem PyProof.Rows
section
variable {prog:Program} {w:World} {A:Around} {E:Value->Shared->Prop} {s:Shared} {o:Array Keyed} {kd:SortKind} {p:Array (Nat×Nat×Nat)} {st:SortSt}
def Ybp(prog:Program)(w:World)(A:Around)(s:Shared)(kd:SortKind)(o:Array Keyed):Prop :=
 ∀x∈o,∀y∈o,∀(E':Value->Shared->Prop) (Q':Bool->Shared->Prop),(∀b,Q' b s)->wpAny (model prog w) A (keyLt' kd x.1 y.1) Q' E' s
variable (L:Ybp prog w A s kd o)
include L
omit L
variable {a b out:Array Keyed} {x y z:List Keyed} {v:Keyed}
omit L in
omit L in
section
variable {C D F:Type} {pd:Array Keyed->Nat->Nat->Prop} {fd:Array Keyed->Nat->Nat->D->C} {ls:List Keyed} {fu:Array Keyed->F->C} {G G1 G2:C->SortSt->Prop}
end
include L
omit L
include L
omit L in
end
end L2
end
section
namespace L2
open PySem PySem.Spec PyProof.Rows
section
variable {prog:Program} {w:World} {A:Around} {E:Value->Shared->Prop} {s:Shared} {d it:Addr} {i ep:Nat} {es:Array DictEntry}
end
end L2
end
section
namespace L2
open PySem PySem.Spec PyProof.Rows
section
variable {prog:Program} {w:World} {A:Around} {E:Value->Shared->Prop} {s:Shared}
end
end L2
end
section
namespace L2
open PySem PySem.Spec PyProof.Rows
end L2
end
section
namespace L2
open PySem PySem.Spec PyProof.Rows
def Itw(d:Addr)(o:Obj)(kvs:List (Key×V)):It :=
 ⟨fun i H=>H d=some (.frz o (.dK kvs))/\i<kvs.length,fun i H x H'=>H'=H/\∃kv,kvs[i]? =some kv/\x=kv.2,fun i H=>H d=some (.frz o (.dK kvs))/\kvs.length<=i⟩
theorem Ztf{P:Program}{w:World}{K:Frag}{tg:Expr}{d:Addr}{o:Obj}{kvs:List (Key×V)}{vs:List (Key×Value)}{ep:Nat}(it:Addr)(hk:KV kvs vs)
  (hD:∀h:Heap,h.get? d=some o->h.DictAt (Z0 P w) d vs ep):Zmg P w K tg (Itw d o kvs) [it] it (fun i h=>h.IsValIter it d i vs.length ep) where
 mem:=by simp
 obj:=fun i h st b hb=>by
  have e:b=it:=by simpa using hb
  subst e;obtain ⟨ob,e,c,dd⟩:=st;exact ⟨ob,e,fun v z=>by rw [dd] at z;cases z⟩
 keep:=fun i h h' st k=>st.at fun o e=>k it (by simp) o e
 item:=by
  intro X hP hw hK hc i a6 s σ H E I hf st hg;subst hP hw hK;obtain ⟨hq,c6⟩:=hg;obtain ⟨f0,f1,f2,f3,f4,f5⟩:=hf it (by simp);have O3:s.heap.get? d=some o:=(I.hok d _ hq).1;obtain ⟨u,hu,ru⟩:=hk.get (i:=i) (kv:=kvs[i]) (by simp [c6]);refine wpAny_pyNext_values_item (knd:=Z0 X.prog X.w) st (hD _ O3) hu fun h' x0 sb=>?_
  have I1:Inv X a6 σ H { s with heap:=h' }:=I.turned (t':=s.toks) (fun b o hb e=>(sb.2 b hb).trans e) f0 f1 f3 f4 f5;obtain ⟨ob,e,c,dd⟩:=id x0;exact ⟨u,rfl,Zl6 (s:={ s with heap:=h' }) e c dd (by decide) ⟨kvs[i].2,H,I1,ru,⟨rfl,kvs[i],by simp [c6],rfl⟩,x0,fun b hb=>(hf b hb).1⟩⟩
 done:=by
  intro X hP hw hK hc i a6 s σ H E I hf st hg;subst hP hw hK;obtain ⟨hq,B0⟩:=hg;obtain ⟨f0,f1,f2,f3,f4,f5⟩:=hf it (by simp);have O3:s.heap.get? d=some o:=(I.hok d _ hq).1;have hl:=KV.length hk;exact wpAny_pyNext_values_end (knd:=Z0 X.prog X.w) (I.ok.hd hc) st (hD _ O3) (List.getElem?_eq_none (by lia)) fun h' eb=>⟨rfl,I.turned (t':=s.toks) (fun b o hb e=>eb b o hb e) f0 f1 f3 f4 f5⟩
 self:=fun _ _ _ _ _ st h=>wpAny_pyIter_valiter st h
def Ybb(X:Cx)(tl:TE):TI:=fun σ H R=>tl σ H fun x H1=>∃d kvs,x=.ref d/\H1 d=some (.dK kvs)/\∀o,NF X d (.dK kvs)->R (Itw d o kvs) (upd H1 d (.frz o (.dK kvs)))
theorem Zw3{X:Cx}{tg:Expr}{c7 d7:Pos}{o:Expr}{to:TE}(ho:PE X o to) (u0:attributeBase o "values" X.env (eval o X.env)=eval o X.env:=by rfl) (u6:(c7.endLine ==d7.line)=true:=by rfl) :
  PI X tg (.Call (.Attribute o "values" c7) [] [] d7) (Ybb X to):=by
 intro a6 s σ H R I h;refine wpAny_Call_method0_late u0 u6 (thn (ho a6 s σ H _ I h) fun v s1 ⟨y,H1,I1,r1,q1⟩=>?_);obtain ⟨d,kvs,rfl,hd,q⟩:=q1;cases r1;obtain ⟨hz,hs,vs,kv,dd⟩:=Zi9 I1.hok hd;obtain ⟨ob,_,_,C8,hex,_⟩:=id dd;obtain ⟨ep,hD⟩:=Zf8 dd C8;refine ⟨"dict", "dict.values",PySem.F.plainAttrs_dict,PySem.F.slot_dict_values,PySem.F.type_dict_values,dd.typeIs,fun a e=>?_,Calls.callWith_builtin rfl (PySem.evalArgs_none ?_)⟩
 ·cases e;exact ⟨ob,C8,hex.2.1⟩
 refine call_meetsIn PySem.F.slot_dict_values dd.typeIs PySem.F.entry_dict_values (PySem.F.args_dict_values_1 _) (meets_dict_values (Z0 X.prog X.w) d hs) ⟨⟨vs,dd⟩,?_⟩;have I2:=I1.freeze hd rfl C8;have I3:Inv X a6 σ (upd H1 d (.frz ob (.dK kvs))) { s1 with heap:=s1.heap.push { cls:=.type "dict_values",data:=.fields #[.ref d] } }:=I2.kept (t':=s1.toks) fun b o e=>Heap.get?_push_of_some _ e
 refine wpAny_pyIter_values (knd:=Z0 X.prog X.w) (d:=d) ⟨_,Heap.get?_push_size _ rfl,rfl,rfl⟩ (hD _ (Heap.get?_push_of_some _ C8)) ?_;refine ⟨_,[_],_,_,_,rfl,I3.kept (t':=s1.toks) fun b o e=>Heap.get?_push_of_some _ e,Ztf _ kv hD,⟨_,Heap.get?_push_size _ rfl,rfl,rfl⟩,fun b hb=>?_,q ob ⟨I1.notFrz hd (fun _ _ z=>nomatch z),fun _ z=>nomatch z⟩⟩;have e:=List.mem_singleton.mp hb;subst e;exact I3.fpOk (Nat.le_refl _) (I3.hok.fresh (Nat.le_refl _))
theorem Zue{d:Addr}{o:Obj}{kvs:List (Key×V)}{g:TG}{tb:TS}{D:Zh3}{σ:St}{H:Hp}(Pv:Nat->St->Hp->Prop)(h0:Pv 0 σ H)(hl:∀i σ H,i<=kvs.length->Pv i σ H->H d=some (.frz o (.dK kvs)))
  (hs:∀i kv σ H,kvs[i]? =some kv->Pv i σ H->g kv.2 σ H fun σ2 H2=>tb { D with nx:=Pv (i+1),ct:=Pv (i+1),bk:=D.nx } σ2 H2) (hd:∀σ H,Pv kvs.length σ H->D.nx σ H) :
  ∃W:Nat->Nat->St->Hp->Prop,(∃m,W 0 m σ H)/\∀i m σ H,W i m σ H ->
   ((Itw d o kvs).stop i H/\D.nx σ H)\/((Itw d o kvs).go i H/\∃N:St->Hp->Prop,(∀σ' H',N σ' H'->∃m',m'<m/\W (i+1) m' σ' H')/\∀x H',(Itw d o kvs).yld i H x H'->g x σ H' fun σ2 H2=>tb { D with nx:=N,ct:=N,bk:=D.nx } σ2 H2):=by
 refine ⟨fun i m σ H=>m=kvs.length-i/\i<=kvs.length/\Pv i σ H,⟨kvs.length,by simp,Nat.zero_le _,h0⟩,?_⟩;rintro i m σ H ⟨rfl,hi,p⟩;have q:=hl i σ H hi p
 by_cases c6:i<kvs.length
 ·refine .inr ⟨⟨q,c6⟩,Pv (i+1),fun σ' H' p'=>⟨kvs.length-(i+1),by lia,rfl,c6,p'⟩,fun x H' y=>?_⟩;obtain ⟨e,kv,y9,e2⟩:=y;subst e e2;exact hs i kv σ _ y9 p
 ·have e:i=kvs.length:=by lia
  subst e;exact .inl ⟨⟨q,Nat.le_refl _⟩,hd σ H p⟩
end L2
end
section
namespace L2
open PySem PySem.Spec PyProof.Rows
def FnV(K:Frag)(H:Hp)(f:Addr):Prop:=FnO H f\/∃oc od fd sl,K.lookup f=some ⟨oc,od,.func fd,sl⟩
theorem FnV.mono{K:Frag}{H H':Hp}{f:Addr}(e:Same H H')(h:FnV K H f):FnV K H' f:=by
 rcases h with ⟨oc,od,fd,sl,u,h⟩|h
 ·exact .inl ⟨oc,od,fd,sl,u,e.at h⟩
 ·exact .inr h
theorem FnV.at(I:Inv X a6 σ H s)(h:FnV X.K H f):PySem.W.FnAt f s.heap:=by
 rcases h with h|⟨oc,od,fd,sl,h⟩
 ·exact h.at I
 ·exact ⟨oc,od,fd,sl,I.kIn _ _ h⟩
def Zzu(P:Program)(w:World)(K:Frag)(mg:Str->Option Value)(base:Heap)(k:Nat)(te:TE)(t:TA):TE:=fun σ H Q=>te σ H fun x H1=>∃f,x=.ref f/\FnV K H1 f/\t σ H1 fun vs H2=>FnV K H2 f/\Zr0 P w K mg base k f H2 vs Q
theorem Zpf(hr:X2 k X.A)(hv:PE X (.Name x p) te)(ha:PA X (e ::es) t)
  (he:starEach (e ::es) X.env=(false,eval e X.env) ::starEach es X.env:=by rfl) (i4:(backTo pos (starEach es X.env)).any (·.1)=false:=by rfl):PE X (.Call (.Name x p) (e ::es) [] pos) (Zzu X.prog X.w X.K X.mg X.base k te t):=by
 intro a6 s σ H Q I h;refine wpAny_Call_Name_kw (thn (hv a6 s σ H _ I h) fun u s1 ⟨y,H1,I1,ry,f,ey,hf,q1⟩=>?_);subst ey;obtain rfl:u=Value.ref f:=ry;refine PySem.W.callWith_F (hf.at I1) (thn (ha pos a6 s1 σ H1 _ I1 q1) fun us s2 ⟨vs,H2,I2,r,hf2,q2⟩=>⟨hf2.at I2,?_⟩) he i4;refine wpAny_call (codeAny_mono (q2 X.A X.stack s2 us hr I2.env0 r) fun r s' hq=>?_);cases r with
 | error e=>exact False.elim hq
 | ok fl =>
  cases fl with
  | ret u=>exact I2.after hq
  | next=>exact False.elim hq
  | brk=>exact False.elim hq
  | cont=>exact False.elim hq
end L2
end
section
namespace L2
open PySem PySem.Spec PyProof.Rows
end L2
end
section
namespace L2
open PySem PySem.Spec PyProof.Rows
open Classical in
noncomputable def Zlu (cells:List (Str×Addr)) (H:Hp):Hp:=fun b=>if ∃x,cells.lookup x=some b then none else H b
theorem Zui(h:cells.lookup x=some b):Zlu cells H b=none:=if_pos ⟨x,h⟩
theorem Zcl(h:∀x,cells.lookup x≠some b):Zlu cells H b=H b:=if_neg fun ⟨x,z⟩=>h x z
theorem Znh  :Same (Zlu cells H) H:=fun b o e=>by
 unfold Zlu at e
 by_cases z:∃x,cells.lookup x=some b
 ·rw [if_pos z] at e;cases e
 ·rw [if_neg z] at e;exact e
section
variable {X:Cx} {a6:List (Addr×Obj)} {σ:St} {H:Hp} {s s':Shared} {Q:VK}
theorem Zj2(I:Inv X a6 σ H s)(h:X.env.cells.lookup x=some c):∃o v,Zjj X.env.cells H s.heap c=some (Fz o)/\s.heap.get? c=some o/\o.data=.cell v:=by
 obtain ⟨v,o,ho,hd⟩:=I.cell x c h;refine ⟨o,v,?_,ho,hd⟩;unfold Zjj;rw [if_pos ⟨x,h⟩,ho];rfl
theorem Inv.noC(I:Inv X a6 σ H s)(E3:∀x,X.fn x=true)(h:X.s₀.heap.get? b=some o)(x:Str):X.env.cells.lookup x≠some b:=fun z=>absurd (Nat.lt_of_lt_of_le (Heap.lt_size h) (I.ok.cab x b (E3 x) z)) (Nat.lt_irrefl _)
theorem Inv.env0C(I:Inv X a6 σ H s)(E3:∀x,X.fn x=true):Zoq X.prog X.w X.K X.mg X.base X.A X.stack s (Zjj X.env.cells H s.heap):=by
 have E:=I.env0;refine ⟨E.frames,E.mod,fun b o e=>⟨(E.bs b o e).1,?_⟩,E.bsz,E.funs,fun b hb=>?_,fun b o e=>?_,E.bare⟩
 ·rw [Zf3 fun x=>I.noC E3 (I.ok.bs b o e).1 x];exact (E.bs b o e).2
 ·rw [Zf3 fun x z=>?_]
  ·exact E.frf b hb
  ·rcases List.mem_cons.mp (I.stkSub b hb) with y|y
   ·exact I.cne x b z y
   ·obtain ⟨_,o,ho,_⟩:=I.ok.funs.mem y;exact I.noC E3 ho x z
 ·by_cases z:∃x,X.env.cells.lookup x=some b
  ·obtain ⟨x,z⟩:=z;obtain ⟨ob,v,h1,h2,h3⟩:=Zj2 I z;rw [h1] at e;cases e;exact ⟨h2,h2,_,h2⟩
  ·rw [Zf3 fun x y=>z ⟨x,y⟩] at e;exact (I.hok b o e).stay (fun _ _ _ q=>q) (fun c q=>Zcn I q) (fun c xs q=>Zcn I q) (fun c o q=>Zcn I q)
theorem CE.lend(I:Inv X a6 σ H s)(h:CE X.stack X.prog X.w (Zjj X.env.cells H s.heap) s Q u s'):CE X.stack X.prog X.w H s (fun v H3=>∃H',H3=Zlu X.env.cells H'/\(∀x c o,X.env.cells.lookup x=some c->s.heap.get? c=some o->H' c=some (Fz o))/\Q v H') u s':=by
 obtain ⟨v,H',os,bare,un,hok,r,q⟩:=h;have frz:∀x c o,X.env.cells.lookup x=some c->s.heap.get? c=some o->H' c=some (Fz o):=fun x c o hc ho=>by
  obtain ⟨o2,w,h1,h2,_⟩:=Zj2 I hc;rw [ho] at h2;cases h2;exact un.frzs c _ _ h1
 have nc:∀{b:Addr} {o:HO},H b=some o->∀x,X.env.cells.lookup x≠some b:=fun e x z=>by rw [I.freeC x _ z] at e;cases e
 have ad:∀{b:Addr},(∀x,X.env.cells.lookup x≠some b)->H b=none->Zjj X.env.cells H s.heap b=none:=fun z n=>by rw [Zf3 z];exact n
 refine ⟨v,Zlu X.env.cells H',os,bare,⟨fun b o h1 h2 h3 h4=>?_,fun b o h1 h2 h3 h4=>?_,fun b o h1 h2 h4=>?_,un.there,fun b xs e=>?_,fun b o u e=>?_,fun b ps e=>?_⟩,fun b o e=>?_,r,H',rfl,frz,q⟩
 ·by_cases z:∃x,X.env.cells.lookup x=some b
  ·obtain ⟨x,z⟩:=z;exact (hok b _ (frz x b o z h1)).1
  ·exact un.keep b o h1 (ad (fun x y=>z ⟨x,y⟩) h2) h3 h4
 ·by_cases z:∃x,X.env.cells.lookup x=some b
  ·obtain ⟨x,z⟩:=z;exact ⟨o.slots,(hok b _ (frz x b o z h1)).1⟩
  ·exact un.slot b o h1 (ad (fun x y=>z ⟨x,y⟩) h2) h3 h4
 ·by_cases z:∃x,X.env.cells.lookup x=some b
  ·obtain ⟨x,z⟩:=z;exact Zui z
  ·rw [Zcl fun x y=>z ⟨x,y⟩];exact un.free b o h1 (ad (fun x y=>z ⟨x,y⟩) h2) h4
 ·rw [Zcl (nc e)];exact un.tups b xs (Zcn I e)
 ·rw [Zcl (nc e)];exact un.frzs b o u (Zcn I e)
 ·obtain ⟨m,z⟩:=un.tbls b ps (Zcn I e);exact ⟨m,by rw [Zcl (nc e)];exact z⟩
 ·have soft:∀{c:Addr} {o:HO},H' c=some o->(∀ob,o≠Fz ob)->Zlu X.env.cells H' c=some o:=fun {c o} z n=>by
   rw [Zcl]
   ·exact z
   ·intro x y;obtain ⟨_,w,_,h2,_⟩:=Zj2 I y;rw [frz x c _ y h2] at z;cases z;exact n _ rfl
  exact (hok b o (Znh b o e)).stay (fun _ _ _ q=>q) (fun c q=>soft q fun _ z=>nomatch z) (fun c xs q=>soft q fun _ z=>nomatch z) (fun c o q=>soft q fun _ z=>nomatch z)
def Zvg(X:Cx)(σ:St)(H:Hp)(S:Hp->VK->Prop)(Q:VK):Prop:=∀H2,Same H H2->(∀(i:Nat) (x:Str) (v:V) (c:Addr),X.N[i]? =some x->σ[i]? =some (some v)->X.env.scope.names.lookup x=some .cell->X.env.cells.lookup x=some c->H c=none/\Zfl H2 c v) ->
 S H2 fun v H4=>∀H3,Same H3 H4->(∀b u o,H b=some u->H4 b=some o->H3 b=some o)->(∀b o,H4 b=some o->(∀ob,o≠Fz ob)->H3 b=some o)->Q v H3
theorem Zsd(F:Z2 X.prog X.w X.K X.mg X.base CX0 k f fd ps sp)(hr:X2 k X.A)(E3:∀x,X.fn x=true)(hb:Zau X.K fd ps [])
  (I:Inv X a6 σ H s) (r:Yc vs us) (h:Zvg X σ H (fun H2 Q2=>sp vs H2 Q2 E0) Q):wpAny (model X.prog X.w) X.A (call (.ref f) us) (EP X a6 σ Q) X.xe s:=by
 have h:=h (Zjj X.env.cells H s.heap) (fun b o e=>Zcn I e) fun i x v c h1 h2 h3 h4=>Ztb I h1 h2 h3 h4
 have hl:us.length=ps.length:=by rw [<-r.length];exact F.len _ _ _ _ h
 have b:=hb s us I.kIn (by rw [List.append_nil];exact hl);rw [List.append_nil] at b;refine wpAny_call (codeAny_mono (F.run X.A X.stack s _ ⟨us,[]⟩ us vs _ E0 hr (I.env0C E3) b r h) fun r s' hq=>?_);cases r with
 | error e=>exact False.elim hq
 | ok fl =>
  cases fl with
  | ret u =>
   obtain ⟨v,H3,I3,rv,H',e3,frz,q⟩:=I.after (CE.lend I hq);subst e3;refine ⟨v,_,I3,rv,q _ Znh (fun b u o e e2=>?_) fun b o e n=>?_⟩
   ·rw [Zcl fun x z=>by rw [I.freeC x b z] at e;cases e];exact e2
   rw [Zcl]
   ·exact e
   ·intro x y;obtain ⟨_,w,_,h2,_⟩:=Zj2 I y;rw [frz x b _ y h2] at e;cases e;exact n _ rfl
  | next=>exact False.elim hq
  | brk=>exact False.elim hq
  | cont=>exact False.elim hq
def Yab(X:Cx)(sp:Sp)(t:TA):TE:=fun σ H Q=>t σ H fun vs H1=>Zvg X σ H1 (fun H2 Q2=>sp vs H2 Q2 E0) Q
theorem Zu0(F:Z2 X.prog X.w X.K X.mg X.base CX0 k f fd ps sp)(hr:X2 k X.A)(E3:∀x,X.fn x=true)(hg:Gl X x)(hm:X.mg x=some (.ref f))(hk:keepIn X.K (.ref f)=true)(hb:Zau X.K fd ps [])
  (ha:PA X (e ::es) t) (R1:(x ==("__debug__" :Str))=false:=by decide) (he:starEach (e ::es) X.env=(false,eval e X.env) ::starEach es X.env:=by rfl) (i4:(backTo pos (starEach es X.env)).any (·.1)=false:=by rfl) :
  PE X (.Call (.Name x p) (e ::es) [] pos) (Yab X sp t):=by
 intro a6 s σ H Q I h;refine wpAny_Call_Name_kw (Zjz I hg hm ?_ R1);refine PySem.W.callWith_K (h₀:=X.base) I.ok.mod.kin hk (thn (ha pos a6 s σ H _ I h) fun us s1 ⟨vs,H1,I1,r,q⟩=>⟨I1.kIn,?_⟩) he i4;exact Zsd F hr E3 hb I1 r q
def Yaa(X:Cx)(C:Addr)(m:Str)(sp:Sp)(ta:TE)(t:TA):TE:=fun σ H Q=>ta σ H fun x H1=>∃a dx fs,x=.ref a/\H1 a=some (.ins C dx fs)/\fs.lookup m=none /\
 t σ H1 fun vs H2=>Zvg X σ H2 (fun H3 Q3=>sp (x ::vs) H3 Q3 E0) Q
theorem Zv7(he:PE X o ta)(c:Cls X.K C)(hm:Z4 X.K C m f)(F:Z2 X.prog X.w X.K X.mg X.base CX0 k f fd ps sp)(hr:X2 k X.A)(E3:∀x,X.fn x=true)(hb:Zau X.K fd ps [])(ha:PA X (e ::es) t)
  (A1:starEach (e ::es) X.env=(false,eval e X.env) ::starEach es X.env:=by rfl) (i4:(backTo pos (starEach es X.env)).any (·.1)=false:=by rfl)
  (ht:eval (.Call (.Attribute o m c7) (e ::es) [] pos) X.env=(do
   let ov <-eval o X.env
   standAt c7.atName
   let (f,first) <-holding [ov] (getMethod ov m pl)
   callWith pos f first (backTo pos (starEach (e ::es) X.env)) (backToKw pos (keywordEach [] X.env))):=by rfl) :
  PE X (.Call (.Attribute o m c7) (e ::es) [] pos) (Yaa X C m sp ta t):=by
 intro a6 s σ H Q I h;refine PySem.W.methodCall_KW (pl:=pl) (thn (he a6 s σ H _ I h) fun u s1 ⟨x,H1,I1,rx,a,dx,fs,ex,ea,l,q⟩=>?_) ht;subst ex;obtain rfl:u=Value.ref a:=rx;refine Zd9 I1 ea c hm l ?_;refine PySem.W.callWith_K (first:=[.ref a]) (h₀:=X.base) I.ok.mod.kin hm.kp (thn (ha pos a6 s1 σ H1 _ I1 q) fun us s2 ⟨vs,H2,I2,r,q2⟩=>⟨I2.kIn,?_⟩) A1 i4;exact Zsd (us:=.ref a ::us) (vs:=.ref a ::vs) F hr E3 hb I2 (.cons rfl r) q2
def Ycs(X:Cx)(Pt:Addr)(la:Arguments)(lb:Expr)(ls:Scope)(lp:Pos)(clos:List (Str×Addr)):TE:=fun _ H Q=>∃ls0,H Pt=some (.tbl (Zbt ls0))/\(lp.line,lp.col,X.env.qual ++ "<lambda>")∈ls0/\∀fl H',Same H H'->H fl=none->Clo H' Pt fl (X.env.qual ++ "<lambda>") la lb ls clos->Q (.ref fl) H'
theorem Zuz(L3:X.env.code=.ref c)(hL:PySem.W.codeHdIn X.K c Pt=true)(hdef:defaultsOf la X.env=([],[]):=by rfl)(t9:closureFor ls X.env=pure clos:=by rfl):PE X (.Lambda la lb ls lp) (Ycs X Pt la lb ls lp clos):=by
 intro a6 s σ H Q I h;obtain ⟨ls0,h1,h2,h3⟩:=h;exact Zws I hdef L3 (PySem.W.codeHd_of_K I.ok.mod.kin hL) h1 h2 t9 fun fl H' s' I' sm hn cl=>⟨.ref fl,H',I',rfl,h3 fl H' sm hn cl⟩
end
section
variable {P:Program} {w:World} {K:Frag} {mg:Str->Option Value} {base:Heap}
theorem Fun.okL{x qual:Str}{st:Stmt}{f Pt:Addr}{fd:FuncData}{N ps:List Str}{k:Nat}{sp:Sp}(F:Fun K x qual st f fd)(L:Ybv K fd Pt)(S:Zn N ps (Zi st))(len:∀vs H Q E,sp vs H Q E->vs.length=ps.length)
  (m8:∀(c:Addr) (A:Around) (outer:List Env) (s:Shared) (H:Hp) (vs:List V) (Q:VK) (E:XK),PySem.W.codeHdIn K c Pt=true->X2 k (A.deeper (envOfC qual (Zi st) s.heap.objs.size f (.ref c)))->sp vs H Q E ->
   WSs (Zme CX0 P w K mg base N qual (Zi st) f (.ref c) A outer s H E).nox (Xa st) { nx:=fun _ H'=>Q .non H',rt:=Q } (start N vs) H):Z2 P w K mg base CX0 (k+1) f fd ps sp:=by
 obtain ⟨oc,od,kV,k7,pm,an,a9,ct,F3,rfl,lk,F0⟩:=F.ex;obtain ⟨c,hc,hL⟩:=L;have hc:a9=.ref c:=hc;subst hc;refine Zv9 lk F0 S len fun A outer s H vs Q E hr E1=>?_
 exact ⟨_,PSs.nox Zq,m8 c A outer s H vs Q E hL hr E1⟩
end
end L2
end
section
namespace L2
open PySem PySem.Spec PyProof.Rows
def kD:Key->PyData
 | .inl i=>.int i
 | .inr x=>.str x
mutual
inductive Rp(H:Hp):PyData->V->Prop
 | str (x:Str):Rp H (.str x) (.str x)
 | bl (b:Bool):Rp H (.bool b) (.bl b)
 | lst {a:Addr} {xs:List V} {ds:List PyData}:H a=some (.lst xs)->Rps H ds xs->Rp H (.list ds) (.ref a)
 | tup {a:Addr} {xs:List V} {ds:List PyData}:H a=some (.tup xs)->Rps H ds xs->Rp H (.tuple ds) (.ref a)
 | dk {a:Addr} {kvs:List (Key×V)} {ds:List PyData}:H a=some (.dK kvs)->Rps H ds (kvs.map Prod.snd)->Rp H (.dict ((kvs.map fun p=>kD p.1).zip ds)) (.ref a)
inductive Rps(H:Hp):List PyData->List V->Prop
 | nil:Rps H [] []
 | cons {d:PyData} {v:V} {ds:List PyData} {vs:List V}:Rp H d v->Rps H ds vs->Rps H (d ::ds) (v ::vs)
end
theorem Rps.length:∀{ds:List PyData} {vs:List V},Rps H ds vs->ds.length=vs.length
 | _,_,.nil=>rfl
 | _,_,.cons _ h=>congrArg Nat.succ h.length
theorem Zt7(e:Zi1 k u=true):Reads h u (kD k) []:=by
 rcases Xi e with ⟨i,t,rfl,rfl⟩|⟨x,t,rfl,rfl⟩
 ·exact .int i t
 ·exact .str x t
section
variable {X:Cx} {a6:List (Addr×Obj)} {σ:St} {H:Hp} {s:Shared}
theorem Zi6  :∀{es:List DictEntry} {kvs:List (Key×Value)},Pairs (Z0 P w) es kvs->ReadsAll h (es.map (·.key)) (kvs.map fun p=>kD p.1) []
 | _,_,.nil=>.nil
 | _,_,.cons (e:=e) (kv:=kv) h1 h2 h3=>ReadsAll.cons (as:=[]) (bs:=[]) (Zt7 h1) (Zi6 h3)
theorem Zkk  :∀{es:List DictEntry} {kvs:List (Key×Value)},Pairs (Z0 P w) es kvs->es.map (·.val)=kvs.map Prod.snd
 | _,_,.nil=>rfl
 | _,_,.cons h1 h2 h3=>by rw [List.map_cons,List.map_cons,h2,Zkk h3]
theorem Zxk(h:KV kvs vs):Yc (kvs.map Prod.snd) (vs.map Prod.snd)/\(vs.map fun p=>kD p.1)=kvs.map fun p=>kD p.1:=by
 induction h with
 | nil=>exact ⟨.nil,rfl⟩
 | cons r t ih=>exact ⟨.cons r.2 ih.1,by rw [List.map_cons,List.map_cons,ih.2,r.1]⟩
mutual
theorem Rp.reads(I:Inv X a6 σ H s):∀{d:PyData} {v:V} {u:Value},Rp H d v->Yj v u->∃as,Reads s.heap u d as/\∀a∈as,∃o,H a=some o
 | _,_,u,.str x,r=>by
  obtain ⟨t,rfl⟩:=(show ∃t,u=Value.str x t from r)
  exact ⟨[],.str x t,fun _ z=>nomatch z⟩
 | _,_,u,.bl b,r=>by
  obtain rfl:u=Value.bool b:=r;exact ⟨[],.bool b,fun _ z=>nomatch z⟩
 | _,_,u,.lst (a:=a) (xs:=xs) e h,r=>by
  obtain rfl:u=Value.ref a:=r;obtain ⟨_,a7,n,rv,ho⟩:=(show Yr X.prog X.w H s.heap a (.lst xs) from I.hok a _ e)
  obtain ⟨as,h1,h2⟩:=Rps.reads I h rv;exact ⟨a ::as,.list ho rfl rfl h1,fun b hb=>(List.mem_cons.mp hb).elim (fun z=>⟨_,(congrArg H z).trans e⟩) (h2 b)⟩
 | _,_,u,.tup (a:=a) (xs:=xs) e h,r=>by
  obtain rfl:u=Value.ref a:=r;obtain ⟨_,a7,rv,o,ho,hc,m,hd⟩:=(show Yr X.prog X.w H s.heap a (.tup xs) from I.hok a _ e)
  obtain ⟨as,h1,h2⟩:=Rps.reads I h rv;exact ⟨as,.tuple ho hc hd h1,h2⟩
 | _,_,u,.dk (a:=a) (kvs:=kvs) (ds:=ds) e h,r=>by
  obtain rfl:u=Value.ref a:=r;obtain ⟨_,_,vs,i7,o,es,ep,ho,hx,hd,_,hp,_⟩:=(show Yr X.prog X.w H s.heap a (.dK kvs) from I.hok a _ e)
  obtain ⟨hv,hk⟩:=Zxk i7;obtain ⟨as,h1,h2⟩:=Rps.reads I h hv;have hl:=h.length;rw [List.length_map] at hl;have e1:((kvs.map fun p=>kD p.1).zip ds).map Prod.fst=kvs.map fun p=>kD p.1:=List.map_fst_zip (by rw [List.length_map];lia)
  have e2:((kvs.map fun p=>kD p.1).zip ds).map Prod.snd=ds:=List.map_snd_zip (by rw [List.length_map];lia);refine ⟨a ::[]++as,.dict ho hx.1 hd ?_ ?_,fun b hb=>?_⟩
  ·rw [e1,<-hk];exact Zi6 hp
  ·rw [e2,Zkk hp];exact h1
  ·rcases List.mem_cons.mp hb with z|z
   ·exact ⟨_,(congrArg H z).trans e⟩
   ·exact h2 b z
theorem Rps.reads(I:Inv X a6 σ H s):∀{ds:List PyData} {vs:List V} {us:List Value},Rps H ds vs->Yc vs us->∃as,ReadsAll s.heap us ds as/\∀a∈as,∃o,H a=some o
 | _,_,_,.nil,r=>by
  cases r;exact ⟨[],.nil,fun _ z=>nomatch z⟩
 | _,_,_,.cons h t,r=>by
  cases r with
  | cons r rr =>
   obtain ⟨as,h1,h2⟩:=Rp.reads I h r;obtain ⟨bs,h3,h4⟩:=Rps.reads I t rr;exact ⟨as++bs,.cons h1 h3,fun b hb=>(List.mem_append.mp hb).elim (h2 b) (h4 b)⟩
end
def Zqq:List V->Hp->VK->Prop:=fun xs H Q=>∃(a:Addr) (d:PyData),xs=[.ref a]/\Rp H d (.ref a)/\d.showable=true/\d.depth<=60/\d.shown.length<=sizeLine/\Q (.str d.shown) H
def Zxz:V->List V->Hp->VK->Prop:=fun x vs H Q=>∃l kvs,x=.ref l/\vs=[]/\H l=some (.dK kvs)/\Q .non (upd H l (.dK []))
theorem Zm2:MtR X "dict.clear" Zxz:=by
 intro a6 s σ H x vs v us Q I rx rv h;obtain ⟨l,kvs,rfl,rfl,hH,q⟩:=h;cases rx;have j0:=rv.zero;subst j0;exact Zx0 I hH fun s' I'=>⟨.non,_,I',rfl,q⟩
end
end L2
end
section
namespace L2
open PySem PySem.Spec PyProof.Rows
theorem Zej(hk:∃mm,X.base.Ns sysModules mm)(hg:X.A.guards=some [])(hu:X.A.units+64<cLine):Xu X (.builtin "repr") Zqq:=by
 intro a6 s σ H xs us Q I r h;obtain ⟨a,d,rfl,hp,hs,hd,hz,q⟩:=h;obtain ⟨u,rfl,rx⟩:=Zaz r;cases rx;obtain ⟨as,h1,h2⟩:=hp.reads I (u:=.ref a) rfl;refine repr_of_reads' h1 hs (fun _ hm=>?_) hg (by lia) (fun _ _ e=>e) (fun h' u tk hk=>?_) hz
 ·obtain ⟨o,e⟩:=h2 _ hm;obtain ⟨mm,ob,es,ep,hk,_⟩:=hk;rw [(I.bs _ _ hk).2] at e;cases e
 ·exact ⟨.str _,H,I.un (h':=h') (t':=tk) (Un.kept hk) (I.hok.kept hk),⟨_,rfl⟩,q⟩
theorem Zs1{P:Program}{w:World}{K:Frag}{mg mb:Str->Option Value}{k:Nat}{fa a:Addr}{fd:FuncData}{x:Str}{s₁:Shared}{vs:List Value}{ns:List Int}{tabs:List (Addr×Array Value)}
  (KX:K.In s₁.heap) (T0:s₁.heap.Ns mainGlobals mg) (hb:s₁.heap.Ns builtinsNs mb) (hbb:∀x:Str,x ≠ "__name__" ->mb x=bootBuiltins x) (hlim:s₁.heap.NoLimit) (hbm:Zyu mg s₁.heap) (hg:s₁.gens=#[])
  (ha:s₁.heap.get? a=some { cls:=.type "list",data:=.seq vs.toArray }) (hi:IntsAre vs ns) (hl:ns.length<=63) (hr:X2 k callerA) (TO:Zk9 K s₁.heap tabs)
  (hsm:∃mm,s₁.heap.Ns sysModules mm) (F:∀base:Heap,K.In base->base.Ns mainGlobals mg->(∃mm,base.Ns sysModules mm)->Z2 P w K mg base CX0 k fa fd [x] (Zkw K tabs)) (hbind:∀(s:Shared) (u:Value),BindsTo s fd ⟨[u],[]⟩ [(x,u)]) :
  codeAny (model P w) callerA (.call (.ref fa) ⟨[.ref a],[]⟩) (fun r s'=>r=.ok (.ret (.bool true))/\OldK s₁.heap s'.heap/\s'.os=s₁.os/\AllBare s'.gens) s₁:=by
 have rv:=Zm0 hi;have lenV:=hi.length;have E4:ns.length<=sizeLine:=Nat.le_trans hl (by decide);have U0:∀{b:Addr} {ps:Array Value},tabs.lookup b=some ps->s₁.heap.get? b=some (PySem.W.tabObj #[]):=fun e=>TO.emp _ (Zcx e)
 have core:∀H:Hp,SqL K H a (ns.map V.int)->HOk P w H s₁.heap->(∀b u,H b=some u->(b=a/\K.lookup a=none/\∃o xs,u=.frz o (.lst xs))\/∃ps,tabs.lookup b=some ps/\u=.tbl ps)->(∀p∈tabs,H p.1=some (.tbl p.2)) ->
   codeAny (model P w) callerA (.call (.ref fa) ⟨[.ref a],[]⟩) (fun r s'=>r=.ok (.ret (.bool true))/\OldK s₁.heap s'.heap/\s'.os=s₁.os/\AllBare s'.gens) s₁:=by
  intro H hS hok hA hT;have C2:∀{b:Addr} {o:Obj},s₁.heap.get? b=some o->H b=none->(Zn3 s₁.heap H).get? b=some o:=fun e n=>Zvh e n
  have noB:∀{b:Addr} {o:Obj},s₁.heap.get? b=some o->(∀vs n,o.data ≠ .seq vs n)->(∀vs,o.data ≠ .fields vs)->H b=none:=fun {b o} e d1 d2=>by
   cases q:H b with
   | none=>rfl
   | some u =>
    rcases hA b u q with ⟨e',_⟩|⟨ps,e',_⟩
    ·subst e';rw [ha] at e;cases e;exact absurd rfl (d1 _ _)
    ·rw [U0 e'] at e;cases e;exact absurd rfl (d2 _)
  have nsK:∀{b:Addr} {m:Str->Option Value},s₁.heap.Ns b m->(Zn3 s₁.heap H).Ns b m:=fun {b m} ⟨o,es,ep,e,d,r⟩=>⟨o,es,ep,C2 e (noB e (fun _ _ z=>by rw [d] at z;cases z) (fun _ z=>by rw [d] at z;cases z)),d,r⟩
  have hKb:K.In (Zn3 s₁.heap H):=fun b o e=>C2 (KX b o e) (by
   cases q:H b with
   | none=>rfl
   | some u =>
    rcases hA b u q with ⟨e',hK,_⟩|⟨ps,e',_⟩
    ·subst e';rw [hK] at e;cases e
    ·have h1:=KX b o e;rw [U0 e'] at h1;cases h1;have h2:=List.all_eq_true.mp TO.nt _ (PySem.W.mem_of_lookupK e);exact absurd (show false=true from h2) Bool.false_ne_true)
  have hM:Mod K mg (Zn3 s₁.heap H):=⟨hKb,nsK T0,⟨mb,nsK hb,hbb⟩,let ⟨mc,h1,h2⟩:=hlim;⟨mc,nsK h1,h2⟩,by
   obtain ⟨bm,ob,b1,b2,b3,b4,b5,b6⟩:=hbm;exact ⟨bm,ob,b1,b2,C2 b3 (noB b3 (fun _ _ z=>by rw [b6] at z;cases z) (fun _ z=>by rw [b6] at z;cases z)),b4,b5,b6⟩⟩
  have e0:Zoq P w K mg (Zn3 s₁.heap H) callerA [] s₁ H:=⟨rfl,hM,fun b o e=>Zxw e,Nat.le_of_eq (Zs0 _ _),trivial,fun b hb=>absurd (show b∈([]:List Addr) from hb) (by simp),hok,.of_eq hg⟩
  refine codeAny_mono ((F _ hKb (nsK T0) (hsm.imp fun _ z=>nsK z)).run callerA [] s₁ H ⟨[.ref a],[]⟩ [.ref a] [.ref a] (fun v _=>v=.bl true) E0 hr e0 (hbind s₁ (.ref a)) (.cons rfl .nil) ⟨a,ns,rfl,hS,hl,hT,fun _=>rfl⟩) fun r s' h=>?_
  cases r with
  | error e=>exact False.elim h
  | ok fl =>
   cases fl with
   | next=>exact False.elim h
   | brk=>exact False.elim h
   | cont=>exact False.elim h
   | ret u =>
    obtain ⟨v,H',os,bare,un,D7,r',q⟩:=h;have q':v=.bl true:=q;subst q';obtain rfl:u=Value.bool true:=r';refine ⟨rfl,⟨fun b o e=>?_,fun b o e=>un.there b o e (by simp)⟩,os,bare⟩;cases q:H b with
    | none=>exact .inl (un.keep b o e q (by intro z;exact absurd (show b∈([]:List Addr) from z) (by simp)) (by simp))
    | some u =>
     rcases hA b u q with ⟨_,_,ob,xs,z⟩|⟨ps,z,z2⟩
     ·subst z;have z2:=un.frzs b ob _ q;obtain ⟨e1,_⟩:=hok b _ q;obtain ⟨e2,_⟩:=D7 b _ z2;rw [e] at e1;cases e1;exact .inl e2
     ·subst z2;obtain ⟨more,y⟩:=un.tbls b ps q;have e':=U0 z;rw [e] at e';cases e';obtain ⟨c,hc⟩:=TO.cod _ (Zcx z);obtain ⟨_,fs,_,_,y1,_⟩:=D7 b _ y;exact .inr (.inl ⟨((PySem.W.codeHd_of_K KX hc).tab e).isCodeTable,rfl,#[],Zb0 fs,rfl,by rw [y1];simp⟩)
 have tabH:∀p∈tabs,p.1≠a:=fun p hp z=>by
  have:=TO.emp p hp;rw [z,ha] at this;cases this
 have tabO:∀{H:Hp} {b:Addr} {ps:Array Value},tabs.lookup b=some ps->Yr P w H s₁.heap b (.tbl ps):=fun {H b ps} e=>by
  obtain ⟨ls,hq,nd⟩:=TO.shape _ (Zcx e);have hq:ps=Zbt ls:=hq;subst hq;exact ⟨ls,[],rfl,nd,U0 e,fun _ z=>nomatch z⟩
 cases hk:K.lookup a with
 | some o =>
  have e:=KX a o hk;rw [ha] at e;cases e;refine core (fun b=>(tabs.lookup b).map HO.tbl) (.inr ⟨_,vs.toArray,_,hk,rfl,rfl,rfl,by rw [List.size_toArray,lenV];exact E4,by simpa using rv⟩) (fun b u z=>?_) (fun b u z=>?_) fun p hp=>?_
  ·obtain ⟨ps,h1,rfl⟩:=Option.map_eq_some_iff.mp z;exact tabO h1
  ·obtain ⟨ps,h1,rfl⟩:=Option.map_eq_some_iff.mp z;exact .inr ⟨ps,h1,rfl⟩
  ·show (tabs.lookup p.1).map HO.tbl=_;rw [Zfb TO.nd hp];rfl
 | none =>
  refine core (fun b=>if b=a then some (.frz { cls:=.type "list",data:=.seq vs.toArray } (.lst (ns.map V.int))) else (tabs.lookup b).map HO.tbl) (.inl (.inr ⟨{ cls:=.type "list",data:=.seq vs.toArray },if_pos rfl⟩)) (fun b u z=>?_) (fun b u z=>?_) fun p hp=>?_
  ·by_cases hb:b=a
   ·have z':=(if_pos hb).symm.trans z;cases z';subst hb;exact ⟨ha,by rw [List.length_map];exact E4,vs,_,rv,ha⟩
   ·have z':=(if_neg hb).symm.trans z;obtain ⟨ps,h1,rfl⟩:=Option.map_eq_some_iff.mp z';exact tabO h1
  ·by_cases hb:b=a
   ·have z':=(if_pos hb).symm.trans z;cases z';exact .inl ⟨hb,hk,_,_,rfl⟩
   ·have z':=(if_neg hb).symm.trans z;obtain ⟨ps,h1,rfl⟩:=Option.map_eq_some_iff.mp z';exact .inr ⟨ps,h1,rfl⟩
  ·show (if p.1=a then _ else _)=_;rw [if_neg (tabH p hp),Zfb TO.nd hp];rfl
theorem walk_ofS{l:PySem.W.OpenLaw}{k:Nat}{q:Program}{C0:List Str}{XP:(Str->Option Value)->Heap->Prop}{YP:World->Heap->Prop}{d:DefRec}{K:Params->Frag}{x:Str}
  (hn:l.most=some 63) (hdf:d.params.defaults=[]) (hr:X2 k callerA) (hY:∀(w:World) (h:Heap),YP w h->(K w.params).In h)
  (F:∀(w:World) (mg:Str->Option Value) (fa:Addr) (h:Heap),YP w h->(K w.params).In h->h.Ns mainGlobals mg->mg d.name=some (.ref fa) ->
   ∃(fd:FuncData) (tabs:List (Addr×Array Value)),Zk9 (K w.params) h tabs/\(∀(s:Shared) (u:Value),BindsTo s fd ⟨[u],[]⟩ [(x,u)]) /\
    ∀base:Heap,(K w.params).In base->base.Ns mainGlobals mg->(∃mm,base.Ns sysModules mm)->Z2 l.prog w (K w.params) mg base CX0 k fa fd [x] (Zkw (K w.params) tabs)) (hq:importsNone q=true) :
  PySem.W.WalkO q C0 XP YP l.row.toRowW d [] (fun f vs=>PySem.call f vs):=by
 refine Att.attach_call hn hdf fun w s₀ s₁ mg mb fa o pm cd k7 a vs ns G Y ho hd F0 hmg hobj O0 d4 hg=>?_
 have KX:=hY w _ Y;obtain ⟨fd,tabs,TO,hb,hF⟩:=F w mg fa _ Y KX G.T.g hmg;exact Zs1 KX G.T.g G.T.b G.T.builtins G.T.nolimit G.T.bmain hg hobj O0 d4 hr TO ((G.T.seer hq).mods.imp fun _ z=>z.1) hF hb
end L2
end
section
namespace YM
open PySem L2 NM
def Zgh(c k:Int):Int:=((c+7919 * k) * 48271%2147483647) * ((c+7919 * k) * 48271%2147483647+2 * k+1)%2147483629
theorem Zwn(c k:Int):0<=Zgh c k:=Int.emod_nonneg _ (by decide)
theorem Zvz(c k:Int):Zgh c k<2147483629:=Int.emod_lt_of_pos _ (by decide)
def Zod(ns:List Int)(k:Nat):Int:=match ns[k]? with
 | some c=>Zgh c k
 | none=>0
abbrev Zc:=Str×Str
def Yt(k:Str):List Str:=if k = "points" then ["stem", "left", "right"] else if k = "cross" then ["a", "b", "c", "d"] else if k = "plain" then ["a", "b"] else ["a"]
def Zd1(i:Int):Nat:=Ze4.getD i.toNat 0
def Zh9(k:Nat):Str:=toString (k:Int)
def Yz(kind:Str)(c:Int)(k:Nat):Str:=if c%3=0 then ⟨#[kind.cps.toList.getD 0 0]⟩++Zh9 k else (⟨#[Zd1 (c / 3%26)]⟩++⟨#[Zd1 (c / 78%26)]⟩)++Zh7 "0" (c / 2028%3).toNat++Zh9 k
theorem Zh6:∀k,k<100->(Zh9 k).length<=2:=by trivial
theorem Zol{k:Nat}(h:k<100):(k:Int).natAbs.log2<1920:=by
 rw [Int.natAbs_natCast];refine Nat.lt_of_le_of_lt (Nat.log2_le_self k) (by lia)
def Zgo(a c:Nat):Nat:=if 48<=c/\c<=57 then a * 10+(c-48) else 0
def Zjn(s:Str):Nat:=s.cps.toList.foldl Zgo 0
theorem Znz:∀k,k<100->Zjn (Zh9 k)=k:=by trivial
theorem Zhj:∀k,k<100->0<(Zh9 k).length:=by trivial
theorem Zwd:∀m,m<3->(Zh7 "0" m).cps.toList.foldl Zgo 0=0:=by trivial
theorem Zv5:∀m,m<3->(Zh7 "0" m).length=m:=by trivial
theorem Zxr:∀i,i<26->97<=Ze4.getD i 0/\Ze4.getD i 0<=122:=by trivial
theorem Zng{i:Int}(h0:0<=i)(h1:i<26):97<=Zd1 i/\Zd1 i<=122:=Zxr i.toNat (by lia)
theorem Zbg(x y:Str):(x++y).cps.toList=x.cps.toList++y.cps.toList:=PySem.W.KT.app_list x y
theorem Zci{kind:Str}{c:Int}{k:Nat}(hk:57<kind.cps.toList.getD 0 0)(h:k<100):Zjn (Yz kind c k)=k:=by
 have hbig:∀a c,57<c->Zgo a c=0:=fun a c h=>by unfold Zgo;rw [if_neg (by lia)]
 unfold Yz;split
 ·unfold Zjn;rw [Zbg,List.foldl_append];show List.foldl Zgo (Zgo 0 (kind.cps.toList.getD 0 0)) _=k;rw [hbig _ _ hk];exact Znz k h
 ·have a0:=Int.emod_nonneg (c / 3) (show (26:Int)≠0 by decide);have a1:=Int.emod_lt_of_pos (c / 3) (show (0:Int)<26 by decide);have b0:=Int.emod_nonneg (c / 78) (show (26:Int)≠0 by decide);have b1:=Int.emod_lt_of_pos (c / 78) (show (0:Int)<26 by decide);have z0:=Int.emod_nonneg (c / 2028) (show (3:Int)≠0 by decide);have z1:=Int.emod_lt_of_pos (c / 2028) (show (0:Int)<3 by decide);unfold Zjn;rw [Zbg,Zbg,Zbg,List.foldl_append,List.foldl_append,List.foldl_append];show List.foldl Zgo (List.foldl Zgo (Zgo (Zgo 0 (Zd1 (c / 3%26))) (Zd1 (c / 78%26))) _) _=k;rw [hbig _ (Zd1 (c / 78%26)) (by have:=Zng b0 b1;lia),Zwd _ (by lia)];exact Znz k h
theorem Zb9{kind:Str}{c:Int}{k:Nat}(h:k<100):2<=(Yz kind c k).length:=by
 have:=Zhj k h;unfold Yz;split
 ·rw [PySem.Str.length_append];show 2<=1+_;lia
 ·rw [PySem.Str.length_append,PySem.Str.length_append,PySem.Str.length_append];show 2<=1+1+_+_;lia
theorem Zt0{kind:Str}{c:Int}{k:Nat}(h:k<100):(Yz kind c k).length<=6:=by
 have:=Zh6 k h;unfold Yz;split
 ·rw [PySem.Str.length_append];show 1+_<=6;lia
 ·have z0:=Int.emod_nonneg (c / 2028) (show (3:Int)≠0 by decide);have z1:=Int.emod_lt_of_pos (c / 2028) (show (0:Int)<3 by decide);rw [PySem.Str.length_append,PySem.Str.length_append,PySem.Str.length_append,Zv5 _ (by lia)];show 1+1+_+_<=6;lia
def Y5(ps:List Zc):List Zc:=ps.flatMap fun p=>(Yt p.1).map fun e=>(p.2,e)
def Xg(js:List (Zc×Zc)):List Zc:=js.flatMap fun j=>[j.1,j.2]
theorem Zgx(a b:List Zc):Y5 (a++b)=Y5 a++Y5 b:=List.flatMap_append ..
theorem Zd0(a b:List (Zc×Zc)):Xg (a++b)=Xg a++Xg b:=List.flatMap_append ..
def Zaq:List Str:=["plain", "points", "cross", "gate", "stop"]
structure Net(ps:List Zc)(js:List (Zc×Zc))(opn:List Zc):Prop where
 perm:(Xg js++opn).Perm (Y5 ps)
 nd:(ps.map Prod.snd).Nodup
 apart:∀j∈js,j.1.1≠j.2.1
 kind:∀p∈ps,p.1∈Zaq
inductive Zag(n1 n2 n3 n4:Str):List Zc->List (Zc×Zc)->Zc->Zc->Prop
 | plain (a b:Str) (h:(a,b)∈[(("a" :Str),("b" :Str)),("b", "a")]):Zag n1 n2 n3 n4 [("plain",n1)] [] (n1,a) (n1,b)
 | loop (a b:Str) (h:(a,b)∈[(("left" :Str),("right" :Str)),("right", "left")]):Zag n1 n2 n3 n4 [("points",n1),("plain",n2),("plain",n3),("points",n4)] [((n1, "left"),(n2, "a")),((n1, "right"),(n3, "a")),((n2, "b"),(n4,a)),((n4,b),(n3, "b"))] (n1, "stem") (n4, "stem")
 | siding (x a b k:Str) (h:[x,a,b].Perm ["stem", "left", "right"]) (hk:k∈[("stop" :Str), "gate"]):Zag n1 n2 n3 n4 [("points",n1),("plain",n2),(k,n3)] [((n1,x),(n2, "b")),((n2, "a"),(n3, "a"))] (n1,a) (n1,b)
 | cross (k:Str) (hk:k∈[("gate" :Str), "stop"]):Zag n1 n2 n3 n4 [("cross",n1),("gate",n2),(k,n3)] [((n1, "c"),(n2, "a")),((n3, "a"),(n1, "d"))] (n1, "a") (n1, "b")
theorem Zj6{α:Type}{d:α}{l m:List α}(is:List Nat)(h:is.Perm (List.range m.length))(e:l=is.map fun i=>m.getD i d):l.Perm m:=by
 have h2:((List.range m.length).map fun i=>m.getD i d)=m:=by
  apply List.ext_getElem
  ·simp
  ·intro i h1 h3;simp [List.getD_eq_getElem?_getD,h3]
 rw [e];exact (h.map _).trans (by rw [h2])
theorem Zag.sub{n1 n2 n3 n4:Str}{ps:List Zc}{js:List (Zc×Zc)}{a b:Zc}(h:Zag n1 n2 n3 n4 ps js a b):(ps.map Prod.snd).Sublist [n1,n2,n3,n4]:=by
 cases h with
 | plain=>exact .cons_cons _ (List.nil_sublist _)
 | loop=>exact List.Sublist.refl _
 | siding=>exact .cons_cons _ (.cons_cons _ (.cons_cons _ (List.nil_sublist _)))
 | cross=>exact .cons_cons _ (.cons_cons _ (.cons_cons _ (List.nil_sublist _)))
theorem Zf7{k:Str} (hk:k = "gate" \/k = "stop"):Yt k=[("a" :Str)]:=by rcases hk with rfl|rfl <;>decide +kernel
theorem Zi2:Yt "points" =[("stem" :Str), "left", "right"]:=by trivial
theorem Zeu:Yt "plain" =[("a" :Str), "b"]:=by trivial
theorem Zq0:Yt "cross" =[("a" :Str), "b", "c", "d"]:=by trivial
theorem Zag.perm{n1 n2 n3 n4:Str}{ps:List Zc}{js:List (Zc×Zc)}{a b:Zc}(h:Zag n1 n2 n3 n4 ps js a b):(Xg js++[a,b]).Perm (Y5 ps):=by
 cases h with
 | plain a b h =>
  simp only [List.mem_cons,List.mem_nil_iff,or_false,Prod.mk.injEq] at h;rcases h with ⟨rfl,rfl⟩|⟨rfl,rfl⟩
  ·simp [Xg,Y5,Zeu]
  ·simp only [Xg,Y5,Zeu,List.flatMap_nil,List.flatMap_cons,List.map_cons,List.map_nil,List.nil_append,List.append_nil];exact List.Perm.swap _ _ _
 | loop a b h =>
  have he:Y5 [("points",n1),("plain",n2),("plain",n3),("points",n4)]=([(n1, "stem"),(n1, "left"),(n1, "right"),(n2, "a"),(n2, "b"),(n3, "a"),(n3, "b"),(n4, "stem"),(n4, "left"),(n4, "right")]:List Zc):=by simp [Y5,Zi2,Zeu]
  rw [he];simp only [List.mem_cons,List.mem_nil_iff,or_false,Prod.mk.injEq] at h;rcases h with ⟨rfl,rfl⟩|⟨rfl,rfl⟩
  ·exact Zj6 (d:=(n1,n1)) [1,3,2,5,4,8,9,6,0,7] (show List.Perm _ (List.range 10) by decide) rfl
  ·exact Zj6 (d:=(n1,n1)) [1,3,2,5,4,9,8,6,0,7] (show List.Perm _ (List.range 10) by decide) rfl
 | siding x a b k h hk =>
  have hk':k = "gate" \/k = "stop" :=by
   simp only [List.mem_cons,List.mem_nil_iff,or_false] at hk;exact hk.symm
  have he:Y5 [("points",n1),("plain",n2),(k,n3)]=([("stem" :Str), "left", "right"].map fun e=>(n1,e))++([(n2, "a"),(n2, "b"),(n3, "a")]:List Zc):=by simp [Y5,Zi2,Zeu,Zf7 hk']
  rw [he];refine List.Perm.trans ?_ (List.Perm.append_right _ (h.map fun e=>(n1,e)));exact Zj6 (d:=(n1,n1)) [0,4,3,5,1,2] (show List.Perm _ (List.range 6) by decide) rfl
 | cross k hk =>
  have hk':k = "gate" \/k = "stop" :=by
   simp only [List.mem_cons,List.mem_nil_iff,or_false] at hk;exact hk
  have he:Y5 [("cross",n1),("gate",n2),(k,n3)]=([(n1, "a"),(n1, "b"),(n1, "c"),(n1, "d"),(n2, "a"),(n3, "a")]:List Zc):=by simp [Y5,Zq0,Zf7 hk',Zf7 (k := "gate") (.inl rfl)]
  rw [he];exact Zj6 (d:=(n1,n1)) [2,4,5,3,0,1] (show List.Perm _ (List.range 6) by decide) rfl
theorem Zag.kind{n1 n2 n3 n4:Str}{ps:List Zc}{js:List (Zc×Zc)}{a b:Zc}(h:Zag n1 n2 n3 n4 ps js a b):∀p∈ps,p.1∈Zaq:=by
 cases h with
 | plain=>intro p hp;simp at hp;subst hp;simp [Zaq]
 | loop=>intro p hp;simp at hp;rcases hp with rfl|rfl|rfl|rfl <;>simp [Zaq]
 | siding x a b k h hk=>intro p hp;simp at hp hk;rcases hp with rfl|rfl|rfl <;>rcases hk with rfl|rfl <;>simp [Zaq]
 | cross k hk=>intro p hp;simp at hp hk;rcases hp with rfl|rfl|rfl <;>rcases hk with rfl|rfl <;>simp [Zaq]
theorem Zag.apart{n1 n2 n3 n4:Str}{ps:List Zc}{js:List (Zc×Zc)}{a b:Zc}(h:Zag n1 n2 n3 n4 ps js a b)(nd:[n1,n2,n3,n4].Nodup):∀j∈js,j.1.1≠j.2.1:=by
 simp only [List.nodup_cons,List.mem_cons,List.mem_nil_iff,or_false,not_or,List.not_mem_nil,not_false_eq_true,List.nodup_nil,and_true] at nd;obtain ⟨⟨a1,a2,a3⟩,⟨b1,b2⟩,c1⟩:=nd;cases h with
 | plain=>intro j hj;cases hj
 | loop=>intro j hj;simp at hj;rcases hj with rfl|rfl|rfl|rfl <;>first|assumption|exact Ne.symm (by assumption)
 | siding x a b k h hk=>intro j hj;simp at hj;rcases hj with rfl|rfl <;>first|assumption|exact Ne.symm (by assumption)
 | cross k hk=>intro j hj;simp at hj;rcases hj with rfl|rfl <;>first|assumption|exact Ne.symm (by assumption)
theorem Zag.opens{n1 n2 n3 n4:Str}{ps:List Zc}{js:List (Zc×Zc)}{a b:Zc}(h:Zag n1 n2 n3 n4 ps js a b):a.1∈ps.map Prod.snd/\b.1∈ps.map Prod.snd:=by
 cases h <;>simp
theorem Zfn{ps:List Zc}{e:Zc}(h:e∈Y5 ps):e.1∈ps.map Prod.snd:=by
 obtain ⟨p,hp,he⟩:=List.mem_flatMap.mp h;obtain ⟨x,_,rfl⟩:=List.mem_map.mp he;exact List.mem_map.mpr ⟨p,hp,rfl⟩
theorem Net.more{ps:List Zc}{js:List (Zc×Zc)}{e:Zc}{n1 n2 n3 n4:Str}{qs:List Zc}{ks:List (Zc×Zc)}{a b:Zc}(h:Net ps js [e])(B:Zag n1 n2 n3 n4 qs ks a b)(nd:[n1,n2,n3,n4].Nodup)(new:∀n∈[n1,n2,n3,n4],n∉ps.map Prod.snd):Net (ps++qs) (js++ks++[(e,a)]) [b]:=by
 have he:e.1∈ps.map Prod.snd:=Zfn (h.perm.subset (by simp));have ha:a.1∉ps.map Prod.snd:=new _ (B.sub.subset B.opens.1);refine ⟨?_,?_,?_,?_⟩
 ·rw [Zd0,Zd0,Zgx];refine List.Perm.trans ?_ (h.perm.append B.perm);show (Xg js++Xg ks++[e,a]++[b]).Perm ((Xg js++[e])++(Xg ks++[a,b]));rw [List.append_assoc,List.append_assoc,List.append_assoc];refine List.Perm.append_left _ ?_;show (Xg ks++([e]++[a,b])).Perm ([e]++(Xg ks++[a,b]));rw [<-List.append_assoc,<-List.append_assoc];exact List.Perm.append_right _ List.perm_append_comm
 ·rw [List.map_append,List.nodup_append];exact ⟨h.nd,List.Pairwise.sublist B.sub nd,fun x hx y hy z=>new y (B.sub.subset hy) (z ▸ hx)⟩
 ·intro j hj;rw [List.mem_append,List.mem_append] at hj;rcases hj with (z|z)|z
  ·exact h.apart j z
  ·exact B.apart nd j z
  ·simp at z;subst z;exact fun y=>ha (y ▸ he)
 ·intro p hp;rcases List.mem_append.mp hp with z|z
  ·exact h.kind p z
  ·exact B.kind p z
def Zqc(s:Str)(n:Nat):Prop:=∃kd c k,(96<kd.cps.toList.getD 0 0/\kd.cps.toList.getD 0 0<123)/\k<n/\s=Yz kd c k
theorem Zag.len{n1 n2 n3 n4:Str}{ps:List Zc}{js:List (Zc×Zc)}{a b:Zc}(h:Zag n1 n2 n3 n4 ps js a b):ps.length<=4/\js.length<=4:=by
 cases h <;>simp
structure Zef(i:Nat)(ps:List Zc)(js:List (Zc×Zc))(G9:Zc):Prop where
 net:Net ps js [G9]
 pl:ps.length<=1+4 * i
 jl:js.length<=5 * i
 nm:∀p∈ps,p=((("gate" :Str),("g" :Str)):Zc)\/Zqc p.2 (4 * i)
theorem Zef.start:Zef 0 [("gate", "g")] [] ("g", "a"):=by
 refine ⟨⟨?_,by simp,by simp,by simp [Zaq]⟩,by simp,by simp,by simp⟩;simp [Xg,Y5,Zf7 (k := "gate") (.inl rfl)]
theorem Zr4{x s:Str}(hx:x.length=1)(h:2<=s.length):s≠x:=fun z=>by rw [z] at h;lia
theorem Zef.more{i:Nat}{ps:List Zc}{js:List (Zc×Zc)}{G9:Zc}{k1 k2 k3 k4:Str}{c1 c2 c3 c4:Int}{qs:List Zc}{ks:List (Zc×Zc)}{a b:Zc}(h:Zef i ps js G9)(hi:i<20)
  (g1:96<k1.cps.toList.getD 0 0/\k1.cps.toList.getD 0 0<123) (g2:96<k2.cps.toList.getD 0 0/\k2.cps.toList.getD 0 0<123) (g3:96<k3.cps.toList.getD 0 0/\k3.cps.toList.getD 0 0<123) (g4:96<k4.cps.toList.getD 0 0/\k4.cps.toList.getD 0 0<123)
  (B:Zag (Yz k1 c1 (4 * i)) (Yz k2 c2 (4 * i+1)) (Yz k3 c3 (4 * i+2)) (Yz k4 c4 (4 * i+3)) qs ks a b):Zef (i+1) (ps++qs) (js++ks++[(G9,a)]) b:=by
 have v1:=Zci (c:=c1) (Nat.lt_trans (by decide) g1.1) (show 4 * i<100 by lia);have v2:=Zci (c:=c2) (Nat.lt_trans (by decide) g2.1) (show 4 * i+1<100 by lia);have v3:=Zci (c:=c3) (Nat.lt_trans (by decide) g3.1) (show 4 * i+2<100 by lia);have v4:=Zci (c:=c4) (Nat.lt_trans (by decide) g4.1) (show 4 * i+3<100 by lia);have ne:∀{x y:Str} {m n:Nat},Zjn x=m->Zjn y=n->m≠n->x≠y:=fun hx hy hn z=>hn (by rw [<-hx,<-hy,z])
 have nd:[Yz k1 c1 (4 * i),Yz k2 c2 (4 * i+1),Yz k3 c3 (4 * i+2),Yz k4 c4 (4 * i+3)].Nodup:=by
  simp [ne v1 v2 (by lia),ne v1 v3 (by lia),ne v1 v4 (by lia),ne v2 v3 (by lia),ne v2 v4 (by lia),ne v3 v4 (by lia)]
 have all:∀n∈[Yz k1 c1 (4 * i),Yz k2 c2 (4 * i+1),Yz k3 c3 (4 * i+2),Yz k4 c4 (4 * i+3)],4 * i<=Zjn n/\2<=n.length/\Zqc n (4 * (i+1)):=by
  intro n hn;simp only [List.mem_cons,List.mem_nil_iff,or_false] at hn;rcases hn with rfl|rfl|rfl|rfl
  ·exact ⟨by lia,Zb9 (by lia),_,_,_,g1,by lia,rfl⟩
  ·exact ⟨by lia,Zb9 (by lia),_,_,_,g2,by lia,rfl⟩
  ·exact ⟨by lia,Zb9 (by lia),_,_,_,g3,by lia,rfl⟩
  ·exact ⟨by lia,Zb9 (by lia),_,_,_,g4,by lia,rfl⟩
 refine ⟨h.net.more B nd fun n hn hm=>?_,?_,?_,?_⟩
 ·obtain ⟨p,hp,rfl⟩:=List.mem_map.mp hm;obtain ⟨a1,a2,_⟩:=all _ hn;rcases h.nm p hp with z|⟨kd,c,k,hk,c6,e⟩
  ·exact Zr4 (x := "g") (by trivial) a2 (by rw [z])
  ·rw [e,Zci (Nat.lt_trans (by decide) hk.1) (by lia)] at a1;lia
 ·have:=B.len.1;have:=h.pl;rw [List.length_append];lia
 ·have:=B.len.2;have:=h.jl;rw [List.length_append,List.length_append];show _+_+1<=_;lia
 ·intro p hp;rcases List.mem_append.mp hp with z|z
  ·rcases h.nm p z with y|⟨kd,c,k,hk,c6,e⟩
   ·exact .inl y
   ·exact .inr ⟨kd,c,k,hk,by lia,e⟩
  ·exact .inr (all _ (B.sub.subset (List.mem_map.mpr ⟨p,z,rfl⟩))).2.2
theorem Zef.done{i:Nat}{ps:List Zc}{js:List (Zc×Zc)}{G9:Zc}(h:Zef i ps js G9)(hi:i<20):Net (ps++[(("gate" :Str),("h" :Str))]) (js++[(G9,(("h" :Str),("a" :Str)))]) []:=by
 have M9:("h" :Str)∉ps.map Prod.snd:=fun z=>by
  obtain ⟨p,hp,e⟩:=List.mem_map.mp z;rcases h.nm p hp with y|⟨kd,c,k,hk,c6,y⟩
  ·rw [y] at e;exact absurd e (by trivial)
  ·exact Zr4 (x := "h") (by trivial) (Zb9 (kind:=kd) (c:=c) (k:=k) (by lia)) (by rw [<-y];exact e)
 have hc:G9.1∈ps.map Prod.snd:=Zfn (h.net.perm.subset (by simp));refine ⟨?_,?_,?_,?_⟩
 ·rw [Zd0,Zgx,List.append_nil];have he:Y5 [("gate", "h")]=([("h", "a")]:List Zc):=by simp [Y5,Zf7 (k := "gate") (.inl rfl)]
  rw [he];show (Xg js++([G9]++[(("h" :Str),("a" :Str))])).Perm _;rw [<-List.append_assoc];exact List.Perm.append_right _ h.net.perm
 ·rw [List.map_append,List.nodup_append];exact ⟨h.net.nd,by simp,fun x hx y hy z=>by simp at hy;rw [z,hy] at hx;exact M9 hx⟩
 ·intro j hj;rcases List.mem_append.mp hj with z|z
  ·exact h.net.apart j z
  ·simp at z;subst z;exact fun y=>M9 (by have y:G9.1=("h" :Str):=y;rw [<-y];exact hc)
 ·intro p hp;rcases List.mem_append.mp hp with z|z
  ·exact h.net.kind p z
  ·simp at z;subst z;simp [Zaq]
def Wu(j:Nat):Str := "e" ++ Zh9 j
def Zhc(Yo:List Zc)(i:Nat)(x9:List Zc)(A6:List (Zc×Zc)):Prop:=∃ks:List Str,ks.length=i/\(∀k∈ks,k = "gate" \/k = "stop")/\x9=(List.range i).map (fun j=>(ks.getD j "gate",Wu j))/\A6=(List.range i).map (fun j=>(Yo.getD j ("", ""),(Wu j,("a" :Str))))
theorem Zhc.more{Yo:List Zc}{i:Nat}{x9:List Zc}{A6:List (Zc×Zc)}{k:Str}{q:Zc}(h:Zhc Yo i x9 A6) (hk:k = "gate" \/k = "stop") (hq:Yo[i]? =some q):Zhc Yo (i+1) (x9++[(k,Wu i)]) (A6++[(q,(Wu i,("a" :Str)))]):=by
 obtain ⟨ks,hl,hks,rfl,rfl⟩:=h;refine ⟨ks++[k],by rw [List.length_append,hl];rfl,?_,?_,?_⟩
 ·intro x hx;rcases List.mem_append.mp hx with z|z
  ·exact hks x z
  ·simp at z;rw [z];exact hk
 ·rw [List.range_succ,List.map_append];congr 1
  ·refine List.map_congr_left fun j hj=>?_
   have hj:=List.mem_range.mp hj;rw [List.getD_eq_getElem?_getD,List.getD_eq_getElem?_getD,List.getElem?_append_left (by lia)]
  ·show [(k,Wu i)]=[((ks++[k]).getD i "gate",Wu i)];rw [List.getD_eq_getElem?_getD,List.getElem?_append_right (by lia),hl,Nat.sub_self]
   rfl
 ·rw [List.range_succ,List.map_append];congr 1;show [(q,(Wu i,("a" :Str)))]=[(Yo.getD i ("", ""),(Wu i,("a" :Str)))];rw [List.getD_eq_getElem?_getD,hq]
  rfl
theorem Zwf(k:Str):(Yt k).Nodup:=by
 unfold Yt;split
 ·decide +kernel
 ·split
  ·decide +kernel
  ·split <;>decide +kernel
theorem Za9:∀{ps:List Zc},(ps.map Prod.snd).Nodup->(Y5 ps).Nodup
 | [],_=>List.nodup_nil
 | p ::ps,h=>by
  rw [List.map_cons,List.nodup_cons] at h;rw [show Y5 (p ::ps)=((Yt p.1).map fun e=>(p.2,e))++Y5 ps from List.flatMap_cons ..,List.nodup_append];refine ⟨?_,Za9 h.2,?_⟩
  ·refine List.Pairwise.map _ (fun a b z y=>z ?_) (Zwf p.1);exact (Prod.mk.inj y).2
  ·intro x hx y hy z;obtain ⟨e,_,rfl⟩:=List.mem_map.mp hx;rw [<-z] at hy;exact h.1 (Zfn hy)
theorem Net.ond{ps:List Zc}{js:List (Zc×Zc)}{o:List Zc}(h:Net ps js o):o.Nodup:=by
 have:=(h.perm.nodup_iff).mpr (Za9 h.nd);exact (List.nodup_append.mp this).2.1
theorem Net.add{ps:List Zc}{js:List (Zc×Zc)}{o:List Zc}{k n:Str}(h:Net ps js o)(hn:n∉ps.map Prod.snd)(hk:k∈Zaq):Net (ps++[(k,n)]) js (o++(Yt k).map fun e=>(n,e)):=by
 refine ⟨?_,?_,h.apart,?_⟩
 ·rw [Zgx,<-List.append_assoc];have:Y5 [(k,n)]=(Yt k).map fun e=>(n,e):=by simp [Y5]
  rw [this];exact List.Perm.append_right _ h.perm
 ·rw [List.map_append,List.nodup_append];exact ⟨h.nd,by simp,fun x hx y hy z=>by simp at hy;rw [z,hy] at hx;exact hn hx⟩
 ·intro p hp;rcases List.mem_append.mp hp with z|z
  ·exact h.kind p z
  ·simp at z;rw [z];exact hk
theorem Net.join{ps:List Zc}{js:List (Zc×Zc)}{o o':List Zc}{a b:Zc}(h:Net ps js o)(hp:(a ::b ::o').Perm o)(ne:a.1≠b.1):Net ps (js++[(a,b)]) o':=by
 refine ⟨?_,h.nd,?_,h.kind⟩
 ·rw [Zd0];refine List.Perm.trans ?_ h.perm;show (Xg js++[a,b]++o').Perm _;rw [List.append_assoc];exact List.Perm.append_left _ hp
 ·intro j hj;rcases List.mem_append.mp hj with z|z
  ·exact h.apart j z
  ·simp at z;rw [z];exact ne
theorem Zg7{α:Type}:∀{l:List α} {i:Nat} {a:α},l[i]? =some a->(a ::l.eraseIdx i).Perm l
 | [],_,_,h=>by cases h
 | x ::l,0,a,h=>by cases h;exact List.Perm.refl _
 | x ::l,i+1,a,h=>by
  rw [List.eraseIdx_cons_succ];exact (List.Perm.swap x a _).trans ((Zg7 (l:=l) h).cons x)
theorem Zv4{α:Type}{l m:List α}{i j:Nat}{a b:α}(ha:l[i]? =some a)(hb:m[j]? =some b):(a ::b ::(l.eraseIdx i++m.eraseIdx j)).Perm (l++m):=by
 refine List.Perm.trans ?_ ((Zg7 ha).append (Zg7 hb));show List.Perm _ (a ::(l.eraseIdx i++(b ::m.eraseIdx j)));exact (List.perm_middle.symm).cons a
theorem Zs3{l:List Zc}{a:Zc}(nd:l.Nodup)(ha:a∈l):(a ::l.filter fun e=>decide (e≠a)).Perm l:=by
 induction l with
 | nil=>cases ha
 | cons x l ih =>
  rw [List.nodup_cons] at nd
  by_cases z:x=a
  ·subst z;rw [List.filter_cons,if_neg (by simp)];have:(l.filter fun e=>decide (e≠x))=l:=List.filter_eq_self.mpr fun e he=>decide_eq_true fun y=>nd.1 (y ▸ he)
   rw [this]
  ·rw [List.filter_cons,if_pos (decide_eq_true z)];have S0:a∈l:=by
    rcases List.mem_cons.mp ha with y|y
    ·exact absurd y.symm z
    ·exact y
   exact (List.Perm.swap x a _).trans ((ih nd.2 S0).cons x)
theorem Ztr{r:Zc}{l:List Zc}{a:Zc}(nd:(r ::l).Nodup)(ha:a∈l):(a ::r ::l.filter fun e=>decide (e≠a)).Perm (r ::l) :=
 (List.Perm.swap r a _).trans ((Zs3 (List.nodup_cons.mp nd).2 ha).cons r)
theorem Zsf{j:Nat}(h:j<100):Zjn (Wu j)=j:=by
 unfold Wu Zjn;rw [Zbg,List.foldl_append];exact Znz j h
theorem Zt1:∀k,k<100->(Zh9 k).cps.toList.getD 0 0<=57:=by trivial
theorem Zuf{kd:Str}{c:Int}{k j:Nat}(hj:j<100)(hk:kd.cps.toList.getD 0 0≠101):Yz kd c k≠Wu j:=by
 intro z;have z':=congrArg (fun s:Str=>s.cps.toList) z;have he:(Wu j).cps.toList=101 ::(Zh9 j).cps.toList:=by unfold Wu;rw [Zbg];rfl
 simp only [he] at z';unfold Yz at z';split at z'
 ·rw [Zbg] at z';exact hk (List.cons.inj z').1
 ·rw [Zbg,Zbg,Zbg] at z';have b0:=Int.emod_nonneg (c / 78) (show (26:Int)≠0 by decide);have b1:=Int.emod_lt_of_pos (c / 78) (show (0:Int)<26 by decide);have hb:=Zng b0 b1;have z2:=(List.cons.inj z').2;have hf:=Zt1 j hj;rw [<-z2] at hf;have:Zd1 (c / 78%26)<=57:=hf;lia
theorem Net.closed{ps:List Zc}{js:List (Zc×Zc)}{Yo x9:List Zc}{A6:List (Zc×Zc)}(h:Net ps js Yo)(hc:Zhc Yo Yo.length x9 A6)(hl:Yo.length<=90)(hn:∀j,j<90->Wu j∉ps.map Prod.snd):Net (ps++x9) (js++A6) []:=by
 obtain ⟨ks,hkl,hks,rfl,rfl⟩:=hc;have M9:∀n,n<=Yo.length->Net (ps++(List.range n).map fun j=>(ks.getD j "gate",Wu j)) (js++(List.range n).map fun j=>(Yo.getD j ("", ""),(Wu j,("a" :Str)))) (Yo.drop n):=by
  intro n
  induction n with
  | zero=>intro _;simpa using h
  | succ n ih =>
   intro hn';have h0:=ih (by lia);have c6:n<Yo.length:=by lia
   have E6:ks.getD n "gate" = "gate" \/ks.getD n "gate" = "stop" :=hks _ (by
    rw [List.getD_eq_getElem?_getD,List.getElem?_eq_getElem (by lia)];exact List.getElem_mem _)
   have i5:Wu n∉(ps++(List.range n).map fun j=>(ks.getD j "gate",Wu j)).map Prod.snd:=by
    rw [List.map_append,List.mem_append];rintro (z|z)
    ·exact hn n (by lia) z
    ·rw [List.map_map] at z;obtain ⟨j,hj,e⟩:=List.mem_map.mp z;have hj:=List.mem_range.mp hj;have:=congrArg Zjn e;rw [Zsf (by lia)] at this;have h2:Zjn (Wu j)=n:=this;rw [Zsf (by lia)] at h2;lia
   have h1:=h0.add i5 (k:=ks.getD n "gate") (by rcases E6 with z|z <;>rw [z] <;>simp [Zaq]);rw [Zf7 E6] at h1;have hd:Yo.drop n=Yo.getD n ("", "") ::Yo.drop (n+1):=by
    rw [List.drop_eq_getElem_cons c6,List.getD_eq_getElem?_getD,List.getElem?_eq_getElem c6]
    rfl
   have U1:(Yo.getD n ("", "")).1≠Wu n:=by
    have:Yo.getD n ("", "")∈Yo.drop n:=by rw [hd];simp
    have h3:=Zfn (h0.perm.subset (List.mem_append_right _ this));exact fun z=>i5 (z ▸ h3)
   have h2:=h1.join (a:=Yo.getD n ("", "")) (b:=(Wu n, "a")) (o':=Yo.drop (n+1)) (by
    rw [hd];show List.Perm _ (Yo.getD n ("", "") ::(Yo.drop (n+1)++[(Wu n,("a" :Str))]));exact (List.perm_append_singleton _ _).symm.cons _) U1
   rw [List.range_succ,List.map_append,List.map_append,<-List.append_assoc,<-List.append_assoc];exact h2
 have:=M9 Yo.length (Nat.le_refl _);rwa [List.drop_length] at this
end YM
end
section
namespace YM
open PySem L2 NM
theorem Zj8:∀k∈Zaq,57<k.cps.toList.getD 0 0/\k.cps.toList.getD 0 0≠101/\0<k.length/\k.length<=6/\(Yt k).length<=4/\0<(Yt k).length:=by trivial
def nmD(s:Str)(n:Nat):Prop:=∃kd∈Zaq,∃(c:Int) (k:Nat),k<n/\s=Yz kd c k
structure Xv(i m:Nat)(ps:List Zc)(js:List (Zc×Zc))(Yo:List Zc):Prop where
 net:Net ps js Yo
 sum:ps.length+Yo.length<=39
 jl:js.length<=m
 nm:∀p∈ps,nmD p.2 i
theorem Xv.start:Xv 0 0 [] [] []:=⟨⟨List.Perm.refl _,List.nodup_nil,by simp,by simp⟩,by simp,by simp,by simp⟩
theorem Xv.mono{i m i' m':Nat}{ps:List Zc}{js:List (Zc×Zc)}{Yo:List Zc}(h:Xv i m ps js Yo)(hi:i<=i')(hm:m<=m'):Xv i' m' ps js Yo :=
 ⟨h.net,h.sum,Nat.le_trans h.jl hm,fun p hp=>let ⟨kd,h1,c,k,h2,h3⟩:=h.nm p hp;⟨kd,h1,c,k,by lia,h3⟩⟩
theorem Xv.new{i m:Nat}{ps:List Zc}{js:List (Zc×Zc)}{Yo:List Zc}{kd:Str}{c:Int}(h:Xv i m ps js Yo)(hi:i<100)(hk:kd∈Zaq):Yz kd c i∉ps.map Prod.snd:=fun z=>by
 obtain ⟨p,hp,e⟩:=List.mem_map.mp z;obtain ⟨kd',h1,c',k,h2,h3⟩:=h.nm p hp;have:=congrArg Zjn (e.symm.trans h3);rw [Zci (Zj8 _ hk).1 hi,Zci (Zj8 _ h1).1 (by lia)] at this;lia
theorem Xv.add{i m:Nat}{ps:List Zc}{js:List (Zc×Zc)}{Yo:List Zc}{kd:Str}{c:Int}(h:Xv i m ps js Yo)(hi:i<100)(hk:kd∈Zaq)(hs:ps.length+Yo.length+(Yt kd).length<=38):Xv (i+1) m (ps++[(kd,Yz kd c i)]) js (Yo++(Yt kd).map fun e=>(Yz kd c i,e)):=by
 refine ⟨h.net.add (h.new hi hk) hk,?_,h.jl,?_⟩
 ·rw [List.length_append,List.length_append,List.length_map];show _+1+_<=39;lia
 ·intro p hp;rcases List.mem_append.mp hp with z|z
  ·exact (h.mono (Nat.le_succ i) (Nat.le_refl m)).nm p z
  ·simp at z;rw [z];exact ⟨kd,hk,c,i,by lia,rfl⟩
theorem Xv.join(h:Xv i m ps js o)(hp:(a ::b ::o').Perm o)(ne:a.1≠b.1):Xv i (m+1) ps (js++[(a,b)]) o':=by
 refine ⟨h.net.join hp ne,?_,?_,h.nm⟩
 ·have:=h.sum;have hl:=hp.length_eq;simp at hl;lia
 ·rw [List.length_append];exact Nat.succ_le_succ h.jl
theorem Xv.done{i m:Nat}{ps:List Zc}{js:List (Zc×Zc)}{Yo x9:List Zc}{A6:List (Zc×Zc)}(h:Xv i m ps js Yo)(hi:i<=100)(hc:Zhc Yo Yo.length x9 A6):Net (ps++x9) (js++A6) []:=by
 have hs:=h.sum;refine h.net.closed hc (by lia) fun j hj z=>?_
 obtain ⟨p,hp,e⟩:=List.mem_map.mp z;obtain ⟨kd',h1,c',k,h2,h3⟩:=h.nm p hp;exact Zuf (by lia) (Zj8 _ h1).2.1 (h3.symm.trans e)
theorem Zht{α β:Type}{R:α->β->Prop}:∀{l:List α} {m:List β},Paired R l m->∀i,Paired R (l.eraseIdx i) (m.eraseIdx i)
 | _,_,.nil,_=>.nil
 | _,_,.cons r t,0=>t
 | _,_,.cons r t,i+1=>.cons r (Zht t i)
theorem Zm6{α β:Type}(f:α->β):∀(l:List α) (i:Nat),(l.map f).eraseIdx i=(l.eraseIdx i).map f
 | [],_=>rfl
 | _ ::_,0=>rfl
 | x ::l,i+1=>by rw [List.map_cons,List.eraseIdx_cons_succ,List.eraseIdx_cons_succ,List.map_cons,Zm6 f l i]
end YM
end
section
namespace L2
open PySem PySem.Spec PyProof.Rows
theorem ixT{K:Frag}{H:Hp}{a:Addr}{xs:List V}{v:V}{Q:VK}(h:H a=some (.tup xs))(j:Nat)(e:xs[j]? =some v)(q:Q v H):rIx K (.ref a) (.int (j:Nat)) H Q:=.inr (.inl ⟨a,xs,j,v,rfl,rfl,SqT.of h,Yh e,q⟩)
theorem ixV{K:Frag}{H:Hp}{a:Addr}{xs:List V}{v:V}{i:Int}{Q:VK}(h:H a=some (.tup xs))(e:atI xs i=some v)(q:Q v H):rIx K (.ref a) (.int i) H Q:=.inr (.inl ⟨a,xs,i,v,rfl,rfl,SqT.of h,e,q⟩)
theorem Zv{X:Cx}{K:Frag}{a b:Expr}{ta tb:TE}{pos:Pos}(hK:X.K=K)(ha:PE X a ta)(hb:PE X b tb)(hs:Zsj b:=by exact fun _ _=>rfl):PE X (.Subscript a b pos) (tOp (rIx K) ta tb):=by subst hK;exact Yb9 Zy9 ha hb hs
theorem szA{n:Nat}(h:n<=1000:=by simp):n<=sizeLine:=sz h
end L2
namespace L2
theorem exR{α:Sort u}{p R:α->Prop}{w:α}(h:p w)(k:R w):∃x,p x/\R x:=⟨w,h,k⟩
theorem exQ{α:Sort u}{β:Sort v}{p R:α->β->Prop}{q:α->β->Prop}{w:α}{z:β}(h:p w z)(g:q w z)(k:R w z):∃x y,p x y/\q x y/\R x y:=⟨w,z,h,g,k⟩
end L2
namespace K54
open PySem L2 NM
def top(i:Nat):Stmt:=PySem.Challenge.pw_yardkeep_k54_whole_world.main.body.getD i (.Pass ⟨0,0,0,0⟩)
abbrev Zit:Stmt:=top 11
theorem Zrz:Zn ["thing"] ["thing"] (Zi Zit):={}
abbrev Zby:Stmt:=Yg (top 12) 0
theorem Ziv:Zn ["self", "name"] ["self", "name"] (Zi Zby):={}
abbrev Zfx:Stmt:=Yg (top 12) 1
theorem Zoc:Zn ["self"] ["self"] (Zi Zfx):={}
abbrev Zfk:Stmt:=Yg (top 12) 2
theorem Zn4:Zn ["self"] ["self"] (Zi Zfk):={}
abbrev Zd5:Stmt:=Yg (top 12) 3
theorem Zmx:Zn ["self", "lie"] ["self", "lie"] (Zi Zd5):={}
abbrev Wo:Stmt:=Yg (top 12) 4
theorem Zdy:Zn ["self", "end", "lie", "one", "two"] ["self", "end", "lie"] (Zi Wo):={}
abbrev Zea:Stmt:=Yg (top 12) 5
theorem Zmh:Zn ["self"] ["self"] (Zi Zea):={}
abbrev Zfa:Stmt:=Yg (top 14) 0
theorem Zoi:Zn ["self"] ["self"] (Zi Zfa):={}
abbrev Zev:Stmt:=Yg (top 14) 1
theorem Zmu:Zn ["self", "lie"] ["self", "lie"] (Zi Zev):={}
abbrev Zdp:Stmt:=Yg (top 16) 0
theorem Zlt:Zn ["self"] ["self"] (Zi Zdp):={}
abbrev Zc9:Stmt:=Yg (top 16) 1
theorem Zlz:Zn ["self"] ["self"] (Zi Zc9):={}
abbrev Zcm:Stmt:=Yg (top 16) 2
theorem Zjf:Zn ["self", "lie"] ["self", "lie"] (Zi Zcm):={}
abbrev Zcp:Stmt:=Yg (top 16) 3
theorem Zjo:Zn ["self"] ["self"] (Zi Zcp):={}
abbrev Zec:Stmt:=Yg (top 17) 0
theorem Zmq:Zn ["self"] ["self"] (Zi Zec):={}
abbrev Zdt:Stmt:=Yg (top 17) 1
theorem Zkv:Zn ["self", "lie"] ["self", "lie"] (Zi Zdt):={}
abbrev Zdg:Stmt:=Yg (top 17) 2
theorem Zlj:Zn ["self"] ["self"] (Zi Zdg):={}
abbrev Zil:Stmt:=top 21
theorem Zq8:Zn ["thing"] ["thing"] (Zi Zil):={}
abbrev Zg2:Stmt:=top 22
theorem Zqb:Zn ["end", "ends"] ["end", "ends"] (Zi Zg2):={}
abbrev Zdf:Stmt:=top 23
theorem Zk6:Zn ["name", "known"] ["name", "known"] (Zi Zdf):={}
abbrev Zbx:Stmt:=top 24
theorem Za4:Zn ["parts", "part_of", "part"] ["parts"] (Zi Zbx):={}
abbrev Zbp:Stmt:=top 25
theorem X8:Zn ["part_of", "part_at", "name", "part", "end"] ["part_of"] (Zi Zbp):={}
abbrev Zdd:Stmt:=top 26
theorem Zfo:Zn ["join", "part_at", "joined", "end"] ["join", "part_at", "joined"] (Zi Zdd):={}
abbrev Zc8:Stmt:=top 27
theorem Zcb:Zn ["joins", "part_at", "joined", "join"] ["joins", "part_at"] (Zi Zc8):={}
abbrev Zdx:Stmt:=top 28
theorem Zkl:Zn ["end", "part_at", "ends_with_signals"] ["end", "part_at", "ends_with_signals"] (Zi Zdx):={}
abbrev Zhe:Stmt:=top 29
theorem Zbh:Zn ["signals", "part_at", "post_of", "signal", "name", "end"] ["signals", "part_at"] (Zi Zhe):={}
abbrev Xk:Stmt:=Yg (top 30) 0
theorem W8:Zn ["self", "parts", "joins", "signals", "asked_signals", "part_at"] ["self", "parts", "joins", "signals"] (Zi Xk):={}
abbrev Zcq:Stmt:=Yg (top 30) 1
theorem Zjm:Zn ["self"] ["self"] (Zi Zcq):={}
abbrev Zcu:Stmt:=Yg (top 30) 2
theorem Ze2:Zn ["self", "name"] ["self", "name"] (Zi Zcu):={}
abbrev Zbu:Stmt:=Yg (top 30) 3
theorem Zih:Zn ["self", "end"] ["self", "end"] (Zi Zbu):={}
abbrev W7:Stmt:=Yg (top 30) 4
theorem Zgg:Zn ["self", "end"] ["self", "end"] (Zi W7):={}
abbrev Zgv:Stmt:=top 31
theorem Zqk:Zn ["tracks"] ["tracks"] (Zi Zgv):={}
abbrev Zf0:Stmt:=top 32
theorem Zn6:Zn ["tracks"] ["tracks"] (Zi Zf0):={}
abbrev Zbv:Stmt:=top 33
theorem Zh8:Zn ["tracks"] ["tracks"] (Zi Zbv):={}
abbrev Zdv:Stmt:=top 36
theorem Zkr:Zn ["tracks", "gate"] ["tracks", "gate"] (Zi Zdv):={}
abbrev Zbq:Stmt:=top 37
theorem Zio:Zn ["long"] ["long"] (Zi Zbq):={}
abbrev Zbr:Stmt:=top 38
theorem Ziz:Zn ["tracks", "points"] ["tracks", "points"] (Zi Zbr):={}
abbrev Zeq:Stmt:=top 39
theorem Zmf:Zn ["tracks", "points", "lie"] ["tracks", "points", "lie"] (Zi Zeq):={}
abbrev Za2:Stmt:=Yg (top 41) 0
theorem Zhu:Zn ["self", "name", "long", "gate"] ["self", "name", "long", "gate"] (Zi Za2):={}
abbrev Za5:Stmt:=Yg (top 42) 0
theorem Zhs:Zn ["self", "tracks"] ["self", "tracks"] (Zi Za5):={}
abbrev Wt:Stmt:=Yg (top 42) 1
theorem Zfg:Zn ["self", "name"] ["self", "name"] (Zi Wt):={}
abbrev Zco:Stmt:=Yg (top 42) 2
theorem Zjk:Zn ["self", "spot"] ["self", "spot"] (Zi Zco):={}
abbrev Zae:Stmt:=Yg (top 42) 3
theorem Zgw:Zn ["self", "spot"] ["self", "spot"] (Zi Zae):={}
abbrev Zeh:Stmt:=Yg (top 42) 4
theorem Zgr:Zn ["self", "train", "spot", "mishap"] ["self", "train", "spot"] (Zi Zeh):={}
abbrev Zd6:Stmt:=Yg (top 42) 5
theorem Zmr:Zn ["self", "name", "long", "gate"] ["self", "name", "long", "gate"] (Zi Zd6):={}
abbrev Zgu:Stmt:=Yg (top 42) 6
theorem Zbj:Zn ["self", "name", "shows", "train", "head", "end", "signal"] ["self", "name", "shows"] (Zi Zgu):={}
abbrev Zdj:Stmt:=Yg (top 42) 7
theorem Zfh:Zn ["self", "name", "train"] ["self", "name"] (Zi Zdj):={}
abbrev Zdi:Stmt:=Yg (top 42) 8
theorem Zld:Zn ["self", "name"] ["self", "name"] (Zi Zdi):={}
abbrev Zem:Stmt:=Yg (top 42) 9
theorem Zmv:Zn ["self", "points", "lie"] ["self", "points", "lie"] (Zi Zem):={}
abbrev Zd8:Stmt:=Yg (top 42) 10
theorem Zmw:Zn ["self"] ["self"] (Zi Zd8):={}
abbrev Zdq:Stmt:=Yg (top 42) 11
theorem Zko:Zn ["self", "name"] ["self", "name"] (Zi Zdq):={}
abbrev Zce:Stmt:=Yg (top 42) 12
theorem Zje:Zn ["self"] ["self"] (Zi Zce):={}
abbrev Zdl:Stmt:=Yg (top 42) 13
theorem Zar:Zn ["self", "told", "train", "spot"] ["self"] (Zi Zdl):={}
abbrev Zai:Stmt:=Yg (top 42) 14
theorem Zg8:Zn ["self"] ["self"] (Zi Zai):={}
abbrev Zel:Stmt:=top 44
theorem Zgm:Zn ["_law_cell", "_law_k", "_law_left"] ["_law_cell", "_law_k"] (Zi Zel):={}
abbrev Zcg:Stmt:=top 45
theorem Zjh:Zn ["_law_script", "_law_k"] ["_law_script", "_law_k"] (Zi Zcg):={}
abbrev Zei:Stmt:=top 46
theorem Zmk:Zn ["_law_script", "_law_at", "_law_end"] ["_law_script", "_law_at", "_law_end"] (Zi Zei):={}
abbrev Ze9:Stmt:=top 47
theorem Zo0:Zn ["_law_kind_here"] ["_law_kind_here"] (Zi Ze9):={}
abbrev Zch:Stmt:=top 48
theorem Zbs:Zn ["_law_kind_here", "_law_cell", "_law_k", "_law_letters", "_law_signs"] ["_law_kind_here", "_law_cell", "_law_k"] (Zi Zch):={}
abbrev Zep:Stmt:=top 49
theorem Z3:Zn ["_law_cell", "_law_names", "_law_one", "_law_two", "_law_three", "_law_four", "_law_way", "_law_ends_here", "_law_far", "_law_joins", "_law_parts", "_law_turn", "_law_aside", "_law_rest"] ["_law_cell", "_law_names"] (Zi Zep):={}
abbrev Zfy:Stmt:=top 50
theorem Y3:Zn ["_law_cells_here", "_law_parts", "_law_joins", "_law_end", "_law_k", "_law_cell", "_law_names", "_law_j", "_law_block_here"] ["_law_cells_here"] (Zi Zfy):={}
abbrev Zdm:Stmt:=top 51
theorem Zak:Zn ["_law_parts", "_law_joins", "_law_rest", "_law_cell", "_law_j", "_law_end", "_law_name"] ["_law_parts", "_law_joins", "_law_rest", "_law_cell"] (Zi Zdm):={}
abbrev Zee:Stmt:=top 52
theorem Yp:Zn ["_law_cells_here", "_law_parts", "_law_joins", "_law_rest", "_law_k", "_law_cell", "_law_kind_here", "_law_ends_here", "_law_name", "_law_fresh", "_law_near", "_law_other"] ["_law_cells_here"] (Zi Zee):={}
abbrev Zat:Stmt:=top 53
theorem Ya:Zn ["_law_parts", "_law_cell", "_law_letters", "_law_ends_here", "_law_kind_here", "_law_name", "_law_end", "_law_found", "_law_k", "_law_draw", "_law_signs"] ["_law_parts", "_law_cell"] (Zi Zat):={}
abbrev Zcd:Stmt:=top 54
theorem Xm:Zn ["_law_cells_here", "_law_cell", "_law_found", "_law_parts", "_law_joins", "_law_at"] ["_law_cells_here", "_law_cell"] (Zi Zcd):={}
abbrev Zfs:Stmt:=top 55
theorem Zn9:Zn ["_law_kind_here", "_law_name"] ["_law_kind_here", "_law_name"] (Zi Zfs):={}
abbrev Zdr:Stmt:=top 56
theorem Zki:Zn ["_law_yard"] ["_law_yard"] (Zi Zdr):={}
abbrev Zen:Stmt:=top 57
theorem Zmt:Zn ["_law_kind_here", "_law_end", "_law_lie"] ["_law_kind_here", "_law_end", "_law_lie"] (Zi Zen):={}
abbrev Zc7:Stmt:=top 58
theorem Zcr:Zn ["_law_joins", "_law_end", "_law_one", "_law_other"] ["_law_joins", "_law_end"] (Zi Zc7):={}
abbrev Zdw:Stmt:=top 59
theorem Zah:Zn ["_law_signals", "_law_end", "_law_name", "_law_place", "_law_spot"] ["_law_signals", "_law_end"] (Zi Zdw):={}
abbrev Zfv:Stmt:=top 60
theorem Zon:Zn ["_law_yard", "_law_name"] ["_law_yard", "_law_name"] (Zi Zfv):={}
abbrev Zfw:Stmt:=top 61
theorem Xr:Zn ["_law_yard", "_law_state", "_law_name", "_law_passes", "_law_long", "_law_spots", "_law_part_here", "_law_end", "_law_way", "_law_signal_here", "_law_there", "_law_kind_here"] ["_law_yard", "_law_state", "_law_name", "_law_passes"] (Zi Zfw):={}
abbrev Zeo:Stmt:=top 62
theorem Zbb:Zn ["_law_state", "_law_found", "_law_name"] ["_law_state"] (Zi Zeo):={}
abbrev Zds:Stmt:=top 63
theorem X9:Zn ["_law_yard", "_law_state", "_law_name", "_law_long", "_law_spots", "_law_fresh", "_law_part_here", "_law_end"] ["_law_yard", "_law_state", "_law_name"] (Zi Zds):={}
abbrev Zfq:Stmt:=top 64
theorem Zb5:Zn ["_law_world", "_law_yard", "_law_state", "_law_name", "_law_cell", "_law_gates", "_law_gate", "_law_long"] ["_law_world", "_law_yard", "_law_state", "_law_name", "_law_cell"] (Zi Zfq):={}
abbrev Zdc:Stmt:=top 65
theorem Zaf:Zn ["_law_world", "_law_yard", "_law_state", "_law_cell", "_law_one", "_law_points_here", "_law_lie"] ["_law_world", "_law_yard", "_law_state", "_law_cell"] (Zi Zdc):={}
abbrev Wl:Stmt:=top 66
theorem Zap:Zn ["_law_world", "_law_yard", "_law_state", "_law_cell", "_law_name", "_law_way", "_law_due", "_law_shown"] ["_law_world", "_law_yard", "_law_state", "_law_cell"] (Zi Wl):={}
abbrev Zfp:Stmt:=top 67
theorem Zor:Zn ["_law_world", "_law_at"] ["_law_world", "_law_at"] (Zi Zfp):={}
abbrev Zcv:Stmt:=top 68
theorem Zez:Zn ["_law_found", "_law_at", "_law_one"] ["_law_found", "_law_at"] (Zi Zcv):={}
abbrev Ze8:Stmt:=top 69
theorem Wd:Zn ["_law_world", "_law_yard", "_law_state", "_law_cell", "_law_held", "_law_taken", "_law_name", "_law_due", "_law_k", "_law_at", "_law_found"] ["_law_world", "_law_yard", "_law_state", "_law_cell", "_law_held"] (Zi Ze8):={}
abbrev Zho:Stmt:=top 70
theorem Zao:Zn ["_law_script", "_law_yard", "_law_tracks_here", "_law_world", "_law_beside", "_law_kind_here", "_law_one", "_law_gates", "_law_gate", "_law_told_here", "_law_state", "_law_held", "_law_k", "_law_cell"] ["_law_script"] (Zi Zho):={}
set_option genInjectivity false in
set_option genSizeOf false in
structure Tx(K:Frag)(mg:Str->Option Value) where
 cW:Dn K "is_name" "is_name" Zit ["thing"]
 dw:mg "is_name" =some (.ref cW.f)
 ae:Dn K "__init__" "Part.__init__" Zby ["self", "name"]
 aU:Dn K "ends" "Part.ends" Zfx ["self"]
 am:Dn K "lies" "Part.lies" Zfk ["self"]
 aM:Dn K "pairs" "Part.pairs" Zd5 ["self", "lie"]
 aq:DnD K "leads" "Part.leads" Wo ["self", "end", "lie"] (.str "")
 ar:Dn K "bears" "Part.bears" Zea ["self"]
 aV:Dn K "ends" "Stop.ends" Zfa ["self"]
 aN:Dn K "pairs" "Stop.pairs" Zev ["self", "lie"]
 bg:Dn K "ends" "Points.ends" Zdp ["self"]
 bh:Dn K "lies" "Points.lies" Zc9 ["self"]
 aW:Dn K "pairs" "Points.pairs" Zcm ["self", "lie"]
 aX:Dn K "bears" "Points.bears" Zcp ["self"]
 bD:Dn K "ends" "Cross.ends" Zec ["self"]
 bi:Dn K "pairs" "Cross.pairs" Zdt ["self", "lie"]
 bn:Dn K "bears" "Cross.bears" Zdg ["self"]
 cX:Dn K "is_pair" "is_pair" Zil ["thing"]
 eZ:mg "is_pair" =some (.ref cX.f)
 cL:Dn K "is_known" "is_known" Zg2 ["end", "ends"]
 bM:mg "is_known" =some (.ref cL.f)
 bN:Dn K "refuse_name" "refuse_name" Zdf ["name", "known"]
 cJ:mg "refuse_name" =some (.ref bN.f)
 bu:Dn K "parts_by_name" "parts_by_name" Zbx ["parts"]
 dH:mg "parts_by_name" =some (.ref bu.f)
 bv:Dn K "ends_to_parts" "ends_to_parts" Zbp ["part_of"]
 dI:mg "ends_to_parts" =some (.ref bv.f)
 bO:Dn K "refuse_join" "refuse_join" Zdd ["join", "part_at", "joined"]
 eu:mg "refuse_join" =some (.ref bO.f)
 bP:Dn K "joined_ends" "joined_ends" Zc8 ["joins", "part_at"]
 ez:mg "joined_ends" =some (.ref bP.f)
 bQ:Dn K "refuse_post" "refuse_post" Zdx ["end", "part_at", "ends_with_signals"]
 eE:mg "refuse_post" =some (.ref bQ.f)
 cM:Dn K "posts_of" "posts_of" Zhe ["signals", "part_at"]
 gk:mg "posts_of" =some (.ref cM.f)
 aI:DnD K "__init__" "Tracks.__init__" Xk ["self", "parts", "joins", "signals"] .non
 aE:Dn K "names" "Tracks.names" Zcq ["self"]
 ag:Dn K "named" "Tracks.named" Zcu ["self", "name"]
 aH:Dn K "beyond" "Tracks.beyond" Zbu ["self", "end"]
 aF:Dn K "signal_at" "Tracks.signal_at" W7 ["self", "end"]
 cN:Dn K "gates_of" "gates_of" Zgv ["tracks"]
 gp:mg "gates_of" =some (.ref cN.f)
 cz:Dn K "points_of" "points_of" Zf0 ["tracks"]
 dz:mg "points_of" =some (.ref cz.f)
 bw:Dn K "lies_at_first" "lies_at_first" Zbv ["tracks"]
 dJ:mg "lies_at_first" =some (.ref bw.f)
 bR:Dn K "refuse_gate" "refuse_gate" Zdv ["tracks", "gate"]
 eF:mg "refuse_gate" =some (.ref bR.f)
 bx:Dn K "refuse_length" "refuse_length" Zbq ["long"]
 dL:mg "refuse_length" =some (.ref bx.f)
 bz:Dn K "refuse_points" "refuse_points" Zbr ["tracks", "points"]
 dM:mg "refuse_points" =some (.ref bz.f)
 bZ:Dn K "refuse_lie" "refuse_lie" Zeq ["tracks", "points", "lie"]
 ff:mg "refuse_lie" =some (.ref bZ.f)
 aL:Dn K "__init__" "Train.__init__" Za2 ["self", "name", "long", "gate"]
 aD:Dn K "__init__" "World.__init__" Za5 ["self", "tracks"]
 ah:Dn K "train_there" "World.train_there" Wt ["self", "name"]
 aG:Dn K "led_to" "World.led_to" Zco ["self", "spot"]
 aJ:Dn K "mishap_at" "World.mishap_at" Zae ["self", "spot"]
 be:Dn K "move" "World.move" Zeh ["self", "train", "spot"]
 bf:Dn K "come" "World.come" Zd6 ["self", "name", "long", "gate"]
 cp:Dn K "go" "World.go" Zgu ["self", "name", "shows"]
 bo:Dn K "about" "World.about" Zdj ["self", "name"]
 bq:Dn K "leave" "World.leave" Zdi ["self", "name"]
 bE:Dn K "turn" "World.turn" Zem ["self", "points", "lie"]
 aO:Dn K "lies" "World.lies" Zd8 ["self"]
 br:Dn K "spots" "World.spots" Zdq ["self", "name"]
 au:Dn K "trains" "World.trains" Zce ["self"]
 ao:Dn K "taken" "World.taken" Zdl ["self"]
 av:Dn K "accidents" "World.accidents" Zai ["self"]
 aj:Dn K "_law_mixed" "_law_mixed" Zel ["_law_cell", "_law_k"]
 ca:mg "_law_mixed" =some (.ref aj.f)
 ak:Dn K "_law_cell_at" "_law_cell_at" Zcg ["_law_script", "_law_k"]
 cS:mg "_law_cell_at" =some (.ref ak.f)
 ce:Dn K "_law_cells" "_law_cells" Zei ["_law_script", "_law_at", "_law_end"]
 fg:mg "_law_cells" =some (.ref ce.f)
 cA:Dn K "_law_ends" "_law_ends" Ze9 ["_law_kind_here"]
 dA:mg "_law_ends" =some (.ref cA.f)
 bF:Dn K "_law_name_by" "_law_name_by" Zch ["_law_kind_here", "_law_cell", "_law_k"]
 cT:mg "_law_name_by" =some (.ref bF.f)
 cg:Dn K "_law_block" "_law_block" Zep ["_law_cell", "_law_names"]
 fh:mg "_law_block" =some (.ref cg.f)
 cB:Dn K "_law_line" "_law_line" Zfy ["_law_cells_here"]
 fW:mg "_law_line" =some (.ref cB.f)
 bS:Dn K "_law_closed" "_law_closed" Zdm ["_law_parts", "_law_joins", "_law_rest", "_law_cell"]
 eG:mg "_law_closed" =some (.ref bS.f)
 ci:Dn K "_law_drawn" "_law_drawn" Zee ["_law_cells_here"]
 fi:mg "_law_drawn" =some (.ref ci.f)
 aS:Dn K "_law_signals_by" "_law_signals_by" Zat ["_law_parts", "_law_cell"]
 cZ:mg "_law_signals_by" =some (.ref aS.f)
 bG:Dn K "_law_yard_by" "_law_yard_by" Zcd ["_law_cells_here", "_law_cell"]
 dP:mg "_law_yard_by" =some (.ref bG.f)
 cD:Dn K "_law_part" "_law_part" Zfs ["_law_kind_here", "_law_name"]
 fX:mg "_law_part" =some (.ref cD.f)
 bT:Dn K "_law_tracks" "_law_tracks" Zdr ["_law_yard"]
 eI:mg "_law_tracks" =some (.ref bT.f)
 cj:Dn K "_law_leads" "_law_leads" Zen ["_law_kind_here", "_law_end", "_law_lie"]
 cO:mg "_law_leads" =some (.ref cj.f)
 bU:Dn K "_law_beyond" "_law_beyond" Zc7 ["_law_joins", "_law_end"]
 eK:mg "_law_beyond" =some (.ref bU.f)
 bV:Dn K "_law_signal" "_law_signal" Zdw ["_law_signals", "_law_end"]
 eL:mg "_law_signal" =some (.ref bV.f)
 cE:Dn K "_law_kind" "_law_kind" Zfv ["_law_yard", "_law_name"]
 cU:mg "_law_kind" =some (.ref cE.f)
 bB:Dn K "_law_gone" "_law_gone" Zfw ["_law_yard", "_law_state", "_law_name", "_law_passes"]
 fY:mg "_law_gone" =some (.ref bB.f)
 ck:Dn K "_law_stood" "_law_stood" Zeo ["_law_state"]
 cm:mg "_law_stood" =some (.ref ck.f)
 bW:Dn K "_law_turned" "_law_turned" Zds ["_law_yard", "_law_state", "_law_name"]
 eM:mg "_law_turned" =some (.ref bW.f)
 cF:Dn K "_law_come" "_law_come" Zfq ["_law_world", "_law_yard", "_law_state", "_law_name", "_law_cell"]
 fZ:mg "_law_come" =some (.ref cF.f)
 bX:Dn K "_law_points" "_law_points" Zdc ["_law_world", "_law_yard", "_law_state", "_law_cell"]
 eN:mg "_law_points" =some (.ref bX.f)
 bY:Dn K "_law_deed" "_law_deed" Wl ["_law_world", "_law_yard", "_law_state", "_law_cell"]
 ga:mg "_law_deed" =some (.ref bY.f)
 cG:Dn K "_law_told" "_law_told" Zfp ["_law_world", "_law_at"]
 dB:mg "_law_told" =some (.ref cG.f)
 bH:Dn K "_law_changed" "_law_changed" Zcv ["_law_found", "_law_at"]
 dQ:mg "_law_changed" =some (.ref bH.f)
 cH:Dn K "_law_seen" "_law_seen" Ze8 ["_law_world", "_law_yard", "_law_state", "_law_cell", "_law_held"]
 gc:mg "_law_seen" =some (.ref cH.f)
 cq:Addr
 iB:mg "Part" =some (.ref cq)
 fk:Cls K cq
 gq:Xf K cq "name"
 iz:Mk K cq ae.f
 ge:Z4 K cq "ends" aU.f
 gf:Z4 K cq "lies" am.f
 fo:Z4 K cq "pairs" aM.f
 fw:Z4 K cq "bears" ar.f
 fz:Z4 K cq "leads" aq.f
 aY:Addr
 gT:mg "Plain" =some (.ref aY)
 de:Cls K aY
 dC:Xf K aY "name"
 gJ:Mk K aY ae.f
 fA:Z4 K aY "ends" aU.f
 fB:Z4 K aY "lies" am.f
 eO:Z4 K aY "pairs" aM.f
 eP:Z4 K aY "bears" ar.f
 eQ:Z4 K aY "leads" aq.f
 aP:Addr
 gR:mg "Stop" =some (.ref aP)
 dR:Cls K aP
 dS:Xf K aP "name"
 gU:Mk K aP ae.f
 gg:Z4 K aP "ends" aV.f
 gh:Z4 K aP "lies" am.f
 fE:Z4 K aP "pairs" aN.f
 fF:Z4 K aP "bears" ar.f
 fG:Z4 K aP "leads" aq.f
 aQ:Addr
 gS:mg "Gate" =some (.ref aQ)
 dU:Cls K aQ
 dW:Xf K aQ "name"
 gW:Mk K aQ ae.f
 gi:Z4 K aQ "ends" aV.f
 gj:Z4 K aQ "lies" am.f
 fH:Z4 K aQ "pairs" aN.f
 fJ:Z4 K aQ "bears" ar.f
 fK:Z4 K aQ "leads" aq.f
 al:Addr
 gC:mg "Points" =some (.ref al)
 cV:Cls K al
 df:Xf K al "name"
 gF:Mk K al ae.f
 eR:Z4 K al "ends" bg.f
 eS:Z4 K al "lies" bh.f
 dX:Z4 K al "pairs" aW.f
 dY:Z4 K al "bears" aX.f
 dZ:Z4 K al "leads" aq.f
 aZ:Addr
 gX:mg "Cross" =some (.ref aZ)
 dg:Cls K aZ
 dD:Xf K aZ "name"
 gK:Mk K aZ ae.f
 fL:Z4 K aZ "ends" bD.f
 fM:Z4 K aZ "lies" am.f
 eT:Z4 K aZ "pairs" bi.f
 eU:Z4 K aZ "bears" bn.f
 eV:Z4 K aZ "leads" aq.f
 aw:Addr
 gL:mg "Tracks" =some (.ref aw)
 af:Cls K aw
 az:Xf K aw "part_of"
 bI:Xf K aw "joined"
 cQ:Xf K aw "post_of"
 aT:Xf K aw "signal_on"
 gG:Mk K aw aI.f
 cx:Z4 K aw "names" aE.f
 ba:Z4 K aw "named" ag.f
 cR:Z4 K aw "beyond" aH.f
 cY:Z4 K aw "signal_at" aF.f
 bJ:Addr
 gY:mg "Train" =some (.ref bJ)
 bA:Cls K bJ
 dF:Xf K bJ "name"
 dG:Xf K bJ "long"
 aC:Xf K bJ "stands"
 gM:Mk K bJ aL.f
 aB:Addr
 gI:mg "World" =some (.ref aB)
 ac:Cls K aB
 ax:Xf K aB "tracks"
 bt:Xf K aB "lie_of"
 aA:Xf K aB "train_of"
 bc:Xf K aB "mishaps"
 gD:Mk K aB aD.f
 aK:Z4 K aB "train_there" ah.f
 cy:Z4 K aB "led_to" aG.f
 di:Z4 K aB "mishap_at" aJ.f
 dq:Z4 K aB "move" be.f
 dv:Z4 K aB "come" bf.f
 gt:Z4 K aB "go" cp.f
 eW:Z4 K aB "about" bo.f
 fN:Z4 K aB "turn" bE.f
 eX:Z4 K aB "spots" br.f
 bd:Z4 K aB "trains" au.f
 aR:Z4 K aB "taken" ao.f
 bK:Z4 K aB "accidents" av.f
 eY:Z4 K aB "leave" bq.f
 cP:Z4 K aB "lies" aO.f
 bL:mg "len" =none
 dO:mg "range" =none
 ay:mg "isinstance" =none
 fO:mg "list" =none
 ee:mg "dict" =none
 gN:mg "tuple" =none
 ef:mg "str" =none
 cI:mg "enumerate" =none
 ic:mg "max" =none
 ig:mg "min" =none
 ii:mg "sum" =none
 cK:mg "sorted" =none
 ij:mg "all" =none
 gu:mg "reversed" =none
 gZ:mg "bool" =none
 ik:mg "int" =none
 fP:mg "repr" =none
 iC:kitOne K (.type "tuple") (.type "tuple")=some true
 iA:kitOne K (.type "str") (.type "str")=some true
 iD:kitOne K (.type "int") (.type "int")=some true
 iE:kitOne K (.type "int") (.type "bool")=some false
 iF:kitOne K (.type "dict") (.type "dict")=some true
 iG:kitOne K (.type "list") (.type "dict")=some false
 il:kitOne K (.ref cq) (.ref aP)=some false
 hU:kitOne K (.ref aY) (.ref aP)=some false
 io:kitOne K (.ref aP) (.ref aP)=some true
 ip:kitOne K (.ref aQ) (.ref aP)=some true
 gO:kitOne K (.ref al) (.ref aP)=some false
 hV:kitOne K (.ref aZ) (.ref aP)=some false
 iq:kitOne K (.ref cq) (.ref aQ)=some false
 hW:kitOne K (.ref aY) (.ref aQ)=some false
 ir:kitOne K (.ref aP) (.ref aQ)=some false
 iu:kitOne K (.ref aQ) (.ref aQ)=some true
 gP:kitOne K (.ref al) (.ref aQ)=some false
 hZ:kitOne K (.ref aZ) (.ref aQ)=some false
 iw:kitOne K (.ref cq) (.ref al)=some false
 ia:kitOne K (.ref aY) (.ref al)=some false
 ix:kitOne K (.ref aP) (.ref al)=some false
 iy:kitOne K (.ref aQ) (.ref al)=some false
 gQ:kitOne K (.ref al) (.ref al)=some true
 ib:kitOne K (.ref aZ) (.ref al)=some false
 fe:∃tk,mg "LETTERS" =some (.str "abcdefghijklmnopqrstuvwxyz" tk)
 gE:∃tk,mg "FIGURES" =some (.str "0123456789" tk)
 ei:∃tk,mg "LONGEST_NAME" =some (.int 6 tk)
 fQ:∃tk,mg "MOST_PARTS" =some (.int 40 tk)
 eo:∃tk,mg "MOST_SIGNALS" =some (.int 40 tk)
 dN:∃tk,mg "LONGEST_TRAIN" =some (.int 4 tk)
 tG:PySem.W.specialIn K (.builtin "object.__class__") "__get__" =some (some (.builtin "getset_descriptor.__get__"))
 tK:PySem.W.takesIn K (.builtin "object.__class__")=some true
 gw:findIn K (.ref cq) "__class__" =some (some (.builtin "object.__class__"))
 gx:PySem.W.mroIn K cq (.type "object")=some true
 fR:findIn K (.ref aY) "__class__" =some (some (.builtin "object.__class__"))
 fS:PySem.W.mroIn K aY (.type "object")=some true
 gy:findIn K (.ref aP) "__class__" =some (some (.builtin "object.__class__"))
 gz:PySem.W.mroIn K aP (.type "object")=some true
 gA:findIn K (.ref aQ) "__class__" =some (some (.builtin "object.__class__"))
 gB:PySem.W.mroIn K aQ (.type "object")=some true
 er:findIn K (.ref al) "__class__" =some (some (.builtin "object.__class__"))
 et:PySem.W.mroIn K al (.type "object")=some true
 fT:findIn K (.ref aZ) "__class__" =some (some (.builtin "object.__class__"))
 fU:PySem.W.mroIn K aZ (.type "object")=some true
 bC:Addr
 fV:Ybv K bY.fd bC
section
variable {P:Program} {w:World} {K:Frag} {mg:Str->Option Value} {base:Heap} (T:Tx K mg)
seal PySem.wpAny
structure Zrq(T:Tx K mg)(H:Hp):Prop where
 _law_deed:H T.bC=some (.tbl (Zbt [(493,59,("_law_deed" :Str) ++ ".<locals>." ++ "<lambda>"),(494,36,("_law_deed" :Str) ++ ".<locals>." ++ "<lambda>")]))
theorem Zrq.mono(e:Same H H')(h:Zrq U H):Zrq U H':=⟨e _ _ h._law_deed⟩
abbrev Tx.tabs(T:Tx K mg):List (Addr×Array Value):=[(T.bC,(Zbt [(493,59,("_law_deed" :Str) ++ ".<locals>." ++ "<lambda>"),(494,36,("_law_deed" :Str) ++ ".<locals>." ++ "<lambda>")]))]
theorem Zrq.of{T:Tx K mg}{H:Hp}(h:∀p∈T.tabs,H p.1=some (.tbl p.2)):Zrq T H:=⟨h (T.bC,(Zbt [(493,59,("_law_deed" :Str) ++ ".<locals>." ++ "<lambda>"),(494,36,("_law_deed" :Str) ++ ".<locals>." ++ "<lambda>")])) (by simp)⟩
open YM
def Zr2:Sp:=fun vs H Q _=>∃c k:Int,vs=[.int c,.int k]/\Q (.int (Zgh c k)) H
def Zuh(K:Frag):Sp:=fun vs H Q _=>∃(a:Addr) (ns:List Int) (k:Nat),vs=[.ref a,.int k]/\SqL K H a (ns.map V.int)/\Q (.int (Zod ns k)) H
theorem Zvk:Z2 P w K mg base CX0 1 T.aj.f T.aj.fd ["_law_cell", "_law_k"] Zr2:=by
 refine T.aj.F.okW Zgm fun a9 A outer s H vs Q E hr h=>?_
 ·obtain ⟨c,k,rfl,q⟩:=h;intro X;refine WSs.step (Zy (i:=2) Zgm.nd (Zu Yu (Zu Zgz (Zu W3 (pv 0) (Zu Zgz Zd (pv 1))) Zd) Zd)) ?_;refine (exR rfl (exR rfl (exQ rfl rfl ⟨.inl ⟨by decide,by decide⟩,.inl (exQ rfl rfl (exQ rfl rfl ⟨.inr ⟨by decide,by decide⟩,_,_,rfl,rfl,(by show (0:Int)<2147483647;decide),?_⟩))⟩)));refine WSs.last (Zo (Zu Yu (Zu Zgz (pv 2) (Zu W3 (Zu W3 (pv 2) (Zu Zgz Zd (pv 1))) Zd)) Zd)) ?_;refine (exR rfl (exR rfl (exR rfl (exQ rfl rfl ⟨.inl ⟨by decide,by decide⟩,.inl (exQ rfl rfl (.inl (exQ rfl rfl (exQ rfl rfl ⟨.inl ?_,_,_,rfl,rfl,(by show (0:Int)<2147483629;decide),q⟩))))⟩))));have h1:=Int.emod_nonneg ((c+7919 * k) * 48271) (show (2147483647:Int)≠0 by decide);have h2:=Int.emod_lt_of_pos ((c+7919 * k) * 48271) (show (0:Int)<2147483647 by decide)
  constructor <;>lia
theorem Zb7(h:1<=k:=by decide):Z2 P w K mg base CX0 k T.aj.f T.aj.fd ["_law_cell", "_law_k"] Zr2:=(Zvk T).mono h
theorem Zxx:Z2 P w K mg base CX0 2 T.ak.f T.ak.fd ["_law_script", "_law_k"] (Zuh K):=by
 refine T.ak.F.okW Zjh fun a9 A outer s H vs Q E hr h=>?_
 ·obtain ⟨a,ns,k,rfl,hS,q⟩:=h;intro X;refine WSs.step (Zx (Zj Znk (pv 1) (Zz (r:=Zbi K) Zbz (by rfl) T.bL PySem.boot_len (Zb (pv 0) Za)) (Zr _)) Zq Zp) ?_;refine (exR rfl (exR rfl (.inl ⟨a,_,rfl,.inl hS,_,_,rfl,rfl,_,rfl,Yn (fun c6=>?_) (fun c6=>?_)⟩)))
  ·have c6:=of_decide_eq_true c6;rw [List.length_map] at c6;have hk:k<ns.length:=by lia
   have e:ns[k]? =some ns[k]:=by simp [hk]
   refine WSs.last (Zo (Zeg (Zb7 T) hr rfl T.ca T.aj.F.kp T.aj.b .nil Z7 (Zb (Zv (K:=K) rfl (pv 0) (pv 1)) (Zb (pv 1) Za)))) (exR rfl (exR rfl (.inl ⟨a,_,_,V.int ns[k],rfl,rfl,hS,Yh (by rw [List.getElem?_map,e];rfl),_,rfl,ns[k],k,rfl,?_⟩)));unfold Zod at q;rw [e] at q;exact q
  ·have c6:¬((k:Int)<((ns.map V.int).length:Int)):=fun z=>c6 (decide_eq_true z)
   rw [List.length_map] at c6;have e:ns[k]? =none:=List.getElem?_eq_none (by lia);unfold Zod at q;rw [e] at q;exact WSs.last (Zo Zd) q
theorem Zfe(h:2<=k:=by decide):Z2 P w K mg base CX0 k T.ak.f T.ak.fd ["_law_script", "_law_k"] (Zuh K):=(Zxx T).mono h
def Yam:Sp:=fun vs H Q _=>∃k:Str,vs=[.str k]/\∀p H',Same H H'->H p=none->H' p=some (.lst ((Yt k).map V.str))->Q (.ref p) H'
theorem Zhi:Z2 P w K mg base CX0 1 T.cA.f T.cA.fd ["_law_kind_here"] Yam:=by
 refine T.cA.F.okW Zo0 fun a9 A outer s H vs Q E hr h=>?_
 ·obtain ⟨k,rfl,q⟩:=h;intro X;refine WSs.step (Zx (Zj (r:=Y7 K) (Xc hr) (pv 0) Zg (Zr _)) Zq Zp) (exR rfl (.inl ⟨rfl,_,rfl,Yn (fun hc=>?_) (fun hc=>?_)⟩))
  ·have hc:k = "points" :=by simpa using hc
   subst hc;exact WSs.last (Zo (Zt (Zb Zg (Zb Zg (Zb Zg Za))))) ⟨szA,fun p H1 s1 n1 e1=>q p H1 s1 n1 e1⟩
  have h1:¬k = "points" :=by simpa using hc
  refine WSs.step (Zx (Zj (r:=Y7 K) (Xc hr) (pv 0) Zg (Zr _)) Zq Zp) (exR rfl (.inl ⟨rfl,_,rfl,Yn (fun hc=>?_) (fun hc=>?_)⟩))
  ·have hc:k = "cross" :=by simpa using hc
   subst hc;exact WSs.last (Zo (Zt (Zb Zg (Zb Zg (Zb Zg (Zb Zg Za)))))) ⟨szA,fun p H1 s1 n1 e1=>q p H1 s1 n1 e1⟩
  have h2:¬k = "cross" :=by simpa using hc
  refine WSs.step (Zx (Zj (r:=Y7 K) (Xc hr) (pv 0) Zg (Zr _)) Zq Zp) (exR rfl (.inl ⟨rfl,_,rfl,Yn (fun hc=>?_) (fun hc=>?_)⟩))
  ·have hc:k = "plain" :=by simpa using hc
   subst hc;exact WSs.last (Zo (Zt (Zb Zg (Zb Zg Za)))) ⟨szA,fun p H1 s1 n1 e1=>q p H1 s1 n1 e1⟩
  have h3:¬k = "plain" :=by simpa using hc
  exact WSs.last (Zo (Zt (Zb Zg Za))) ⟨szA,fun p H1 s1 n1 e1=>q p H1 s1 n1 (by unfold Yt;rw [if_neg h1,if_neg h2,if_neg h3];exact e1)⟩
theorem Zlr(hl:l.length=n)(h0:0<=i)(h1:i<n):atI l i=some (l.getD i.toNat 0):=by
 have e:i=((i.toNat:Nat):Int):=by lia
 have hi:i.toNat<l.length:=by lia
 rw [e];refine Yh ?_;rw [List.getD_eq_getElem?_getD,Int.toNat_natCast,List.getElem?_eq_getElem hi]
 rfl
def nmF(c:Int):Int:=c%2028+2028 * (c / 2028%2)
def Zvl:Sp:=fun vs H Q _=>∃(kind:Str) (c:Int) (k:Nat),vs=[.str kind,.int c,.int k]/\0<kind.length/\kind.length<=100/\0<=c/\k<100/\Q (.str (Yz kind (nmF c) k)) H
theorem Ze0:Z2 P w K mg base CX0 1 T.bF.f T.bF.fd ["_law_kind_here", "_law_cell", "_law_k"] Zvl:=by
 refine T.bF.F.okW Zbs fun a9 A outer s H vs Q E hr h=>?_
 ·obtain ⟨kind,c,k,rfl,hk0,hkl,hc,hk,q⟩:=h;intro X;refine WSs.step (Zy (i:=3) Zbs.nd Zg) ?_;have fl:=Zh6 k hk;refine WSs.step (Zx (Zj (r:=Y7 K) (Xc hr) (Zu Yu (pv 1) Zd) Zd (Zr _)) Zq Zp) (exR rfl (exQ rfl rfl ⟨(by show (0:Int)<3;decide),.inl ⟨rfl,_,rfl,Yn (fun hc3=>?_) (fun hc3=>?_)⟩⟩))
  ·have hc3:c%3=0:=by simpa using hc3
   unfold Yz at q;rw [if_pos (show nmF c%3=0 by unfold nmF;lia)] at q;refine WSs.last (Zo (Zu W3 (Zv (K:=K) rfl (pv 0) Zd) (X5 Zb3 (by rfl) T.ef PyProof.Rows.boot_str (Zb (pv 2) Za)))) (exR rfl (.inr (.inr ⟨kind,0,kind.cps.toList.getD 0 0,rfl,rfl,sz (by lia),?_,_,rfl,(k:Int),rfl,Zol hk,.inr (.inl (exQ rfl rfl ⟨sz ?_,q⟩))⟩)))
   ·have:(0:Int)<kind.cps.toList.length:=by rw [Array.length_toList];exact Int.ofNat_lt.mpr hk0
    exact Zlr (n:=kind.cps.toList.length) rfl (by decide) this
   ·show 1+(Zh9 k).length<=1000;lia
  have hc3:¬c%3=0:=by simpa using hc3
  have a0:=Int.emod_nonneg (c / 3) (show (26:Int)≠0 by decide);have a1:=Int.emod_lt_of_pos (c / 3) (show (0:Int)<26 by decide);have b0:=Int.emod_nonneg (c / 78) (show (26:Int)≠0 by decide);have b1:=Int.emod_lt_of_pos (c / 78) (show (0:Int)<26 by decide);have z0:=Int.emod_nonneg (c / 2028) (show (2:Int)≠0 by decide);have z1:=Int.emod_lt_of_pos (c / 2028) (show (0:Int)<2 by decide);obtain ⟨zn,hzn⟩:∃zn:Nat,c / 2028%2=(zn:Int):=⟨(c / 2028%2).toNat,by lia⟩
  unfold Yz at q;rw [if_neg (show ¬nmF c%3=0 by unfold nmF;lia),show nmF c / 2028%3=(zn:Int) by unfold nmF;lia,Int.toNat_natCast,show nmF c / 3%26=c / 3%26 by unfold nmF;lia,show nmF c / 78%26=c / 78%26 by unfold nmF;lia] at q;refine WSs.step (Zy (i:=4) Zbs.nd (Zu W3 (Zv (K:=K) rfl (pv 3) (Zu Yu (Zu Ys (pv 1) Zd) Zd)) (Zv (K:=K) rfl (pv 3) (Zu Yu (Zu Ys (pv 1) Zd) Zd)))) (exR rfl (exR rfl (exQ rfl rfl ⟨⟨by decide,by decide⟩,_,_,rfl,rfl,(by show (0:Int)<26;decide),.inr (.inr ⟨_,_,Zd1 (c / 3%26),rfl,rfl,sz (by rw [Zj1];decide),(by rw [Zo1];exact Zlr (n:=26) rfl a0 a1),?_⟩)⟩)));refine (exR rfl (exR rfl (exQ rfl rfl ⟨⟨by decide,by decide⟩,_,_,rfl,rfl,(by show (0:Int)<26;decide),.inr (.inr ⟨_,_,Zd1 (c / 78%26),rfl,rfl,sz (by rw [Zj1];decide),(by rw [Zo1];exact Zlr (n:=26) rfl b0 b1),.inr (.inl (exQ rfl rfl ⟨sz (by show 1+1<=1000;decide),?_⟩))⟩)⟩)));have rl:(Zh7 "0" zn).length<=2:=by
   have:zn<3:=by lia
   have hd:∀m,m<3->(Zh7 "0" m).length<=2:=by trivial
   exact hd zn this
  have ll:(⟨#[Zd1 (c / 3%26)]⟩++⟨#[Zd1 (c / 78%26)]⟩:Str).length=2:=by rw [PySem.Str.length_append];rfl
  refine WSs.last (Zo (Zu W3 (Zu W3 (pv 4) (Zu Zx7 Zg (Zu Yu (Zu Ys (pv 1) Zd) Zd))) (X5 Zb3 (by rfl) T.ef PyProof.Rows.boot_str (Zb (pv 2) Za)))) (exR rfl (exR rfl (exQ rfl rfl ⟨⟨by decide,by decide⟩,_,_,rfl,rfl,(by show (0:Int)<2;decide), "0",zn,rfl,by rw [<-hzn],by show 1 * zn<=1000;lia,by lia,.inr (.inl (exQ rfl rfl ⟨sz (by rw [ll];lia),_,rfl,(k:Int),rfl,Zol hk,.inr (.inl (exQ rfl rfl ⟨sz ?_,q⟩))⟩))⟩)));show _+(Zh9 k).length<=1000;rw [PySem.Str.length_append,ll];lia
def Zm(H:Hp)(t:Addr)(q:Zc):Prop:=H t=some (.tup [.str q.1,.str q.2])
def Wj(H:Hp)(t:Addr)(j:Zc×Zc):Prop:=∃a b,H t=some (.tup [.ref a,.ref b])/\Zm H a j.1/\Zm H b j.2
def Zl(H:Hp)(l:Addr)(ps:List Zc):Prop:=∃ts:List Addr,H l=some (.lst (ts.map V.ref))/\Paired (Zm H) ts ps
def Yq(H:Hp)(l:Addr)(js:List (Zc×Zc)):Prop:=∃ts:List Addr,H l=some (.lst (ts.map V.ref))/\Paired (Wj H) ts js
theorem Zm.mono(e:Same H H')(h:Zm H t q):Zm H' t q:=e.at h
theorem Wj.mono(e:Same H H')(h:Wj H t j):Wj H' t j:=let ⟨a,b,h1,h2,h3⟩:=h;⟨a,b,e.at h1,h2.mono e,h3.mono e⟩
theorem Zl.mono(e:Same H H')(h:Zl H l ps):Zl H' l ps:=let ⟨ts,h1,h2⟩:=h;⟨ts,e.at h1,Paired.mapP h2 fun _ _ r=>r.mono e⟩
theorem Yq.mono(e:Same H H')(h:Yq H l js):Yq H' l js:=let ⟨ts,h1,h2⟩:=h;⟨ts,e.at h1,Paired.mapP h2 fun _ _ r=>r.mono e⟩
def Zyn:Sp:=fun vs H Q _=>∃(c:Int) (nl:Addr) (n1 n2 n3 n4:Str),vs=[.int c,.ref nl]/\H nl=some (.lst [.str n1,.str n2,.str n3,.str n4]) /\
 ∀(t:Addr) (H':Hp) (pl jl ie oe:Addr) (ps:List Zc) (js:List (Zc×Zc)) (e1 e2:Zc),Same H H'->H' t=some (.tup [.ref pl,.ref jl,.ref ie,.ref oe])->Zl H' pl ps->Yq H' jl js->Zm H' ie e1->Zm H' oe e2->Zag n1 n2 n3 n4 ps js e1 e2->Q (.ref t) H'
theorem Zov  :∃w,atI [u,v] (n%2)=some w/\((n%2=0/\w=u)\/(n%2=1/\w=v)):=by
 have h0:=Int.emod_nonneg n (show (2:Int)≠0 by decide);have h1:=Int.emod_lt_of_pos n (show (0:Int)<2 by decide);generalize n%2=m at h0 h1;have:m=0\/m=1:=by lia
 rcases this with rfl|rfl
 ·exact ⟨u,rfl,.inl ⟨rfl,rfl⟩⟩
 ·exact ⟨v,rfl,.inr ⟨rfl,rfl⟩⟩
theorem Zxu{l D:Addr}{xs:List Str}{x:Str}{H1:Hp}{Q:VK}{σ:St}(hl:H1 l=some (.lst (xs.map V.str)))(hn:xs.length<=100)(hD:H1 D=none)(q:∀H',Same H1 H'->H' D=some (.lst ((xs.filter fun e=>decide (e≠x)).map V.str))->Q (.ref D) H'){fr:St->St}(F6:fr σ=[none,some (.str x)]){tf:TT}(htf:tf=Zvb (tOp (Ze7 K) (Zjv 0) (Zjv 1))) :
  Zft (Itl K l) fr (Ze1 0) tf (Zjv 0) Q σ H1 D:=by
 refine Xj (xs:=xs.map V.str) (fun i ys H'=>ys=((xs.take i).filter fun e=>decide (e≠x)).map V.str/\H' D=some (.lst ys)/\Same H1 H') ⟨rfl,Zf,Same.new hD⟩ ?_ ?_ ?_
 ·rintro i ys H' _ ⟨_,_,sm⟩;exact SqL.of (sm.at hl)
 ·rintro k v ys H' hk ⟨rfl,p8,sm⟩;rw [List.getElem?_map] at hk;obtain ⟨y,hy,rfl⟩:=Option.map_eq_some_iff.mp hk;unfold Zam;rw [F6,htf];refine ⟨Wp.set rfl,_,rfl,_,rfl,.inl ⟨rfl,_,rfl,Yn (fun hc=>?_) (fun hc=>?_)⟩⟩
  ·have hc:y≠x:=by simpa using hc
   refine (exR rfl ⟨p8,?_,?_,Zf,fun b o e=>?_⟩)
   ·rw [List.length_map];have:=List.length_filter_le (fun e:Str=>decide (e≠x)) (xs.take k);rw [List.length_take] at this;exact Zs (by lia)
   ·rw [List.take_add_one,hy,List.filter_append,List.map_append,show (some y).toList=[y] from rfl,List.filter_cons,if_pos (decide_eq_true hc)]
    rfl
   ·rw [Ze (Zh e hD)];exact sm.at e
  ·have hc:¬y≠x:=by simpa using hc
   refine ⟨?_,p8,sm⟩;rw [List.take_add_one,hy,List.filter_append,show (some y).toList=[y] from rfl,List.filter_cons,if_neg (by simpa using hc),List.filter_nil,List.append_nil]
 ·rintro ys H6 ⟨rfl,B1,s6⟩;rw [List.length_map,List.take_length] at B1;exact q H6 s6 B1
theorem Zmi:Z2 P w K mg base CX0 1 T.cg.f T.cg.fd ["_law_cell", "_law_names"] Zyn:=by
 refine T.cg.F.okW Z3 fun a9 A outer s H vs Q E hr h=>?_
 ·obtain ⟨c,nl,n1,n2,n3,n4,rfl,hnl,q⟩:=h;intro X;refine WSs.step (Zkn (pv 1) (Zzx rfl (Zw (Yw (i:=2) Z3.nd) (Zw (Yw (i:=3) Z3.nd) (Zw (Yw (i:=4) Z3.nd) (Zw (Yw (i:=5) Z3.nd) Xb)))))) (exR rfl ⟨nl,_,rfl,SqL.of hnl,rfl,_,_,rfl,_,_,rfl,_,_,rfl,_,_,rfl,rfl,?_⟩);refine WSs.step (Zy (i:=6) Z3.nd (Zu Yu (pv 0) Zd)) (exR rfl (exQ rfl rfl ⟨(by show (0:Int)<8;decide),?_⟩));refine WSs.step (Zx (Zj Znk (pv 6) Zd (Zr _)) Zq Zp) (exR rfl (exQ rfl rfl (exR rfl (Yn (fun _=>?_) (fun _=>?_)))))
  ·refine WSs.step (Zy (i:=7) Z3.nd (Zv (K:=K) rfl (Zt (Zb (Zt (Zb Zg (Zb Zg Za))) (Zb (Zt (Zb Zg (Zb Zg Za))) Za))) (Zu Yu (Zu Ys (pv 0) Zd) Zd))) ⟨szA,fun la H1 s1 _ e1=>⟨szA,fun lb H2 s2 _ e2=>⟨szA,fun ll H3 s3 _ e3=>(exR rfl (exQ rfl rfl ⟨⟨by decide,by decide⟩,_,_,rfl,rfl,(by show (0:Int)<2;decide),?_⟩))⟩⟩⟩;obtain ⟨l7,a,b,A0,h7,L8⟩:∃l7 a b,atI [V.ref la,.ref lb] (c / 8%2)=some (.ref l7)/\H3 l7=some (.lst [.str a,.str b])/\(a,b)∈[(("a" :Str),("b" :Str)),("b", "a")]:=by
    obtain ⟨w,hw,h | h⟩:=Zov (n:=c / 8) (u:=V.ref la) (v:=V.ref lb)
    ·exact ⟨la, "a", "b",by rw [hw,h.2],s3.at (s2.at e1),by simp⟩
    ·exact ⟨lb, "b", "a",by rw [hw,h.2],s3.at e2,by simp⟩
   refine .inl ⟨ll,_,_,.ref l7,rfl,rfl,SqL.of e3,A0,?_⟩;have s03:=s1.trans (s2.trans s3);refine WSs.last (Zo (Zk (Zb (Zt (Zb (Zk (Zb Zg (Zb (pv 2) Za))) Za)) (Zb (Zt Za) (Zb (Zk (Zb (pv 2) (Zb (Zv (K:=K) rfl (pv 7) Zd) Za))) (Zb (Zk (Zb (pv 2) (Zb (Zv (K:=K) rfl (pv 7) Zd) Za))) Za)))))) (exR rfl ⟨szA,fun t1 H4 s4 _ e4=>⟨szA,fun pl H5 s5 _ e5=>⟨szA,fun jl H6 s6 _ e6=>(exR rfl (exR rfl (.inl ⟨l7,_,_,.str a,rfl,rfl,SqL.of (s6.at (s5.at (s4.at h7))),rfl,szA,fun ie H7 s7 _ e7=>(exR rfl (exR rfl (.inl ⟨l7,_,_,.str b,rfl,rfl,SqL.of (s7.at (s6.at (s5.at (s4.at h7)))),rfl,szA,fun oe H8 s8 _ e8=>⟨szA,fun t H9 s9 _ e9=>?_⟩⟩)))⟩)))⟩⟩⟩);exact q t H9 pl jl ie oe _ _ _ _ (s03.trans (s4.trans (s5.trans (s6.trans (s7.trans (s8.trans s9)))))) e9 ⟨[t1],s9.at (s8.at (s7.at (s6.at e5))),.cons (s9.at (s8.at (s7.at (s6.at (s5.at e4))))) .nil⟩ ⟨[],s9.at (s8.at (s7.at e6)),.nil⟩ (s9.at (s8.at e7)) (s9.at e8) (.plain a b L8)
  refine WSs.step (Zx (Zj Znk (pv 6) Zd (Zr _)) Zq Zp) (exR rfl (exQ rfl rfl (exR rfl (Yn (fun _=>?_) (fun _=>?_)))))
  ·refine WSs.step (Zy (i:=8) Z3.nd (Zv (K:=K) rfl (Zt (Zb (Zt (Zb Zg (Zb Zg Za))) (Zb (Zt (Zb Zg (Zb Zg Za))) Za))) (Zu Yu (Zu Ys (pv 0) Zd) Zd))) ⟨szA,fun la H1 s1 _ e1=>⟨szA,fun lb H2 s2 _ e2=>⟨szA,fun ll H3 s3 _ e3=>(exR rfl (exQ rfl rfl ⟨⟨by decide,by decide⟩,_,_,rfl,rfl,(by show (0:Int)<2;decide),?_⟩))⟩⟩⟩;obtain ⟨l7,a,b,A0,h7,L8⟩:∃l7 a b,atI [V.ref la,.ref lb] (c / 8%2)=some (.ref l7)/\H3 l7=some (.lst [.str a,.str b])/\(a,b)∈[(("left" :Str),("right" :Str)),("right", "left")]:=by
    obtain ⟨w,hw,h | h⟩:=Zov (n:=c / 8) (u:=V.ref la) (v:=V.ref lb)
    ·exact ⟨la, "left", "right",by rw [hw,h.2],s3.at (s2.at e1),by simp⟩
    ·exact ⟨lb, "right", "left",by rw [hw,h.2],s3.at e2,by simp⟩
   refine .inl ⟨ll,_,_,.ref l7,rfl,rfl,SqL.of e3,A0,?_⟩;have s03:=s1.trans (s2.trans s3);refine WSs.step (Zy (i:=9) Z3.nd (Zt (Zb (Zk (Zb (Zk (Zb (pv 2) (Zb Zg Za))) (Zb (Zk (Zb (pv 3) (Zb Zg Za))) Za))) (Zb (Zk (Zb (Zk (Zb (pv 2) (Zb Zg Za))) (Zb (Zk (Zb (pv 4) (Zb Zg Za))) Za))) Za)))) (exR rfl ⟨szA,fun a1 H4 s4 _ f1=>(exR rfl ⟨szA,fun a2 H5 s5 _ f2=>⟨szA,fun j1 H6 s6 _ f3=>(exR rfl ⟨szA,fun a3 H7 s7 _ f4=>(exR rfl ⟨szA,fun a4 H8 s8 _ f5=>⟨szA,fun j2 H9 s9 _ f6=>⟨szA,fun jA H10 v6 _ f7=>?_⟩⟩⟩)⟩)⟩⟩)⟩);have J1:Wj H10 j1 ((n1, "left"),(n2, "a")):=⟨a1,a2,v6.at (s9.at (s8.at (s7.at f3))),v6.at (s9.at (s8.at (s7.at (s6.at (s5.at f1))))),v6.at (s9.at (s8.at (s7.at (s6.at f2))))⟩
   have J2:Wj H10 j2 ((n1, "right"),(n3, "a")):=⟨a3,a4,v6.at f6,v6.at (s9.at (s8.at f4)),v6.at (s9.at f5)⟩
   have s0A:=s03.trans (s4.trans (s5.trans (s6.trans (s7.trans (s8.trans (s9.trans v6))))));have h7:=(s4.trans (s5.trans (s6.trans (s7.trans (s8.trans (s9.trans v6)))))).at h7;clear s1 s2 s3 s4 s5 s6 s7 s8 s9 v6 f1 f2 f3 f4 f5 f6 e1 e2 e3 s03;refine WSs.step (Zy (i:=9) Z3.nd (Zu W3 (pv 9) (Zt (Zb (Zk (Zb (Zk (Zb (pv 3) (Zb Zg Za))) (Zb (Zk (Zb (pv 5) (Zb (Zv (K:=K) rfl (pv 8) Zd) Za))) Za))) (Zb (Zk (Zb (Zk (Zb (pv 5) (Zb (Zv (K:=K) rfl (pv 8) Zd) Za))) (Zb (Zk (Zb (pv 4) (Zb Zg Za))) Za))) Za))))) (exR rfl (exR rfl ⟨szA,fun b1 H11 v7 _ f1=>(exR rfl (exR rfl (.inl ⟨l7,_,_,.str a,rfl,rfl,SqL.of (v7.at h7),rfl,szA,fun b2 H12 u8 _ f2=>⟨szA,fun j3 H13 g9 _ f3=>(exR rfl (exR rfl (.inl ⟨l7,_,_,.str b,rfl,rfl,SqL.of (g9.at (u8.at (v7.at h7))),rfl,szA,fun b3 H14 m5 _ f4=>(exR rfl ⟨szA,fun b4 H15 B6 _ f5=>⟨szA,fun j4 H16 v8 _ f6=>⟨szA,fun jB H17 B7 _ f8=>.inr (.inr ⟨jA,jB,_,_,rfl,rfl,(v7.trans (u8.trans (g9.trans (m5.trans (B6.trans (v8.trans B7)))))).at f7,f8,szA,fun jl H18 M8 _ f9=>?_⟩)⟩⟩⟩)⟩)))⟩⟩)))⟩));have sAB:=v7.trans (u8.trans (g9.trans (m5.trans (B6.trans (v8.trans (B7.trans M8))))));have J3:Wj H18 j3 ((n2, "b"),(n4,a)):=⟨b1,b2,(m5.trans (B6.trans (v8.trans (B7.trans M8)))).at f3,(u8.trans (g9.trans (m5.trans (B6.trans (v8.trans (B7.trans M8)))))).at f1,(g9.trans (m5.trans (B6.trans (v8.trans (B7.trans M8))))).at f2⟩
   have J4:Wj H18 j4 ((n4,b),(n3, "b")):=⟨b3,b4,(B7.trans M8).at f6,(B6.trans (v8.trans (B7.trans M8))).at f4,(v8.trans (B7.trans M8)).at f5⟩
   have p7:Yq H18 jl [((n1, "left"),(n2, "a")),((n1, "right"),(n3, "a")),((n2, "b"),(n4,a)),((n4,b),(n3, "b"))]:=⟨[j1,j2,j3,j4],f9,.cons (J1.mono sAB) (.cons (J2.mono sAB) (.cons J3 (.cons J4 .nil)))⟩
   have s0B:=s0A.trans sAB;clear J1 J2 J3 J4 v7 u8 g9 m5 B6 v8 B7 M8 sAB s0A f1 f2 f3 f4 f5 f6 f7 f8 f9 h7;refine WSs.step (Zy (i:=10) Z3.nd (Zt (Zb (Zk (Zb Zg (Zb (pv 2) Za))) (Zb (Zk (Zb Zg (Zb (pv 3) Za))) (Zb (Zk (Zb Zg (Zb (pv 4) Za))) (Zb (Zk (Zb Zg (Zb (pv 5) Za))) Za)))))) (exR rfl ⟨szA,fun c1 G1 s1 _ f1=>(exR rfl ⟨szA,fun c2 G2 s2 _ f2=>(exR rfl ⟨szA,fun c3 G3 s3 _ f3=>(exR rfl ⟨szA,fun c4 G4 s4 _ f4=>⟨szA,fun pl G5 s5 _ f5=>?_⟩⟩)⟩)⟩)⟩);have i4:Zl G5 pl [("points",n1),("plain",n2),("plain",n3),("points",n4)]:=⟨[c1,c2,c3,c4],f5,.cons (s5.at (s4.at (s3.at (s2.at f1)))) (.cons (s5.at (s4.at (s3.at f2))) (.cons (s5.at (s4.at f3)) (.cons (s5.at f4) .nil)))⟩
   have sG:=s1.trans (s2.trans (s3.trans (s4.trans s5)));refine WSs.last (Zo (Zk (Zb (pv 10) (Zb (pv 9) (Zb (Zk (Zb (pv 2) (Zb Zg Za))) (Zb (Zk (Zb (pv 5) (Zb Zg Za))) Za)))))) (exR rfl (exR rfl (exR rfl ⟨szA,fun ie G6 s6 _ f6=>(exR rfl ⟨szA,fun oe G7 s7 _ f7=>⟨szA,fun t G8 s8 _ f8=>?_⟩⟩)⟩)));have O7:=s6.trans (s7.trans s8);exact q t G8 pl jl ie oe _ _ _ _ (s0B.trans (sG.trans O7)) f8 (i4.mono O7) (p7.mono (sG.trans O7)) ((s7.trans s8).at f6) (s8.at f7) (.loop a b L8)
  refine WSs.step (Zx (Zj Znk (pv 6) Zd (Zr _)) Zq Zp) (exR rfl (exQ rfl rfl (exR rfl (Yn (fun _=>?_) (fun _=>?_)))))
  ·refine WSs.step (Zy (i:=7) Z3.nd (Zt (Zb Zg (Zb Zg (Zb Zg Za))))) ⟨szA,fun le H1 s1 _ e1=>?_⟩;refine WSs.step (Zy (i:=11) Z3.nd (Zu Yu (Zu Ys (pv 0) Zd) Zd)) (exR rfl (exQ rfl rfl ⟨⟨by decide,by decide⟩,_,_,rfl,rfl,(by show (0:Int)<3;decide),?_⟩));obtain ⟨x,r0,r1,A0,O6,F9⟩:∃x r0 r1:Str,atI [V.str "stem",.str "left",.str "right"] (2-c / 8%3)=some (.str x)/\(([("stem" :Str), "left", "right"].filter fun e=>decide (e≠x))=[r0,r1])/\[x,r0,r1].Perm ["stem", "left", "right"]:=by
    have h0:=Int.emod_nonneg (c / 8) (show (3:Int)≠0 by decide);have h1:=Int.emod_lt_of_pos (c / 8) (show (0:Int)<3 by decide);generalize c / 8%3=m at h0 h1;have:m=0\/m=1\/m=2:=by lia
    rcases this with rfl|rfl|rfl
    ·exact ⟨"right", "stem", "left",rfl,by trivial,by trivial⟩
    ·exact ⟨"left", "stem", "right",rfl,by trivial,by trivial⟩
    ·exact ⟨"stem", "left", "right",rfl,by trivial,by trivial⟩
   refine WSs.step (Zy (i:=12) Z3.nd (Zv (K:=K) rfl (pv 7) (Zu Zvy Zd (pv 11)))) (exR rfl (exR rfl (exQ rfl rfl (.inl ⟨le,_,_,.str x,rfl,rfl,SqL.of e1,A0,?_⟩))));refine WSs.step (Zy (i:=9) Z3.nd (Zt (Zb (Zk (Zb (Zk (Zb (pv 2) (Zb (pv 12) Za))) (Zb (Zk (Zb (pv 3) (Zb Zg Za))) Za))) (Zb (Zk (Zb (Zk (Zb (pv 3) (Zb Zg Za))) (Zb (Zk (Zb (pv 4) (Zb Zg Za))) Za))) Za)))) (exR rfl (exR rfl ⟨szA,fun a1 H2 s2 _ f1=>(exR rfl ⟨szA,fun a2 H3 s3 _ f2=>⟨szA,fun j1 H4 s4 _ f3=>(exR rfl ⟨szA,fun a3 H5 s5 _ f4=>(exR rfl ⟨szA,fun a4 H6 s6 _ f5=>⟨szA,fun j2 H7 s7 _ f6=>⟨szA,fun jl H8 s8 _ f7=>?_⟩⟩⟩)⟩)⟩⟩)⟩));have p7:Yq H8 jl [((n1,x),(n2, "b")),((n2, "a"),(n3, "a"))]:=⟨[j1,j2],f7,.cons ⟨a1,a2,(s5.trans (s6.trans (s7.trans s8))).at f3,(s3.trans (s4.trans (s5.trans (s6.trans (s7.trans s8))))).at f1,(s4.trans (s5.trans (s6.trans (s7.trans s8)))).at f2⟩ (.cons ⟨a3,a4,s8.at f6,(s6.trans (s7.trans s8)).at f4,(s7.trans s8).at f5⟩ .nil)⟩
   have s28:=s2.trans (s3.trans (s4.trans (s5.trans (s6.trans (s7.trans s8)))));have s08:=s1.trans s28;have e1:=s28.at e1;clear s1 s2 s3 s4 s5 s6 s7 s8 f1 f2 f3 f4 f5 f6 f7 s28;refine WSs.step (Zba (i:=13) (N':=["_law_end", "_law_aside"]) Z3.nd rfl (Or.inl rfl) rfl (Z6.std 1 [12] rfl (by trivial) (by trivial) rfl ⟨rfl,trivial⟩ rfl rfl ⟨(exR rfl ⟨rfl,rfl⟩),trivial⟩) (Ym (pv 7)) (fun _ _ _ _=>(W6 (i:=0) (by show (["_law_end", "_law_aside"]:List Str).Nodup;decide +kernel))) (fun _ _ _ _=>(Zdu (Zj (r:=Ze7 K) (Zhg hr) (pv 0) (pv 1) (Zr _)))) (fun _ _ _ _=>(pv 0))) (exR rfl ⟨le,rfl,⟨_,SqL.of e1⟩,fun lr hlr=>?_⟩);refine Zxu (xs:=["stem", "left", "right"]) (x:=x) e1 (by decide) hlr (fun H9 s9 e9=>?qq) ?aa ?bb
   case aa=>rfl
   case bb=>rfl
   rw [O6] at e9;obtain ⟨kd,E6,U2⟩:∃kd:Str,atI [V.str "stop",.str "gate"] (c / 24%2)=some (.str kd)/\kd∈[("stop" :Str), "gate"]:=by
    obtain ⟨w,hw,h | h⟩:=Zov (n:=c / 24) (u:=V.str "stop") (v:=V.str "gate")
    ·exact ⟨"stop",by rw [hw,h.2],by simp⟩
    ·exact ⟨"gate",by rw [hw,h.2],by simp⟩
   refine WSs.step (Zy (i:=10) Z3.nd (Zt (Zb (Zk (Zb Zg (Zb (pv 2) Za))) (Zb (Zk (Zb Zg (Zb (pv 3) Za))) (Zb (Zk (Zb (Zv (K:=K) rfl (Zt (Zb Zg (Zb Zg Za))) (Zu Yu (Zu Ys (pv 0) Zd) Zd)) (Zb (pv 4) Za))) Za))))) (exR rfl ⟨szA,fun c1 G1 s1 _ f1=>(exR rfl ⟨szA,fun c2 G2 s2 _ f2=>⟨szA,fun lk G3 s3 _ f3=>(exR rfl (exQ rfl rfl ⟨⟨by decide,by decide⟩,_,_,rfl,rfl,(by show (0:Int)<2;decide),.inl ⟨lk,_,_,.str kd,rfl,rfl,SqL.of f3,E6,_,rfl,szA,fun c3 G4 s4 _ f4=>⟨szA,fun pl G5 s5 _ f5=>?_⟩⟩⟩))⟩⟩)⟩);have i4:Zl G5 pl [("points",n1),("plain",n2),(kd,n3)]:=⟨[c1,c2,c3],f5,.cons (s5.at (s4.at (s3.at (s2.at f1)))) (.cons (s5.at (s4.at (s3.at f2))) (.cons (s5.at f4) .nil))⟩
   have sG:=s1.trans (s2.trans (s3.trans (s4.trans s5)));obtain ⟨a,b,ha,hb,L8⟩:∃a b:Str,atI [V.str r0,.str r1] (c / 48%2)=some (.str a)/\atI [V.str r0,.str r1] (1-c / 48%2)=some (.str b)/\[x,a,b].Perm ["stem", "left", "right"]:=by
    have h0:=Int.emod_nonneg (c / 48) (show (2:Int)≠0 by decide);have h1:=Int.emod_lt_of_pos (c / 48) (show (0:Int)<2 by decide);generalize c / 48%2=m at h0 h1;have:m=0\/m=1:=by lia
    rcases this with rfl|rfl
    ·exact ⟨r0,r1,rfl,rfl,F9⟩
    ·exact ⟨r1,r0,rfl,rfl,((List.Perm.swap r0 r1 []).cons x).trans F9⟩
   refine WSs.last (Zo (Zk (Zb (pv 10) (Zb (pv 9) (Zb (Zk (Zb (pv 2) (Zb (Zv (K:=K) rfl (pv 13) (Zu Yu (Zu Ys (pv 0) Zd) Zd)) Za))) (Zb (Zk (Zb (pv 2) (Zb (Zv (K:=K) rfl (pv 13) (Zu Zvy Zd (Zu Yu (Zu Ys (pv 0) Zd) Zd))) Za))) Za)))))) (exR rfl (exR rfl (exR rfl (exR rfl (exR rfl (exQ rfl rfl ⟨⟨by decide,by decide⟩,_,_,rfl,rfl,(by show (0:Int)<2;decide),.inl ⟨lr,_,_,.str a,rfl,rfl,SqL.of (sG.at e9),ha,szA,fun ie G6 s6 _ f6=>?_⟩⟩))))));refine (exR rfl (exR rfl (exR rfl (exQ rfl rfl ⟨⟨by decide,by decide⟩,_,_,rfl,rfl,(by show (0:Int)<2;decide),_,_,rfl,rfl,.inl ⟨lr,_,_,.str b,rfl,rfl,SqL.of (s6.at (sG.at e9)),hb,szA,fun oe G7 s7 _ f7=>⟨szA,fun t G8 s8 _ f8=>?_⟩⟩⟩))));have O7:=s6.trans (s7.trans s8);exact q t G8 pl jl ie oe _ _ _ _ (s08.trans (s9.trans (sG.trans O7))) f8 (i4.mono O7) (p7.mono (s9.trans (sG.trans O7))) ((s7.trans s8).at f6) (s8.at f7) (.siding x a b kd L8 U2)
  refine WSs.step (Zy (i:=9) Z3.nd (Zt (Zb (Zk (Zb (Zk (Zb (pv 2) (Zb Zg Za))) (Zb (Zk (Zb (pv 3) (Zb Zg Za))) Za))) (Zb (Zk (Zb (Zk (Zb (pv 4) (Zb Zg Za))) (Zb (Zk (Zb (pv 2) (Zb Zg Za))) Za))) Za)))) (exR rfl ⟨szA,fun a1 H2 s2 _ f1=>(exR rfl ⟨szA,fun a2 H3 s3 _ f2=>⟨szA,fun j1 H4 s4 _ f3=>(exR rfl ⟨szA,fun a3 H5 s5 _ f4=>(exR rfl ⟨szA,fun a4 H6 s6 _ f5=>⟨szA,fun j2 H7 s7 _ f6=>⟨szA,fun jl H8 s8 _ f7=>?_⟩⟩⟩)⟩)⟩⟩)⟩);have p7:Yq H8 jl [((n1, "c"),(n2, "a")),((n3, "a"),(n1, "d"))]:=⟨[j1,j2],f7,.cons ⟨a1,a2,(s5.trans (s6.trans (s7.trans s8))).at f3,(s3.trans (s4.trans (s5.trans (s6.trans (s7.trans s8))))).at f1,(s4.trans (s5.trans (s6.trans (s7.trans s8)))).at f2⟩ (.cons ⟨a3,a4,s8.at f6,(s6.trans (s7.trans s8)).at f4,(s7.trans s8).at f5⟩ .nil)⟩
  have s08:=s2.trans (s3.trans (s4.trans (s5.trans (s6.trans (s7.trans s8)))));clear s2 s3 s4 s5 s6 s7 s8 f1 f2 f3 f4 f5 f6 f7;obtain ⟨kd,E6,U2⟩:∃kd:Str,atI [V.str "gate",.str "stop"] (c / 8%2)=some (.str kd)/\kd∈[("gate" :Str), "stop"]:=by
   obtain ⟨w,hw,h | h⟩:=Zov (n:=c / 8) (u:=V.str "gate") (v:=V.str "stop")
   ·exact ⟨"gate",by rw [hw,h.2],by simp⟩
   ·exact ⟨"stop",by rw [hw,h.2],by simp⟩
  refine WSs.step (Zy (i:=10) Z3.nd (Zt (Zb (Zk (Zb Zg (Zb (pv 2) Za))) (Zb (Zk (Zb Zg (Zb (pv 3) Za))) (Zb (Zk (Zb (Zv (K:=K) rfl (Zt (Zb Zg (Zb Zg Za))) (Zu Yu (Zu Ys (pv 0) Zd) Zd)) (Zb (pv 4) Za))) Za))))) (exR rfl ⟨szA,fun c1 G1 s1 _ f1=>(exR rfl ⟨szA,fun c2 G2 s2 _ f2=>⟨szA,fun lk G3 s3 _ f3=>(exR rfl (exQ rfl rfl ⟨⟨by decide,by decide⟩,_,_,rfl,rfl,(by show (0:Int)<2;decide),.inl ⟨lk,_,_,.str kd,rfl,rfl,SqL.of f3,E6,_,rfl,szA,fun c3 G4 s4 _ f4=>⟨szA,fun pl G5 s5 _ f5=>?_⟩⟩⟩))⟩⟩)⟩);have i4:Zl G5 pl [("cross",n1),("gate",n2),(kd,n3)]:=⟨[c1,c2,c3],f5,.cons (s5.at (s4.at (s3.at (s2.at f1)))) (.cons (s5.at (s4.at (s3.at f2))) (.cons (s5.at f4) .nil))⟩
  have sG:=s1.trans (s2.trans (s3.trans (s4.trans s5)));refine WSs.last (Zo (Zk (Zb (pv 10) (Zb (pv 9) (Zb (Zk (Zb (pv 2) (Zb Zg Za))) (Zb (Zk (Zb (pv 2) (Zb Zg Za))) Za)))))) (exR rfl (exR rfl (exR rfl ⟨szA,fun ie G6 s6 _ f6=>(exR rfl ⟨szA,fun oe G7 s7 _ f7=>⟨szA,fun t G8 s8 _ f8=>?_⟩⟩)⟩)));have O7:=s6.trans (s7.trans s8);exact q t G8 pl jl ie oe _ _ _ _ (s08.trans (sG.trans O7)) f8 (i4.mono O7) (p7.mono (sG.trans O7)) ((s7.trans s8).at f6) (s8.at f7) (.cross kd U2)
end
end K54
end
section
namespace K54
open PySem L2 NM YM
section
variable {P:Program} {w:World} {K:Frag} {mg:Str->Option Value} {base:Heap} (T:Tx K mg)
seal PySem.wpAny
theorem Zhl(xs:List V)(k:Nat):Zhr xs (some (k:Int)) none=xs.drop k:=by
 unfold Zhr;rw [HT.sIx_nat,HT.sIx_none]
 by_cases h:k<=xs.length
 ·rw [Nat.min_eq_left h,List.take_of_length_le (by rw [List.length_drop];exact Nat.le_refl _)]
 ·rw [Nat.min_eq_right (by lia),List.drop_length,List.take_nil,List.drop_of_length_le (by lia)]
theorem Zn5(xs:List V)(k:Nat):Zhr xs none (some (k:Int))=xs.take k:=by
 unfold Zhr;rw [HT.sIx_nat,HT.sIx_none,List.drop_zero,Nat.sub_zero]
 by_cases h:k<=xs.length
 ·rw [Nat.min_eq_left h]
 ·rw [Nat.min_eq_right (by lia),List.take_length,List.take_of_length_le (by lia)]
theorem Zl.app(h1:Paired (Zm H) ts ps)(h2:Paired (Zm H) us qs)(e:H l=some (.lst (ts.map V.ref++us.map V.ref))):Zl H l (ps++qs):=⟨ts++us,by rw [List.map_append];exact e,Paired.append h1 h2⟩
theorem Yq.app(h1:Paired (Wj H) ts ps)(h2:Paired (Wj H) us qs)(e:H l=some (.lst (ts.map V.ref++us.map V.ref))):Yq H l (ps++qs):=⟨ts++us,by rw [List.map_append];exact e,Paired.append h1 h2⟩
def Zzm(K:Frag):Sp:=fun vs H Q _=>∃(cl:Addr) (cs:List Int),vs=[.ref cl]/\SqL K H cl (cs.map V.int)/\(∀c∈cs,0<=c) /\
 ∀(t:Addr) (H':Hp) (pl jl:Addr) (ps:List Zc) (js:List (Zc×Zc)),Same H H'->H' t=some (.tup [.ref pl,.ref jl])->Zl H' pl ps->Yq H' jl js->H pl=none->H jl=none->Net ps js []->ps.length<=38->(∀p∈ps,p=((("gate" :Str),("g" :Str)):Zc)\/p=((("gate" :Str),("h" :Str)):Zc)\/Zqc p.2 36)->Q (.ref t) H'
theorem Zoh:Z2 P w K mg base CX0 2 T.cB.f T.cB.fd ["_law_cells_here"] (Zzm K):=by
 refine T.cB.F.okW Y3 fun a9 A outer s H vs Q E hr h=>?_
 ·obtain ⟨cl,cs,rfl,t9,K3,q⟩:=h;intro X;refine WSs.step (Zy (i:=1) Y3.nd (Zt (Zb (Zk (Zb Zg (Zb Zg Za))) Za))) ⟨szA,fun t1 H1 s1 _ e1=>⟨szA,fun pl0 H2 s2 n2 e2=>?_⟩⟩;refine WSs.step (Zy (i:=2) Y3.nd (Zt Za)) ⟨szA,fun jl0 H3 s3 n3 e3=>?_⟩;refine WSs.step (Zy (i:=3) Y3.nd (Zk (Zb Zg (Zb Zg Za)))) ⟨szA,fun e0 H4 s4 n4 e4=>?_⟩;have s04:=s1.trans (s2.trans (s3.trans s4));have hp0:Zl H4 pl0 [("gate", "g")]:=⟨[t1],s4.at (s3.at e2),.cons (s4.at (s3.at (s2.at e1))) .nil⟩
  have hj0:Yq H4 jl0 []:=⟨[],s4.at e3,.nil⟩
  have f0:H pl0=none:=s1.free n2;have f1:H jl0=none:=s1.free (s2.free n3);clear s1 s2 s3 s4 n2 n3 n4 e1 e2 e3;refine WSs.step (Xn PassesOwn.never rfl (Zka rfl T.cI (Zb (Zas (r:=Zmo K) Zot (pv 0) Zb6 (Zax Zd)) Za)) (Wr rfl (Zw (Yw (i:=4) Y3.nd) (Zw (Yw (i:=5) Y3.nd) Xb))) Zq) (exR rfl (exR rfl (.inr (.inl ⟨cl,_,rfl,s04.seq t9,fun c9 H5 s5 n5 e5=>⟨c9,rfl,⟨_,SqL.of e5⟩,?_⟩⟩))));rw [show (some (9:Int))=some ((9:Nat):Int) from rfl,Zn5,<-List.map_take] at e5;have s05:=s04.trans s5;let I1:=fun (i:Nat) (σ:St) (H':Hp)=>Same H5 H'/\∃pl jl e o4 o5 o6 o7 o8 ps js G9,σ=[some (.ref cl),some (.ref pl),some (.ref jl),some (.ref e),o4,o5,o6,o7,o8]/\Zl H' pl ps/\Yq H' jl js/\Zm H' e G9/\Zef i ps js G9/\H pl=none/\H jl=none
  refine Zhz (xs:=(cs.take 9).map V.int) I1
   ⟨Same.refl _,pl0,jl0,e0,none,none,none,none,none,_,_,_,rfl,hp0.mono s5,hj0.mono s5,s5.at e4,Zef.start,f0,f1⟩ ?_ ?_ ?_
  ·rintro i σ H' _ ⟨sm,_⟩;exact SqL.of (sm.at e5)
  ·rintro i v σ H6 hi ⟨s6,pl,jl,e,o4,o5,o6,o7,o8,ps,js,G9,rfl,i4,p7,K6,hok,fp,fj⟩ tp H7 s7 n7 e7;rw [List.getElem?_map] at hi;obtain ⟨c,hc,rfl⟩:=Option.map_eq_some_iff.mp hi;have hi9:i<9:=by
    have:=(List.getElem?_eq_some_iff.mp hc).1;rw [List.length_take] at this;lia
   have hc0:0<=c:=K3 c (List.mem_of_mem_take (List.mem_of_getElem? hc));refine ⟨tp,_,rfl,SqT.of e7,rfl,_,_,rfl,_,_,rfl,rfl,?_⟩;have O8:=s6.trans s7;have i4:=i4.mono s7;have p7:=p7.mono s7;have K6:=K6.mono s7;obtain ⟨nm,U3⟩:∃nm:Nat->Str,nm=fun j=>Yz ((["p", "q", "r", "t"]:List Str).getD j "p") (nmF (c / 96+5 * (j:Int))) (4 * i+j):=⟨_,rfl⟩
   refine WSs.step (Zy (i:=6) Y3.nd (Zt Za)) ⟨szA,fun D H75 s75 hD e75=>?_⟩;let I2:=fun (j:Nat) (σ:St) (H':Hp)=>(∃o7,σ=[some (.ref cl),some (.ref pl),some (.ref jl),some (.ref e),some (.int (i:Int)),some (.int c),some (.ref D),o7,o8])/\H' D=some (.lst (((List.range j).map nm).map V.str))/\Same H7 H'
   refine WSs.step (Xn PassesOwn.never rfl (Znl rfl T.dO (Zb Zd Za)) (Yw (i:=7) Y3.nd) Zq) (exR rfl ⟨by decide,by decide,Ziw (lo:=0) (n:=4) I2 ⟨⟨_,rfl⟩,e75,s75⟩ ?_ ?_⟩)
   ·rintro j σ H8 hj ⟨⟨o7,rfl⟩,hD8,s8⟩;obtain ⟨kd,E6⟩:∃kd,kd=(["p", "q", "r", "t"]:List Str).getD j "p" :=⟨_,rfl⟩
    have hj4:j=0\/j=1\/j=2\/j=3:=by lia
    obtain ⟨ch,A0,L6⟩:∃ch,atI (Str.cps "pqrt").toList ((0:Int)+(j:Int))=some ch/\(⟨#[ch]⟩:Str)=kd:=by
     rw [E6];rcases hj4 with rfl|rfl|rfl|rfl <;>exact ⟨_,rfl,rfl⟩
    have hkl:kd.length=1:=by
     rw [<-L6]
     rfl
    refine WSs.last (Yi (Zab PySem.F.plainAttrs_list PySem.F.slot_list_append PySem.F.type_list_append Yx (pv 6) (Zb (Ye (Ze0 T) hr T.cT (Zb (Zv (K:=K) rfl Zg (pv 7)) (Zb (Zu W3 (Zu Ys (pv 5) Zd) (Zu Zgz Zd (pv 7))) (Zb (Zu W3 (Zu Zgz Zd (pv 4)) (pv 7)) Za)))) Za))) (exR rfl ⟨.inl ⟨rfl,_,SqL.of hD8⟩,_,rfl,.inr (.inr ⟨_,_,ch,rfl,rfl,sz (by trivial),A0,_,rfl,_,_,rfl,rfl,⟨by decide,by decide⟩,_,rfl,_,_,rfl,rfl,.inl ⟨by decide,by decide⟩,.inl (exQ rfl rfl (exR rfl (exQ rfl rfl ⟨.inl ⟨by decide,by decide⟩,_,rfl,.inl (exQ rfl rfl ⟨kd,c / 96+5 * (j:Int),4 * i+j,?_,by lia,by lia,?_,by lia,D,_,_,rfl,rfl,hD8,?_,⟨_,rfl⟩,?_,fun b o z=>?_⟩)⟩)))⟩)⟩)
    ·show [V.str ⟨#[ch]⟩,V.int (c / 96+5 * (0+(j:Int))),V.int (4 * (i:Int)+(0+(j:Int)))]=_;rw [L6,show (0:Int)+(j:Int)=j by lia,show 4 * (i:Int)+(j:Int)=((4 * i+j:Nat):Int) by lia]
    ·have:=Int.ediv_nonneg hc0 (show (0:Int)<=96 by decide);lia
    ·rw [List.length_map,List.length_map,List.length_range];exact Zs (by lia)
    ·rw [Zf,List.range_succ,List.map_append,List.map_append,U3,E6]
     rfl
    ·rw [Ze (Zh z hD)];exact s8.at z
   ·rintro σ H8 ⟨⟨o7,rfl⟩,hD8,s8⟩;have i4:=i4.mono s8;have p7:=p7.mono s8;have K6:=K6.mono s8;refine WSs.step (Zy (i:=8) Y3.nd (Ye (Zmi T) hr T.fh (Zb (pv 5) (Zb (pv 6) Za)))) (exR rfl (exR rfl ⟨c,D,nm 0,nm 1,nm 2,nm 3,rfl,hD8,fun t H9 bp bj ie oe qs ks a b s9 e9 hbp hbj hie hoe B=>?_⟩));subst U3;have D7:=hok.more (by lia) (by trivial) (by trivial) (by trivial) (by trivial) B;obtain ⟨ts,ht,d3⟩:=i4.mono s9;obtain ⟨us,hu,j0⟩:=hbp;obtain ⟨js1,hj1,O9⟩:=p7.mono s9;obtain ⟨js2,hj2,hjs2⟩:=hbj;have lp:=hok.pl;have lj:=hok.jl;have lb:=B.len;have c1:=Paired.length d3;have c2:=Paired.length j0;have c3:=Paired.length O9;have c4:=Paired.length hjs2;refine WSs.step (Zy (i:=1) Y3.nd (Zu W3 (pv 1) (Zv (K:=K) rfl (pv 8) Zd))) (exR rfl (exR rfl (ixV e9 rfl (.inr (.inr ⟨pl,bp,_,_,rfl,rfl,ht,hu,?_,fun pl' H10 v6 n10 e10=>?_⟩)))))
    ·rw [List.length_map,List.length_map];exact sz (by lia)
    refine WSs.step (Zy (i:=2) Y3.nd (Zu W3 (Zu W3 (pv 2) (Zv (K:=K) rfl (pv 8) Zd)) (Zt (Zb (Zk (Zb (pv 3) (Zb (Zv (K:=K) rfl (pv 8) Zd) Za))) Za)))) (exR rfl (exR rfl (ixV (v6.at e9) rfl (.inr (.inr ⟨jl,bj,_,_,rfl,rfl,v6.at hj1,v6.at hj2,?_,fun jm H11 v7 n11 e11=>(exR rfl (exR rfl (ixV (v7.at (v6.at e9)) rfl ⟨szA,fun tj H12 u8 n12 e12=>⟨szA,fun l2 H13 g9 n13 e13=>.inr (.inr ⟨jm,l2,_,_,rfl,rfl,(u8.trans g9).at e11,e13,?_,fun jl' H14 m5 n14 R4=>?_⟩)⟩⟩)))⟩)))))
    ·rw [List.length_map,List.length_map];exact sz (by lia)
    ·rw [List.length_append,List.length_map,List.length_map];exact sz (by simp;lia)
    have s104:=v7.trans (u8.trans (g9.trans m5));have U4:=v6.trans s104;refine WSs.last (Zy (i:=3) Y3.nd (Zv (K:=K) rfl (pv 8) Zd)) (exR rfl (ixV (U4.at e9) rfl ⟨O8.trans (s8.trans (s9.trans U4)),pl',jl',oe,_,_,_,_,_,_,_,_,rfl,?_,?_,hoe.mono U4,D7,?_,?_⟩))
    ·exact Zl.app (ts:=ts) (us:=us) (Paired.mapP d3 fun _ _ r=>r.mono U4) (Paired.mapP j0 fun _ _ r=>r.mono U4) (s104.at e10)
    ·have i9:Paired (Wj H14) (js1++js2) (js++ks):=Paired.append (Paired.mapP O9 fun _ _ r=>r.mono U4) (Paired.mapP hjs2 fun _ _ r=>r.mono U4);refine Yq.app (ts:=js1++js2) (us:=[tj]) i9 (.cons ⟨e,ie,(g9.trans m5).at e12,(K6.mono s9).mono U4,hie.mono U4⟩ .nil) ?_;rw [List.map_append];exact R4
    ·exact s05.free (O8.free (s8.free (s9.free n10)))
    ·exact s05.free (O8.free (s8.free (s9.free ((v6.trans (v7.trans (u8.trans g9))).free n14))))
  ·rintro σ H6 ⟨s6,pl,jl,e,o4,o5,o6,o7,o8,ps,js,G9,rfl,i4,p7,K6,hok,fp,fj⟩;rw [List.length_map,List.length_take] at hok;have hm:min 9 cs.length<=9:=Nat.min_le_left ..;have hdone:=hok.done (by lia);obtain ⟨ts,ht,d3⟩:=i4;obtain ⟨js1,hj1,O9⟩:=p7;have lp:=hok.pl;have lj:=hok.jl;have c1:=Paired.length d3;have c3:=Paired.length O9;refine WSs.last (Zo (Zk (Zb (Zu W3 (pv 1) (Zt (Zb (Zk (Zb Zg (Zb Zg Za))) Za))) (Zb (Zu W3 (pv 2) (Zt (Zb (Zk (Zb (pv 3) (Zb (Zk (Zb Zg (Zb Zg Za))) Za))) Za))) Za)))) (exR rfl ⟨szA,fun t1 H7 s7 _ e7=>⟨szA,fun l1 H8 s8 _ e8=>.inr (.inr ⟨pl,l1,_,_,rfl,rfl,s8.at (s7.at ht),e8,?_,fun pl' H9 s9 n9 e9=>(exR rfl (exR rfl ⟨szA,fun t2 H10 v6 _ e10=>⟨szA,fun t3 H11 v7 _ e11=>⟨szA,fun l2 H12 u8 _ e12=>.inr (.inr ⟨jl,l2,_,_,rfl,rfl,(s7.trans (s8.trans (s9.trans (v6.trans (v7.trans u8))))).at hj1,e12,?_,fun jl' H13 g9 n13 e13=>⟨szA,fun t H14 m5 _ R4=>?_⟩⟩)⟩⟩⟩))⟩)⟩⟩)
   ·rw [List.length_map];exact sz (by simp;lia)
   ·rw [List.length_map];exact sz (by simp;lia)
   have s612:=s7.trans (s8.trans (s9.trans (v6.trans (v7.trans u8))));have U5:=s612.trans (g9.trans m5);have s914:=v6.trans (v7.trans (u8.trans (g9.trans m5)));refine q t H14 pl' jl' _ _ (s05.trans (s6.trans U5)) R4 ?_ ?_ (s05.free (s6.free (s7.free (s8.free n9)))) (s05.free (s6.free (s612.free n13))) hdone ?_ ?_
   ·exact Zl.app (ts:=ts) (us:=[t1]) (Paired.mapP d3 fun _ _ r=>r.mono U5) (.cons ((s8.trans (s9.trans s914)).at e7) .nil) (s914.at e9)
   ·exact Yq.app (ts:=js1) (us:=[t3]) (Paired.mapP O9 fun _ _ r=>r.mono U5) (.cons ⟨e,t2,(u8.trans (g9.trans m5)).at e11,K6.mono U5,(v7.trans (u8.trans (g9.trans m5))).at e10⟩ .nil) (m5.at e13)
   ·rw [List.length_append];simp;lia
   ·intro p hp;rcases List.mem_append.mp hp with z|z
    ·rcases hok.nm p z with y|⟨kd,c,k,h1,h2,h3⟩
     ·exact .inl y
     ·exact .inr (.inr ⟨kd,c,k,h1,by lia,h3⟩)
    ·simp at z;subst z;exact .inr (.inl rfl)
def Zw8(K:Frag):Sp:=fun vs H Q _=>∃(a:Addr) (ns:List Int) (i j:Nat),vs=[.ref a,.int i,.int j]/\SqL K H a (ns.map V.int)/\ns.length<=63/\i<=1000/\j<=1000 /\
 ∀(p:Addr) (H':Hp) (cs:List Int),Same H H'->H p=none->H' p=some (.lst (cs.map V.int))->(∀c∈cs,0<=c/\c<2147483629)->cs.length<=63->Q (.ref p) H'
theorem Zmc:Z2 P w K mg base CX0 2 T.ce.f T.ce.fd ["_law_script", "_law_at", "_law_end"] (Zw8 K):=by
 refine T.ce.F.okW Zmk fun a9 A outer s H vs Q E hr h=>?_
 ·obtain ⟨a,ns,i,j,rfl,hS,hn,hi,hj,q⟩:=h;intro X;have hmin:(if ((ns.map V.int).length:Int)<(j:Int) then ((ns.map V.int).length:Int) else (j:Int))=((min j ns.length:Nat):Int):=by
   rw [List.length_map];split <;>lia
  refine WSs.last (Zo (Xx (N':=["_law_k", "_law_script"]) rfl (Z6.std 1 [0] rfl (by trivial) (by trivial) rfl ⟨rfl,trivial⟩ rfl rfl ⟨(exR rfl ⟨rfl,rfl⟩),trivial⟩) (Znx rfl T.dO (Zb (pv 1) (Zb (Zz (Ztk rfl) (by rfl) T.ig PyProof.Rows.boot_min (Zb (pv 2) (Zb (Zz (r:=Zbi K) Zbz (by rfl) T.bL PySem.boot_len (Zb (pv 0) Za)) Za))) Za))) (fun _ _ _ _=>(W6 (i:=0) (by show (["_law_k", "_law_script"]:List Str).Nodup;decide +kernel))) (fun _ _ _ _=>Za6) (fun _ _ _ _=>(Zeg (Zb7 T) hr rfl T.ca T.aj.F.kp T.aj.b .nil Z7 (Zb (Zv (K:=K) rfl (pv 1) (pv 0)) (Zb (pv 0) Za)))))) (exR rfl (exR rfl (exR rfl (.inl ⟨a,_,rfl,.inl hS,_,_,rfl,_,_,rfl,?_,fun D hD=>?_⟩))))
  ·rw [hmin];lia
  rw [hmin];obtain ⟨m,hm⟩:∃m:Nat,(((min j ns.length:Nat):Int)-(i:Int)).toNat=m:=⟨_,rfl⟩
  rw [hm];refine Zr1 (lo:=(i:Int)) (n:=m) (fun k ys H'=>(∃cs:List Int,ys=cs.map V.int/\cs.length=k/\∀c∈cs,0<=c/\c<2147483629)/\H' D=some (.lst ys)/\Same H H') ⟨⟨[],rfl,rfl,by simp⟩,Zf,Same.new hD⟩ ?_ ?_
  ·rintro k ys H2 hk ⟨⟨cs,rfl,t9,K3⟩,A4,s2⟩;unfold Zam;have c6:i+k<ns.length:=by lia
   refine ⟨Wp.set rfl,_,rfl,_,rfl,.inl ⟨a,_,_,.int (ns.getD (i+k) 0),rfl,rfl,s2.seq hS,?_,_,rfl,_,_,rfl,A4,?_,⟨cs++[Zgh (ns.getD (i+k) 0) ((i:Int)+(k:Int))],?_,?_,?_⟩,Zf,fun b o e=>?_⟩⟩
   ·rw [show (i:Int)+(k:Int)=((i+k:Nat):Int) by lia];refine Yh ?_;rw [List.getElem?_map,List.getElem?_eq_getElem c6,List.getD_eq_getElem?_getD,List.getElem?_eq_getElem c6]
    rfl
   ·rw [List.length_map];exact Zs (by lia)
   ·rw [List.map_append];rfl
   ·rw [List.length_append];simp;exact t9
   ·intro c hc;rcases List.mem_append.mp hc with z|z
    ·exact K3 c z
    ·simp at z;rw [z];exact ⟨Zwn _ _,Zvz _ _⟩
   ·rw [Ze (Zh e hD)];exact s2.at e
  ·rintro ys H2 ⟨⟨cs,rfl,t9,K3⟩,A4,s2⟩;exact q D H2 cs s2 hD A4 K3 (by lia)
theorem Wn(h:Paired (Zm H) ts ps)(hc:H c=some (.lst xs)):Paired (Zm (upd H c o)) ts ps :=
 Paired.mapP h fun t q r=>by
  unfold Zm at r ⊢;rw [Ze fun z=>by rw [z,hc] at r;cases r];exact r
theorem Wj.off(h:Wj H t j)(hc:H c=some (.lst xs)):Wj (upd H c o) t j:=by
 obtain ⟨a,b,h1,h2,h3⟩:=h;unfold Zm at h2 h3;have ne:∀{t:Addr} {ys:List V},H t=some (.tup ys)->t≠c:=fun h z=>by rw [z,hc] at h;cases h
 exact ⟨a,b,by rw [Ze (ne h1)];exact h1,by unfold Zm;rw [Ze (ne h2)];exact h2,by unfold Zm;rw [Ze (ne h3)];exact h3⟩
theorem Za8(h:Paired (Wj H) ts js)(hc:H c=some (.lst xs)):Paired (Wj (upd H c o)) ts js:=Paired.mapP h fun _ _ r=>r.off hc
def Zus:Sp:=fun vs H Q _=>∃(pl jl rl:Addr) (c:Int) (ps:List Zc) (js:List (Zc×Zc)) (Yo:List Zc),vs=[.ref pl,.ref jl,.ref rl,.int c]/\Zl H pl ps/\Yq H jl js/\Zl H rl Yo/\pl≠jl/\rl≠pl/\rl≠jl/\ps.length<=100/\js.length<=200/\Yo.length<=90 /\
 ∀(H':Hp) (x9:List Zc) (A6:List (Zc×Zc)),(∀b o,b≠pl->b≠jl->H b=some o->H' b=some o)->Zl H' pl (ps++x9)->Yq H' jl (js++A6)->Zhc Yo Yo.length x9 A6->Q .non H'
theorem Zkj:Z2 P w K mg base CX0 2 T.bS.f T.bS.fd ["_law_parts", "_law_joins", "_law_rest", "_law_cell"] Zus:=by
 refine T.bS.F.okW Zak fun a9 A outer s H vs Q E hr h=>?_
 ·obtain ⟨pl,jl,rl,c,ps,js,Yo,rfl,i4,p7,⟨rs,hrl,P0⟩,n1,n2,n3,lp,lj,lr,q⟩:=h;intro X;have lrs:=Paired.length P0;let I3:=fun (i:Nat) (σ:St) (H':Hp)=>(∃o4 o5 o6,σ=[some (.ref pl),some (.ref jl),some (.ref rl),some (.int c),o4,o5,o6])/\(∀b o,b≠pl->b≠jl->H b=some o->H' b=some o)/\∃x9 A6,Zl H' pl (ps++x9)/\Yq H' jl (js++A6)/\Zhc Yo i x9 A6
  refine WSs.last (Xn PassesOwn.never rfl (Zka rfl T.cI (Zb (pv 2) Za)) (Wr rfl (Zw (Yw (i:=4) Zak.nd) (Zw (Yw (i:=5) Zak.nd) Xb))) Zq) ⟨_,rfl,rl,rfl,⟨_,SqL.of hrl⟩,Zhz (xs:=rs.map V.ref) I3
   ⟨⟨none,none,none,rfl⟩,fun _ _ _ _ z=>z,[],[],by rw [List.append_nil];exact i4,by rw [List.append_nil];exact p7,[],rfl,by simp,rfl,rfl⟩ ?_ ?_ ?_⟩
  ·rintro i σ H' _ ⟨_,km,_⟩;exact SqL.of (km _ _ n2 n3 hrl)
  ·rintro i v σ H2 hi ⟨⟨o4,o5,o6,rfl⟩,km,x9,A6,⟨ts,ht,d3⟩,⟨us,hu,j0⟩,t9⟩ tp H3 s3 n3' e3;rw [List.getElem?_map] at hi;obtain ⟨te,K7,rfl⟩:=Option.map_eq_some_iff.mp hi;obtain ⟨y,hy,hye⟩:=Paired.get P0 K7;have R8:i<rs.length:=(List.getElem?_eq_some_iff.mp K7).1;obtain ⟨ks,hkl,hks,hnp,hnj⟩:=id t9;have c1:=Paired.length d3;have c2:=Paired.length j0;rw [List.length_append,hnp,List.length_map,List.length_range] at c1;rw [List.length_append,hnj,List.length_map,List.length_range] at c2;have hye2:Zm H2 te y:=by
    unfold Zm at hye ⊢;refine km _ _ (fun z=>?_) (fun z=>?_) hye
    ·obtain ⟨_,h1,_⟩:=i4;rw [z,h1] at hye;cases hye
    ·obtain ⟨_,h1,_⟩:=p7;rw [z,h1] at hye;cases hye
   refine ⟨tp,_,rfl,SqT.of e3,rfl,_,_,rfl,_,_,rfl,rfl,?_⟩;have fl:=Zh6 i (by lia);refine WSs.step (Zy (i:=6) Zak.nd (Zu W3 Zg (X5 Zb3 (by rfl) T.ef PyProof.Rows.boot_str (Zb (pv 4) Za)))) (exR rfl ⟨(i:Int),rfl,Zol (by lia),.inr (.inl (exQ rfl rfl ⟨sz (by show 1+(Zh9 i).length<=1000;lia),?_⟩))⟩);obtain ⟨kd,E6,U2⟩:∃kd:Str,atI [V.str "gate",.str "stop",.str "gate"] (Zgh c (i:Int)%3)=some (.str kd)/\(kd = "gate" \/kd = "stop"):=by
    have h0:=Int.emod_nonneg (Zgh c (i:Int)) (show (3:Int)≠0 by decide);have h1:=Int.emod_lt_of_pos (Zgh c (i:Int)) (show (0:Int)<3 by decide);generalize Zgh c (i:Int)%3=m at h0 h1;have:m=0\/m=1\/m=2:=by lia
    rcases this with rfl|rfl|rfl
    ·exact ⟨"gate",rfl,.inl rfl⟩
    ·exact ⟨"stop",rfl,.inr rfl⟩
    ·exact ⟨"gate",rfl,.inl rfl⟩
   refine WSs.step (Yi (Zab PySem.F.plainAttrs_list PySem.F.slot_list_append PySem.F.type_list_append Yx (pv 0) (Zb (Zk (Zb (Zv (K:=K) rfl (Zt (Zb Zg (Zb Zg (Zb Zg Za)))) (Zu Yu (Zeg (Zb7 T) hr rfl T.ca T.aj.F.kp T.aj.b .nil Z7 (Zb (pv 3) (Zb (pv 4) Za))) Zd)) (Zb (pv 6) Za))) Za))) (exR rfl ⟨.inl ⟨rfl,_,SqL.of (s3.at ht)⟩,szA,fun lk H4 s4 n4 e4=>(exR rfl (exR rfl ⟨c,(i:Int),rfl,_,_,rfl,rfl,(by show (0:Int)<3;decide),.inl ⟨lk,_,_,.str kd,rfl,rfl,SqL.of e4,E6,_,rfl,szA,fun t5 H5 s5 n5 e5=>⟨pl,_,_,rfl,rfl,s5.at (s4.at (s3.at ht)),?_,?_⟩⟩⟩))⟩)
   ·rw [List.length_map];exact Zs (by lia)
   have L9:=s3.trans (s4.trans s5);have hpl5:=L9.at ht;have hts5:Paired (Zm H5) ts (ps++x9):=Paired.mapP d3 fun _ _ r=>r.mono L9
   have hus5:Paired (Wj H5) us (js++A6):=Paired.mapP j0 fun _ _ r=>r.mono L9
   have p6:Paired (Zm (upd H5 pl (.lst (ts.map V.ref++[.ref t5])))) (ts++[t5]) ((ps++x9)++[(kd,Wu i)]):=Wn (Paired.append hts5 (.cons e5 .nil)) hpl5;have j6:=Za8 (o:=.lst (ts.map V.ref++[.ref t5])) hus5 hpl5;have hu6:upd H5 pl (.lst (ts.map V.ref++[.ref t5])) jl=some (.lst (us.map V.ref)):=(Ze (Ne.symm n1)).trans (L9.at hu);have k6:∀b o,b≠pl->b≠jl->H b=some o->upd H5 pl (.lst (ts.map V.ref++[.ref t5])) b=some o:=fun b o b1 b2 z=>(Ze b1).trans (L9.at (km b o b1 b2 z))
   have y6:Zm (upd H5 pl (.lst (ts.map V.ref++[.ref t5]))) te y:=by
    have z:=hye2.mono L9;unfold Zm at z ⊢;exact (Ze fun w=>by rw [w,hpl5] at z;cases z).trans z
   have e6:upd H5 pl (.lst (ts.map V.ref++[.ref t5])) pl=some (.lst ((ts++[t5]).map V.ref)):=by rw [Zf,List.map_append];rfl
   generalize (upd H5 pl (.lst (ts.map V.ref++[.ref t5])))=H6 at p6 j6 hu6 k6 y6 e6;refine WSs.last (Yi (Zab PySem.F.plainAttrs_list PySem.F.slot_list_append PySem.F.type_list_append Yx (pv 1) (Zb (Zk (Zb (pv 5) (Zb (Zk (Zb (pv 6) (Zb Zg Za))) Za))) Za))) (exR rfl ⟨.inl ⟨rfl,_,SqL.of hu6⟩,_,rfl,_,rfl,szA,fun t7 H7 s7 n7 e7=>⟨szA,fun t8 H8 s8 n8 e8=>⟨jl,_,_,rfl,rfl,s8.at (s7.at hu6),?_,⟨_,_,_,rfl⟩,fun b o b1 b2 z=>?_,x9++[(kd,Wu i)],A6++[(y,(Wu i,("a" :Str)))],⟨ts++[t5],?_,?_⟩,⟨us++[t8],?_,?_⟩,t9.more U2 hy⟩⟩⟩)
   ·rw [List.length_map];exact Zs (by lia)
   ·exact (Ze b2).trans (s8.at (s7.at (k6 b o b1 b2 z)))
   ·exact (Ze n1).trans (s8.at (s7.at e6))
   ·rw [<-List.append_assoc];exact Wn (Paired.mapP p6 fun _ _ r=>r.mono (s7.trans s8)) (s8.at (s7.at hu6))
   ·rw [Zf,List.map_append];rfl
   ·rw [<-List.append_assoc];exact Za8 (Paired.append (Paired.mapP j6 fun _ _ r=>r.mono (s7.trans s8)) (.cons ⟨te,t7,e8,y6.mono (s7.trans s8),s8.at e7⟩ .nil)) (s8.at (s7.at hu6))
  ·rintro σ H2 ⟨⟨o4,o5,o6,rfl⟩,km,x9,A6,h1,h2,t9⟩;rw [List.length_map,lrs] at t9;exact q H2 x9 A6 km h1 h2 t9
def trP(q:Zc):Tr:=.tup [.str q.1,.str q.2]
theorem Zqe{H:Hp}{ts:List Addr}{ps:List Zc}(h:Paired (Zm H) ts ps):Paired (Im K H 1) (ps.map trP) (ts.map V.ref):=by
 induction h with
 | nil=>exact .nil
 | cons r _ ih=>exact .cons (Im.tup (SqT.of r) (.cons (.str _) (.cons (.str _) .nil))) ih
theorem Zl.im{H:Hp}{l:Addr}{ps:List Zc}(h:Zl H l ps):Im K H 2 (.lst (ps.map trP)) (.ref l):=let ⟨_,h1,h2⟩:=h;Im.lst (SqL.of h1) (Zqe h2)
theorem Zlp{l D:Addr}{xs:List Str}{x:Str}{H1:Hp}{Q:VK}{σ:St}(hl:H1 l=some (.lst (xs.map V.str)))(hn:xs.length<=100)(hD:H1 D=none)(q:∀H',Same H1 H'->Zl H' D (xs.map fun e=>(x,e))->Q (.ref D) H'){fr:St->St}(F6:fr σ=[none,some (.str x)]){te:TE}(K7:te=Zy2 (Zlo (Zjv 1) (Zlo (Zjv 0) Zuk))) :
  Zft (Itl K l) fr (Ze1 0) Ybt te Q σ H1 D:=by
 refine Xj (xs:=xs.map V.str) (fun i ys H'=>(∃ts:List Addr,ys=ts.map V.ref/\Paired (Zm H') ts ((xs.take i).map fun e=>(x,e)))/\H' D=some (.lst ys)/\Same H1 H') ⟨⟨[],rfl,.nil⟩,Zf,Same.new hD⟩ ?_ ?_ ?_
 ·rintro i ys H' _ ⟨_,_,sm⟩;exact SqL.of (sm.at hl)
 ·rintro k v ys H' hk ⟨⟨ts,rfl,d3⟩,p8,sm⟩;rw [List.getElem?_map] at hk;obtain ⟨y,hy,rfl⟩:=Option.map_eq_some_iff.mp hk;unfold Zam;rw [F6,K7];have d4:ts.length<=100:=by
   have:=Paired.length d3;rw [List.length_map,List.length_take] at this;lia
  refine ⟨Wp.set rfl,_,rfl,_,rfl,szA,fun t H2 s2 n2 e2=>⟨s2.at p8,by rw [List.length_map];exact Zs (by lia),⟨ts++[t],by rw [List.map_append];rfl,?_⟩,Zf,fun b o e=>?_⟩⟩
  ·rw [List.take_add_one,hy,List.map_append];exact Wn (Paired.append (Paired.mapP d3 fun _ _ r=>r.mono s2) (.cons e2 .nil)) (s2.at p8)
  ·rw [Ze (Zh e hD)];exact s2.at (sm.at e)
 ·rintro ys H6 ⟨⟨ts,rfl,d3⟩,B1,s6⟩;rw [List.length_map,List.take_length] at d3;exact q H6 s6 ⟨ts,B1,d3⟩
theorem Zm.offL{H:Hp}{c t:Addr}{o:HO}{xs:List V}{q:Zc}(h:Zm H t q)(hc:H c=some (.lst xs)):Zm (upd H c o) t q:=by
 unfold Zm at h ⊢;exact (Ze fun z=>by rw [z,hc] at h;cases h).trans h
theorem Zl.offL{H:Hp}{c l:Addr}{o:HO}{xs:List V}{ps:List Zc}(h:Zl H l ps)(hc:H c=some (.lst xs))(ne:l≠c):Zl (upd H c o) l ps:=let ⟨ts,h1,h2⟩:=h;⟨ts,(Ze ne).trans h1,Wn h2 hc⟩
theorem Zl.erased{H:Hp}{l:Addr}{ts:List Addr}{ps:List Zc}(h1:H l=some (.lst (ts.map V.ref)))(h2:Paired (Zm H) ts ps)(k:Nat):Zl (upd H l (.lst ((ts.map V.ref).eraseIdx k))) l (ps.eraseIdx k):=⟨ts.eraseIdx k,by rw [Zf,Zm6],Wn (Zht h2 k) h1⟩
theorem Zr7{k n:Nat}(h:k<n):seqIndex? (k:Int) n=some k:=by
 unfold seqIndex?;have h1:¬(k:Int)<0:=by lia
 simp only [h1,if_false];rw [if_pos (by simp;lia)];simp
theorem Zew{a:Int}{n:Nat}(h:0<n):∃k:Nat,a%(n:Int)=(k:Int)/\k<n:=by
 have h0:=Int.emod_nonneg a (show (n:Int)≠0 by lia);have h1:=Int.emod_lt_of_pos a (show (0:Int)<n by lia);exact ⟨(a%(n:Int)).toNat,by lia,by lia⟩
theorem Zpe{α β:Type}{R:α->β->Prop}{l₁:List α}{l₂:List β}(h:Paired R l₁ l₂)(n:Nat):Paired R (l₁.drop n) (l₂.drop n):=by
 induction n generalizing l₁ l₂ with
 | zero=>exact h
 | succ n ih =>
  cases h with
  | nil=>exact .nil
  | cons _ t=>exact ih t
theorem Zmy{l D:Addr}{ts:List Addr}{qs:List Zc}{keep:Zc->Bool}{w:Option V}{H1:Hp}{Q:VK}{σ:St}(hl:H1 l=some (.lst (ts.map V.ref)))(d3:Paired (Zm H1) ts qs)(hn:qs.length<=100)(hD:H1 D=none)(q:∀H',Same H1 H'->Zl H' D (qs.filter keep)->Q (.ref D) H'){fr:St->St}(F6:fr σ=[none,w]){tf:TT}(htf:∀(t:Addr) (x:Zc) (H':Hp) (R:Bool->Hp->Prop),Same H1 H'->Zm H' t x->x∈qs->R (keep x) H'->tf [some (.ref t),w] H' R) :
  Zft (Itl K l) fr (Ze1 0) tf (Zjv 0) Q σ H1 D:=by
 have P1:=Paired.length d3;refine Xj (xs:=ts.map V.ref) (fun i ys H'=>(∃i8:List Addr,ys=i8.map V.ref/\Paired (Zm H1) i8 ((qs.take i).filter keep))/\H' D=some (.lst ys)/\Same H1 H') ⟨⟨[],rfl,.nil⟩,Zf,Same.new hD⟩ ?_ ?_ ?_
 ·rintro i ys H' _ ⟨_,_,sm⟩;exact SqL.of (sm.at hl)
 ·rintro k v ys H' hk ⟨⟨i8,rfl,M7⟩,p8,sm⟩;rw [List.getElem?_map] at hk;obtain ⟨t,ht,rfl⟩:=Option.map_eq_some_iff.mp hk;obtain ⟨x,hx,r2⟩:=Paired.get d3 ht;unfold Zam;rw [F6];have d4:i8.length<=100:=by
   rw [Paired.length M7];have:=List.length_filter_le keep (qs.take k);rw [List.length_take] at this;lia
  refine ⟨Wp.set rfl,htf t x H' _ sm (r2.mono sm) (List.mem_of_getElem? hx) (Yn (fun hc=>?_) (fun hc=>?_))⟩
  ·refine (exR rfl ⟨p8,by rw [List.length_map];exact Zs (by lia),⟨i8++[t],by rw [List.map_append];rfl,?_⟩,Zf,fun b o e=>?_⟩)
   ·rw [List.take_add_one,hx,List.filter_append];refine Paired.append M7 ?_;rw [show (some x).toList=[x] from rfl,List.filter_cons,if_pos hc];exact .cons r2 .nil
   ·rw [Ze (Zh e hD)];exact sm.at e
  ·refine ⟨⟨i8,rfl,?_⟩,p8,sm⟩;rw [List.take_add_one,hx,List.filter_append,show (some x).toList=[x] from rfl,List.filter_cons,if_neg hc,List.filter_nil,List.append_nil];exact M7
 ·rintro ys H6 ⟨⟨i8,rfl,M7⟩,B1,s6⟩;rw [List.length_map,P1,List.take_length] at M7;exact q H6 s6 ⟨i8,B1,Paired.mapP M7 fun _ _ r=>r.mono s6⟩
def Zyd(K:Frag):Sp:=fun vs H Q _=>∃(cl:Addr) (cs:List Int),vs=[.ref cl]/\SqL K H cl (cs.map V.int)/\(∀c∈cs,0<=c)/\cs.length<=63 /\
 ∀(t:Addr) (H':Hp) (pl jl:Addr) (ps:List Zc) (js:List (Zc×Zc)) (n:Nat),Same H H'->H' t=some (.tup [.ref pl,.ref jl])->Zl H' pl ps->Yq H' jl js->H pl=none->H jl=none->Net ps js []->ps.length<=39->(∀p∈ps,nmD p.2 63\/∃j,j<90/\p.2=Wu j)->Q (.ref t) H'
theorem Zmn:Z2 P w K mg base CX0 3 T.ci.f T.ci.fd ["_law_cells_here"] (Zyd K):=by
 refine T.ci.F.okW Yp fun a9 A outer s H vs Q E hr h=>?_
 ·obtain ⟨cl,cs,rfl,t9,K3,hcn,q⟩:=h;intro X;refine WSs.step (Zy (i:=1) Yp.nd (Zt Za)) ⟨szA,fun pl H1 s1 n1 e1=>?_⟩;refine WSs.step (Zy (i:=2) Yp.nd (Zt Za)) ⟨szA,fun jl H2 s2 n2 e2=>?_⟩;refine WSs.step (Zy (i:=3) Yp.nd (Zt Za)) ⟨szA,fun rl0 H3 s3 n3 e3=>?_⟩;have s03:=s1.trans (s2.trans s3);have fp:H pl=none:=n1;have fj:H jl=none:=s1.free n2;have fr0:H rl0=none:=s1.free (s2.free n3);have npj:pl≠jl:=Zh e1 n2;have nrp:rl0≠pl:=Ne.symm (Zh (s2.at e1) n3);have nrj:rl0≠jl:=Ne.symm (Zh e2 n3);have hp0:Zl H3 pl []:=⟨[],s3.at (s2.at e1),.nil⟩
  have hj0:Yq H3 jl []:=⟨[],s3.at e2,.nil⟩
  have hr0:Zl H3 rl0 []:=⟨[],e3,.nil⟩
  clear s1 s2 s3 n1 n2 n3 e1 e2 e3;let I4:=fun (i:Nat) (σ:St) (H':Hp)=>Same H H'/\∃rl o4 o5 o6 o7 o8 o9 K8 o11 ps js Yo,σ=[some (.ref cl),some (.ref pl),some (.ref jl),some (.ref rl),o4,o5,o6,o7,o8,o9,K8,o11]/\Zl H' pl ps/\Yq H' jl js/\Zl H' rl Yo/\Xv i (2 * i) ps js Yo/\H rl=none/\rl≠pl/\rl≠jl
  refine WSs.step (Xn PassesOwn.never rfl (Zka rfl T.cI (Zb (pv 0) Za)) (Wr rfl (Zw (Yw (i:=4) Yp.nd) (Zw (Yw (i:=5) Yp.nd) Xb))) Zq) ⟨_,rfl,cl,rfl,⟨_,s03.seq t9⟩,Zhz (xs:=cs.map V.int) I4
   ⟨s03,rl0,none,none,none,none,none,none,none,none,_,_,_,rfl,hp0,hj0,hr0,Xv.start,fr0,nrp,nrj⟩ ?_ ?_ ?_⟩
  ·rintro i σ H' _ ⟨sm,_⟩;exact sm.seq t9
  ·rintro i v σ H4 hi ⟨s4,rl,o4,o5,o6,o7,o8,o9,K8,o11,ps,js,Yo,rfl,i4,p7,hrl,hok,frl,P2,P3⟩ tp H5 s5 n5 e5;rw [List.getElem?_map] at hi;obtain ⟨c,hc,rfl⟩:=Option.map_eq_some_iff.mp hi;have hi63:i<63:=by
    have:=(List.getElem?_eq_some_iff.mp hc).1;lia
   have hc0:0<=c:=K3 c (List.mem_of_getElem? hc);refine ⟨tp,_,rfl,SqT.of e5,rfl,_,_,rfl,_,_,rfl,rfl,?_⟩;obtain ⟨kd,E6,U2⟩:∃kd:Str,atI [V.str "plain",.str "plain",.str "plain",.str "points",.str "points",.str "cross",.str "gate",.str "stop"] (c%8)=some (.str kd)/\kd∈Zaq:=by
    have h0:=Int.emod_nonneg c (show (8:Int)≠0 by decide);have h1:=Int.emod_lt_of_pos c (show (0:Int)<8 by decide);generalize c%8=m at h0 h1;have:m=0\/m=1\/m=2\/m=3\/m=4\/m=5\/m=6\/m=7:=by lia
    rcases this with rfl|rfl|rfl|rfl|rfl|rfl|rfl|rfl <;>exact ⟨_,rfl,by simp [Zaq]⟩
   obtain ⟨g1,g2,g3,g4,g5,g6⟩:=Zj8 kd U2;refine WSs.step (Zy (i:=6) Yp.nd (Zv (K:=K) rfl (Zt (Zb Zg (Zb Zg (Zb Zg (Zb Zg (Zb Zg (Zb Zg (Zb Zg (Zb Zg Za))))))))) (Zu Yu (pv 5) Zd))) ⟨szA,fun lk H6 s6 n6 e6=>(exR rfl (exQ rfl rfl ⟨(by show (0:Int)<8;decide),.inl ⟨lk,_,_,.str kd,rfl,rfl,SqL.of e6,E6,?_⟩⟩))⟩;refine WSs.step (Zy (i:=7) Yp.nd (Ye (Zhi T) hr T.dA (Zb (pv 6) Za))) (exR rfl ⟨kd,rfl,fun le H7 s7 n7 e7=>?_⟩);have U6:=s5.trans (s6.trans s7);have O8:=s4.trans U6;have nl1:pl≠le:=let ⟨_,z,_⟩:=i4;Zh ((s5.trans s6).at z) n7;have nl2:jl≠le:=let ⟨_,z,_⟩:=p7;Zh ((s5.trans s6).at z) n7;have i4:=i4.mono U6;have p7:=p7.mono U6;have hrl:=hrl.mono U6;obtain ⟨ts,ht,d3⟩:=i4;obtain ⟨rs,hr',P0⟩:=hrl;have c1:=Paired.length d3;have c2:=Paired.length P0;refine WSs.step (Zx (Zj Znw (Zu W3 (Zu W3 (Zz (r:=Zbi K) Zbz (by rfl) T.bL PySem.boot_len (Zb (pv 1) Za)) (Zz (r:=Zbi K) Zbz (by rfl) T.bL PySem.boot_len (Zb (pv 3) Za))) (Zz (r:=Zbi K) Zbz (by rfl) T.bL PySem.boot_len (Zb (pv 7) Za))) Zd (Zr _)) Zq Zp) (exR rfl (.inl ⟨pl,_,rfl,.inl (SqL.of ht),_,rfl,.inl ⟨rl,_,rfl,.inl (SqL.of hr'),.inl (exQ rfl rfl (exR rfl (.inl ⟨le,_,rfl,.inl (SqL.of e7),.inl (exQ rfl rfl (exQ rfl rfl (exR rfl (Yn (fun hgt=>?_) (fun hgt=>?_)))))⟩)))⟩⟩))
   ·exact WSs.last Zpi ⟨O8,rl,_,_,_,_,_,_,_,_,ps,js,Yo,rfl,⟨ts,ht,d3⟩,p7,⟨rs,hr',P0⟩,hok.mono (by lia) (by lia),frl,P2,P3⟩
   have hgt:ps.length+Yo.length+(Yt kd).length<=38:=by
    have z:¬(((ts.map V.ref).length:Int)+((rs.map V.ref).length:Int)+(((Yt kd).map V.str).length:Int) >38):=fun z=>hgt (decide_eq_true z)
    rw [List.length_map,List.length_map,List.length_map] at z;lia
   obtain ⟨n,hn⟩:∃n,n=Yz kd (nmF (c / 8)) i:=⟨_,rfl⟩
   refine WSs.step (Zy (i:=8) Yp.nd (Ye (Ze0 T) hr T.cT (Zb (pv 6) (Zb (Zu Ys (pv 5) Zd) (Zb (pv 4) Za))))) (exR rfl (exR rfl (exQ rfl rfl ⟨⟨by decide,by decide⟩,_,rfl,kd,c / 8,i,rfl,g3,by lia,Int.ediv_nonneg hc0 (by decide),by lia,?_⟩)));rw [<-hn];refine WSs.step (Yi (Zab PySem.F.plainAttrs_list PySem.F.slot_list_append PySem.F.type_list_append Yx (pv 1) (Zb (Zk (Zb (pv 6) (Zb (pv 8) Za))) Za))) (exR rfl ⟨.inl ⟨rfl,_,SqL.of ht⟩,_,rfl,_,rfl,szA,fun t8 H8 s8 n8 e8=>⟨pl,_,_,rfl,rfl,s8.at ht,?_,?_⟩⟩)
   ·rw [List.length_map];exact Zs (by lia)
   have ok8:=hok.add (c:=nmF (c / 8)) (by lia) U2 hgt;rw [<-hn] at ok8;obtain ⟨us,hu,j0⟩:=p7.mono s8;have p9:Zl (upd H8 pl (.lst (ts.map V.ref++[.ref t8]))) pl (ps++[(kd,n)]):=⟨ts++[t8],by rw [Zf,List.map_append];rfl,Wn (Paired.append (Paired.mapP d3 fun _ _ r=>r.mono s8) (.cons e8 .nil)) (s8.at ht)⟩
   have j9:Yq (upd H8 pl (.lst (ts.map V.ref++[.ref t8]))) jl js:=⟨us,(Ze (Ne.symm npj)).trans hu,Za8 j0 (s8.at ht)⟩
   have r9:Zl (upd H8 pl (.lst (ts.map V.ref++[.ref t8]))) rl Yo:=⟨rs,(Ze P2).trans (s8.at hr'),Wn (Paired.mapP P0 fun _ _ r=>r.mono s8) (s8.at ht)⟩
   have e9:upd H8 pl (.lst (ts.map V.ref++[.ref t8])) le=_:=(Ze (Ne.symm nl1)).trans (s8.at e7);have s09:Same H (upd H8 pl (.lst (ts.map V.ref++[.ref t8]))):=fun b o z=>(Ze (Zh z fp)).trans (s8.at (O8.at z))
   generalize (upd H8 pl (.lst (ts.map V.ref++[.ref t8])))=H9 at p9 j9 r9 e9 s09;have D7:=hok;clear d3 P0 ht hr' hu j0 s8 U6 O8 p7 hok n8 e8;refine WSs.step (Zba (i:=9) (N':=["_law_end", "_law_name"]) Yp.nd rfl (Or.inl rfl) rfl (Z6.std 1 [8] rfl (by trivial) (by trivial) rfl ⟨rfl,trivial⟩ rfl rfl ⟨(exR rfl ⟨rfl,rfl⟩),trivial⟩) (Ym (pv 7)) (fun _ _ _ _=>(W6 (i:=0) (by show (["_law_end", "_law_name"]:List Str).Nodup;decide +kernel))) (fun _ _ _ _=>Za6) (fun _ _ _ _=>(Zk (Zb (pv 1) (Zb (pv 0) Za))))) (exR rfl ⟨le,rfl,⟨_,SqL.of e9⟩,fun lf A5=>?_⟩);refine Zlp (xs:=Yt kd) (x:=n) e9 (by lia) A5 (fun H10 v6 f10=>?qq) ?aa ?bb
   case aa=>rfl
   case bb=>rfl
   have p10:=p9.mono v6;have j10:=j9.mono v6;have r10:=r9.mono v6;have s010:=s09.trans v6;have flf:H lf=none:=s09.free A5;have nfp:lf≠pl:=let ⟨_,z,_⟩:=p9;Ne.symm (Zh z A5);have nfj:lf≠jl:=let ⟨_,z,_⟩:=j9;Ne.symm (Zh z A5);have nfr:lf≠rl:=let ⟨_,z,_⟩:=r9;Ne.symm (Zh z A5);clear p9 j9 r9 s09 e9 v6;let I5:=fun (σ:St) (H':Hp)=>Same H H'/\∃rest' fresh' V3,σ=[some (.ref cl),some (.ref pl),some (.ref jl),some (.ref rl),some (.int i),some (.int c),some (.str kd),some (.ref le),some (.str n),some (.ref lf),K8,o11]/\Zl H' pl (ps++[(kd,n)])/\Yq H' jl V3/\Zl H' rl rest'/\Zl H' lf fresh'/\Xv (i+1) (2 * i+1) (ps++[(kd,n)]) V3 (rest'++fresh')
   refine WSs.cut I5 ?_ ?_
   ·refine WS.of (Zx (Zj (r:=Ze7 K) (Zhg hr) (pv 3) (Zt Za) (Zr _)) Zq Zp) (exR rfl ⟨szA,fun l0 H11 v7 n11 e11=>.inr (.inl ⟨2,.lst (Yo.map trP),.lst [],by decide,.inr ⟨_,_,rfl,rfl⟩,Zl.im (r10.mono v7),Im.lst (SqL.of e11) .nil,_,rfl,Yn (fun m6=>?_) (fun m6=>?_)⟩)⟩)
    ·have m6:0<Yo.length:=by
      cases Yo with
      | nil=>simp at m6
      | cons=>simp
     obtain ⟨N2,S1,hrs1⟩:=r10.mono v7;obtain ⟨P4,hf1,U7⟩:=f10.mono v7;obtain ⟨us1,hu1,hus1⟩:=j10.mono v7;have cr:=Paired.length hrs1;have cf:=Paired.length U7;have cu:=Paired.length hus1;rw [List.length_map] at cf;have hjl1:=D7.jl;obtain ⟨k1,hk1,U8⟩:=Zew (a:=c / 24) (n:=(N2.map V.ref).length) (by rw [List.length_map];lia);obtain ⟨k2,E2,U9⟩:=Zew (a:=c / 100) (n:=(P4.map V.ref).length) (by rw [List.length_map];lia);obtain ⟨ta,hta⟩:∃ta,N2[k1]? =some ta:=⟨_,List.getElem?_eq_getElem (by rw [List.length_map] at U8;exact U8)⟩
     obtain ⟨tb,htb⟩:∃tb,P4[k2]? =some tb:=⟨_,List.getElem?_eq_getElem (by rw [List.length_map] at U9;exact U9)⟩
     obtain ⟨qa,hqa,hqat⟩:=Paired.get hrs1 hta;obtain ⟨qb,hqb,hqbt⟩:=Paired.get U7 htb;refine WSs.last (Yi (Zab PySem.F.plainAttrs_list PySem.F.slot_list_append PySem.F.type_list_append Yx (pv 2) (Zb (Zk (Zb (Zab PySem.F.plainAttrs_list PySem.F.slot_list_pop PySem.F.type_list_pop Zph (pv 3) (Zb (Zu Yu (Zu Ys (pv 5) Zd) (Zz (r:=Zbi K) Zbz (by rfl) T.bL PySem.boot_len (Zb (pv 3) Za))) Za)) (Zb (Zab PySem.F.plainAttrs_list PySem.F.slot_list_pop PySem.F.type_list_pop Zph (pv 9) (Zb (Zu Yu (Zu Ys (pv 5) Zd) (Zz (r:=Zbi K) Zbz (by rfl) T.bL PySem.boot_len (Zb (pv 9) Za))) Za)) Za))) Za))) (exR rfl ⟨.inl ⟨rfl,_,SqL.of hu1⟩,_,rfl,.inl ⟨rfl,_,SqL.of S1⟩,_,rfl,_,_,rfl,rfl,⟨by decide,by decide⟩,_,rfl,.inl ⟨rl,_,rfl,.inl (SqL.of S1),_,_,rfl,rfl,by lia,rl,_,_,k1,.ref ta,rfl,rfl,S1,by lia,by rw [List.length_map] at U8;lia,by rw [hk1];exact Zr7 U8,by rw [List.getElem?_map,hta];rfl,?_⟩⟩);have r12:=Zl.erased S1 hrs1 k1;have f12:=Zl.offL (o:=.lst ((N2.map V.ref).eraseIdx k1)) ⟨P4,hf1,U7⟩ S1 nfr;have p12:=(p10.mono v7).offL (o:=.lst ((N2.map V.ref).eraseIdx k1)) S1 (Ne.symm P2);have hu12:upd H11 rl (.lst ((N2.map V.ref).eraseIdx k1)) jl=_:=(Ze (Ne.symm P3)).trans hu1;have hus12:=Za8 (o:=.lst ((N2.map V.ref).eraseIdx k1)) hus1 S1;have u9:upd H11 rl (.lst ((N2.map V.ref).eraseIdx k1)) lf=_:=(Ze nfr).trans hf1;have hfs12:=Wn (o:=.lst ((N2.map V.ref).eraseIdx k1)) U7 S1;have a12:=hqat.offL (o:=.lst ((N2.map V.ref).eraseIdx k1)) S1;have b12:=hqbt.offL (o:=.lst ((N2.map V.ref).eraseIdx k1)) S1;have u8:Same H (upd H11 rl (.lst ((N2.map V.ref).eraseIdx k1))):=fun b o z=>(Ze (Zh z frl)).trans (v7.at (s010.at z))
     generalize (upd H11 rl (.lst ((N2.map V.ref).eraseIdx k1)))=H12 at r12 f12 p12 hu12 hus12 u9 hfs12 a12 b12 u8;refine (exR rfl ⟨.inl ⟨rfl,_,SqL.of u9⟩,_,rfl,_,_,rfl,rfl,⟨by decide,by decide⟩,_,rfl,.inl ⟨lf,_,rfl,.inl (SqL.of u9),_,_,rfl,rfl,by lia,lf,_,_,k2,.ref tb,rfl,rfl,u9,by lia,by rw [List.length_map] at U9;lia,by rw [E2];exact Zr7 U9,by rw [List.getElem?_map,htb];rfl,?_⟩⟩);have f13:=Zl.erased u9 hfs12 k2;have r13:=r12.offL (o:=.lst ((P4.map V.ref).eraseIdx k2)) u9 (Ne.symm nfr);have p13:=p12.offL (o:=.lst ((P4.map V.ref).eraseIdx k2)) u9 (Ne.symm nfp);have hu13:upd H12 lf (.lst ((P4.map V.ref).eraseIdx k2)) jl=_:=(Ze (Ne.symm nfj)).trans hu12;have hus13:=Za8 (o:=.lst ((P4.map V.ref).eraseIdx k2)) hus12 u9;have a13:=a12.offL (o:=.lst ((P4.map V.ref).eraseIdx k2)) u9;have b13:=b12.offL (o:=.lst ((P4.map V.ref).eraseIdx k2)) u9;have g9:Same H (upd H12 lf (.lst ((P4.map V.ref).eraseIdx k2))):=fun b o z=>(Ze (Zh z flf)).trans (u8.at z)
     generalize (upd H12 lf (.lst ((P4.map V.ref).eraseIdx k2)))=H13 at f13 r13 p13 hu13 hus13 a13 b13 g9;refine ⟨szA,fun tj H14 m5 n14 R4=>⟨jl,_,_,rfl,rfl,m5.at hu13,?_,?_⟩⟩
     ·rw [List.length_map];exact Zs (by lia)
     have V0:=m5.at hu13;have hqn:qb.1=n:=by
      rw [List.getElem?_map] at hqb;obtain ⟨x,_,rfl⟩:=Option.map_eq_some_iff.mp hqb
      rfl
     have hqo:qa.1≠qb.1:=by
      rw [hqn,hn];have h1:=Zfn (D7.net.perm.subset (List.mem_append_right _ (List.mem_of_getElem? hqa)));exact fun z=>D7.new (by lia) U2 (z ▸ h1)
     refine ⟨fun b o z=>(Ze (Zh z fj)).trans (m5.at (g9.at z)),Yo.eraseIdx k1,_,js++[(qa,qb)],rfl,(p13.mono m5).offL V0 npj,⟨us1++[tj],?_,?_⟩,(r13.mono m5).offL V0 P3,(f13.mono m5).offL V0 nfj,ok8.join (Zv4 hqa hqb) hqo⟩
     ·rw [Zf,List.map_append];rfl
     ·exact Za8 (Paired.append (Paired.mapP hus13 fun _ _ r=>r.mono m5) (.cons ⟨ta,tb,R4,a13.mono m5,b13.mono m5⟩ .nil)) V0
    ·exact ⟨s010.trans v7,Yo,_,js,rfl,p10.mono v7,j10.mono v7,r10.mono v7,f10.mono v7,ok8.mono (Nat.le_refl _) (by lia)⟩
   rintro σ H12 ⟨s012,rest2,P5,js2,rfl,p12,j12,⟨rs2,hr12,hrs2⟩,⟨fs2,u9,hfs2⟩,I0⟩;have sm12:=I0.sum;have cr:=Paired.length hrs2;have cf:=Paired.length hfs2;rw [List.length_append,List.length_append] at sm12;refine WSs.step (Zy (i:=3) Yp.nd (Zu W3 (pv 3) (pv 9))) (exR rfl (exR rfl (.inr (.inr ⟨rl,lf,_,_,rfl,rfl,hr12,u9,?_,fun rm H13 g9 n13 e13=>?_⟩))))
   ·rw [List.length_map,List.length_map];exact sz (by lia)
   have r13:Zl H13 rm (rest2++P5):=Zl.app (Paired.mapP hrs2 fun _ _ r=>r.mono g9) (Paired.mapP hfs2 fun _ _ r=>r.mono g9) e13;have p13:=p12.mono g9;have j13:=j12.mono g9;have s013:=s012.trans g9;have frm:H rm=none:=s012.free n13;have nmp:rm≠pl:=let ⟨_,z,_⟩:=p12;Ne.symm (Zh z n13);have nmj:rm≠jl:=let ⟨_,z,_⟩:=j12;Ne.symm (Zh z n13);clear hr12 u9 hrs2 hfs2 p12 j12 s012 g9 p10 j10 r10 f10 s010 e13;obtain ⟨op,hop⟩:∃op,op=rest2++P5:=⟨_,rfl⟩
   rw [<-hop] at r13 I0;have hopl:op.length<=39:=by rw [hop,List.length_append];lia
   clear hop sm12 cr cf;obtain ⟨rs,hrm,P0⟩:=r13;have crs:=Paired.length P0;refine WSs.step (Zba (i:=10) (N':=["_law_end", "_law_rest"]) Yp.nd rfl (Or.inl rfl) rfl (Z6.std 1 [3] rfl (by trivial) (by trivial) rfl ⟨rfl,trivial⟩ rfl rfl ⟨(exR rfl ⟨rfl,rfl⟩),trivial⟩) (Ym (Zas (r:=Zmo K) Zot (pv 3) (Zax Zd) Zb6)) (fun _ _ _ _=>(W6 (i:=0) (by show (["_law_end", "_law_rest"]:List Str).Nodup;decide +kernel))) (fun _ _ _ _=>(Zdu (Zj (r:=Ze7 K) (Zhg hr) (Zv (K:=K) rfl (pv 0) Zd) (Zv (K:=K) rfl (Zv (K:=K) rfl (pv 1) Zd) Zd) (Zr _)))) (fun _ _ _ _=>(pv 0))) (exR rfl (exR rfl (.inr (.inl ⟨rm,_,rfl,SqL.of hrm,fun l1 H14 m5 n14 R4=>⟨l1,rfl,⟨_,SqL.of R4⟩,fun D hD=>?_⟩⟩))));rw [show (some (1:Int))=some ((1:Nat):Int) from rfl,Zhl,<-List.map_drop] at R4;have K9:Paired (Zm H14) rs op:=Paired.mapP P0 fun _ _ r=>r.mono m5
   have P6:=m5.at hrm;obtain ⟨q0,hq0⟩:∃q0,q0=op.getD 0 ("", ""):=⟨_,rfl⟩
   refine Zmy (keep:=fun x=>decide (x.1≠q0.1)) (w:=some (.ref rm)) R4 (Zpe K9 1) (by rw [List.length_drop];lia) hD (fun H15 B6 f15=>?q2) ?a2 ?b2
   case a2=>rfl
   case b2 =>
    intro t x H' R sm hx hm hR;cases K9 with
    | nil=>simp at hm
    | cons r0 _ =>
     subst hq0;refine (exR rfl (.inr (.inl ⟨t,_,_,_,rfl,rfl,SqT.of hx,rfl,_,rfl,.inl ⟨rm,_,_,_,rfl,rfl,SqL.of (sm.at P6),(show atI _ ((0:Nat):Int)=_ from Yh rfl),.inr (.inl ⟨_,_,_,_,rfl,rfl,SqT.of (sm.at r0),rfl,.inl ⟨rfl,_,rfl,?_⟩⟩)⟩⟩)));simpa using hR
   obtain ⟨M0,hnear⟩:∃M0,M0=(op.drop 1).filter fun x=>decide (x.1≠q0.1):=⟨_,rfl⟩
   rw [<-hnear] at f15;have p15:=(p13.mono m5).mono B6;have j15:=(j13.mono m5).mono B6;have P7:=B6.at P6;have P8:Paired (Zm H15) rs op:=Paired.mapP K9 fun _ _ r=>r.mono B6
   have s015:=s013.trans (m5.trans B6);clear p13 j13 s013 m5 B6 P6 K9 hrm P0 R4;refine WSs.last (Zx (PW.pt (Zdk (Zj (r:=Ze7 K) (Zhg hr) (pv 10) (Zt Za) (Zr _)) (Zbe (Zj (r:=Y7 K) (Xc hr) (Zu Yu (Zu Ys (pv 5) Zd) Zd) Zd (Zr _))))) Zq Zp) (exR rfl ⟨szA,fun l0 H16 v8 n16 e16=>.inr (.inl ⟨2,.lst (M0.map trP),.lst [],by decide,.inr ⟨_,_,rfl,rfl⟩,Zl.im (f15.mono v8),Im.lst (SqL.of e16) .nil,_,rfl,Yn (fun m6=>?_) (fun m6=>?_)⟩)⟩)
   ·refine (exR rfl (exQ rfl rfl ⟨⟨by decide,by decide⟩,_,_,rfl,rfl,(by show (0:Int)<3;decide),.inl ⟨rfl,_,rfl,Yn (fun _=>?_) (fun _=>?_)⟩⟩))
    ·obtain ⟨ns,hnl,T0⟩:=f15.mono v8;have cn:=Paired.length T0;have hnl0:0<M0.length:=by
      cases M0 with
      | nil=>simp at m6
      | cons=>simp
     obtain ⟨k3,hk3,hk3l⟩:=Zew (a:=c / 1500) (n:=(ns.map V.ref).length) (by rw [List.length_map];lia);obtain ⟨to,S2⟩:∃to,ns[k3]? =some to:=⟨_,List.getElem?_eq_getElem (by rw [List.length_map] at hk3l;exact hk3l)⟩
     obtain ⟨q3,hq3,hq3t⟩:=Paired.get T0 S2;have hq3m:q3∈M0:=List.mem_of_getElem? hq3;refine WSs.step (Zy (i:=11) Yp.nd (Zv (K:=K) rfl (pv 10) (Zu Yu (Zu Ys (pv 5) Zd) (Zz (r:=Zbi K) Zbz (by rfl) T.bL PySem.boot_len (Zb (pv 10) Za))))) (exR rfl (exR rfl (exQ rfl rfl ⟨⟨by decide,by decide⟩,_,rfl,.inl ⟨D,_,rfl,.inl (SqL.of hnl),_,_,rfl,rfl,by lia,.inl ⟨D,_,_,.ref to,rfl,rfl,SqL.of hnl,by rw [hk3];exact Yh (by rw [List.getElem?_map,S2];rfl),?_⟩⟩⟩)));obtain ⟨us,hu,j0⟩:=j15.mono v8;have cu:=Paired.length j0;have hju:=I0.jl;have hrm16:=v8.at P7;have hrs16:Paired (Zm H16) rs op:=Paired.mapP P8 fun _ _ r=>r.mono v8
     rw [hnear] at hq3m;obtain ⟨hqd,hqk⟩:=List.mem_filter.mp hq3m;have hqk:q3.1≠q0.1:=of_decide_eq_true hqk;obtain ⟨t0,rs',tl,rfl,rfl,r0,hrt⟩:∃t0 rs' tl,rs=t0 ::rs'/\op=q0 ::tl/\Zm H16 t0 q0/\Paired (Zm H16) rs' tl:=by
      cases hrs16 with
      | nil=>simp at hqd
      | cons r0 rt=>exact ⟨_,_,_,rfl,by rw [hq0];rfl,by rw [hq0];exact r0,rt⟩
     have hqd:q3∈tl:=hqd;refine WSs.step (Yi (Zab PySem.F.plainAttrs_list PySem.F.slot_list_append PySem.F.type_list_append Yx (pv 2) (Zb (Zk (Zb (pv 11) (Zb (Zv (K:=K) rfl (pv 3) Zd) Za))) Za))) (exR rfl ⟨.inl ⟨rfl,_,SqL.of hu⟩,_,rfl,_,rfl,.inl ⟨rm,_,_,.ref t0,rfl,rfl,SqL.of hrm16,(show atI _ ((0:Nat):Int)=_ from Yh rfl),szA,fun tj H17 B7 n17 e17=>⟨jl,_,_,rfl,rfl,B7.at hu,?_,?_⟩⟩⟩)
     ·rw [List.length_map];exact Zs (by lia)
     have V1:=B7.at hu;have j18:Yq (upd H17 jl (.lst (us.map V.ref++[.ref tj]))) jl (js2++[(q3,q0)]):=⟨us++[tj],by rw [Zf,List.map_append];rfl,Za8 (Paired.append (Paired.mapP j0 fun _ _ r=>r.mono B7) (.cons ⟨to,t0,e17,hq3t.mono B7,r0.mono B7⟩ .nil)) V1⟩
     have p18:=((p15.mono v8).mono B7).offL (o:=.lst (us.map V.ref++[.ref tj])) V1 npj;have hrm18:upd H17 jl (.lst (us.map V.ref++[.ref tj])) rm=_:=(Ze nmj).trans (B7.at hrm16);have hrt18:=Wn (o:=.lst (us.map V.ref++[.ref tj])) (Paired.mapP hrt fun _ _ r=>r.mono B7) V1;have q18:=(hq3t.mono B7).offL (o:=.lst (us.map V.ref++[.ref tj])) V1;have M8:Same H (upd H17 jl (.lst (us.map V.ref++[.ref tj]))):=fun b o z=>(Ze (Zh z fj)).trans (B7.at (v8.at (s015.at z)))
     generalize (upd H17 jl (.lst (us.map V.ref++[.ref tj])))=H18 at j18 p18 hrm18 hrt18 q18 M8;refine WSs.last (Zy (i:=3) Yp.nd (Xx (N':=["_law_end", "_law_other"]) rfl (Z6.std 1 [11] rfl (by trivial) (by trivial) rfl ⟨rfl,trivial⟩ rfl rfl ⟨(exR rfl ⟨rfl,rfl⟩),trivial⟩) (Ym (Zas (r:=Zmo K) Zot (pv 3) (Zax Zd) Zb6)) (fun _ _ _ _=>(W6 (i:=0) (by show (["_law_end", "_law_other"]:List Str).Nodup;decide +kernel))) (fun _ _ _ _=>(Zdu (Zj (r:=Ze7 K) (Zhg hr) (pv 0) (pv 1) (Zr _)))) (fun _ _ _ _=>(pv 0)))) (exR rfl (exR rfl (.inr (.inl ⟨rm,_,rfl,SqL.of hrm18,fun l2 H19 s19 n19 e19=>⟨l2,rfl,⟨_,SqL.of e19⟩,fun D2 A4=>?_⟩⟩))));rw [show (some (1:Int))=some ((1:Nat):Int) from rfl,Zhl,<-List.map_drop] at e19;have q19:=q18.mono s19;refine Zmy (ts:=rs') (qs:=tl) (keep:=fun x=>decide (x≠q3)) (w:=some (.ref to)) e19 (Paired.mapP hrt18 fun _ _ r=>r.mono s19) (by simp at hopl;lia) A4 (fun H20 s20 f20=>?q4) ?a4 ?b4
     case a4=>rfl
     case b4 =>
      intro t x H' R sm hx hm hR;refine (exR rfl (exR rfl (.inr (.inl ⟨1,trP x,trP q3,by decide,.inl ⟨_,_,rfl,rfl⟩,Im.tup (SqT.of hx) (.cons (.str _) (.cons (.str _) .nil)),Im.tup (SqT.of (q19.mono sm)) (.cons (.str _) (.cons (.str _) .nil)),_,rfl,?_⟩))));have:(!decide (trP x=trP q3))=decide (x≠q3):=by
       rw [Bool.eq_iff_iff];simp [trP,Prod.ext_iff]
      rw [if_pos rfl,this];exact hR
     have P9:=s19.trans s20;exact ⟨M8.trans P9,D2,_,_,_,_,_,_,_,_,_,_,_,rfl,p18.mono P9,j18.mono P9,f20,(I0.join (Ztr I0.net.ond hqd) hqk).mono (by lia) (by lia),(M8.trans s19).free A4,(let ⟨_,z,_⟩:=p18;Ne.symm (Zh (s19.at z) A4)),(let ⟨_,z,_⟩:=j18;Ne.symm (Zh (s19.at z) A4))⟩
    ·exact ⟨s015.trans v8,rm,_,_,_,_,_,_,_,_,_,_,_,rfl,p15.mono v8,j15.mono v8,⟨rs,v8.at P7,Paired.mapP P8 fun _ _ r=>r.mono v8⟩,I0.mono (by lia) (by lia),frm,nmp,nmj⟩
   ·exact ⟨s015.trans v8,rm,_,_,_,_,_,_,_,_,_,_,_,rfl,p15.mono v8,j15.mono v8,⟨rs,v8.at P7,Paired.mapP P8 fun _ _ r=>r.mono v8⟩,I0.mono (by lia) (by lia),frm,nmp,nmj⟩
  ·rintro σ H4 ⟨s4,rl,o4,o5,o6,o7,o8,o9,K8,o11,ps,js,Yo,rfl,i4,p7,hrl,hok,frl,P2,P3⟩;rw [List.length_map] at hok;have hsm:=hok.sum;have hjb:=hok.jl;refine WSs.step (Yi (Ye (Zkj T) hr T.eG (Zb (pv 1) (Zb (pv 2) (Zb (pv 3) (Zb (Zz (Zum rfl) (by rfl) T.ii PyProof.Rows.boot_sum (Zb (pv 0) Za)) Za)))))) (exR rfl (exR rfl (exR rfl (exR rfl ⟨cl,cs,rfl,s4.seq t9,pl,jl,rl,Zur cs,ps,js,Yo,rfl,i4,p7,hrl,npj,P2,P3,by lia,by lia,by lia,fun H5 x9 A6 km hp5 hj5 hcl5=>?_⟩))));have hnet:=hok.done (by lia) hcl5;have hnl:x9.length=Yo.length:=by obtain ⟨ks,hk1,E2,hk3,hk4⟩:=hcl5;rw [hk3,List.length_map,List.length_range]
   refine WSs.last (Zo (Zk (Zb (pv 1) (Zb (pv 2) Za)))) (exR rfl (exR rfl ⟨szA,fun t H6 s6 n6 e6=>q t H6 pl jl _ _ 0 (fun b o z=>s6.at (km b o (Zh z fp) (Zh z fj) (s4.at z))) e6 (hp5.mono s6) (hj5.mono s6) fp fj hnet ?_ ?_⟩))
   ·rw [List.length_append];lia
   ·intro p hp;rcases List.mem_append.mp hp with z|z
    ·obtain ⟨kd,h1,c,k,h2,h3⟩:=hok.nm p z;exact .inl ⟨kd,h1,c,k,by lia,h3⟩
    ·obtain ⟨ks,hk1,E2,hk3,hk4⟩:=hcl5;rw [hk3] at z;obtain ⟨j,hj,rfl⟩:=List.mem_map.mp z;exact .inr ⟨j,by have:=List.mem_range.mp hj;lia,rfl⟩
def Ze5(n k:Nat):Str:=("s" :Str)++Str.ofString (toString (n:Int))++(⟨#[Ze4.getD (k / 26) 0]⟩:Str)++(⟨#[Ze4.getD (k%26) 0]⟩:Str)
theorem Zrf:∀i<26,Ze4.getD i 0=97+i:=by decide
theorem Zif(n k:Nat):(Ze5 n k).cps.toList=(("s" :Str)++Str.ofString (toString (n:Int))).cps.toList++[Ze4.getD (k / 26) 0]++[Ze4.getD (k%26) 0]:=by
 unfold Ze5;rw [PySem.W.KT.app_list,PySem.W.KT.app_list]
theorem Zu7(hk:k<600)(hk':k'<600)(h:Ze5 n k=Ze5 n' k'):k=k':=by
 have:=congrArg (fun s:Str=>s.cps.toList) h;simp only [Zif] at this;obtain ⟨h1,h2⟩:=List.append_inj' this rfl;obtain ⟨_,h3⟩:=List.append_inj' h1 rfl;rw [List.cons.injEq] at h2 h3;rw [Zrf _ (by lia),Zrf _ (by lia)] at h2 h3;lia
def Zy5(H:Hp)(t:Addr)(q:Str×Str×Str):Prop:=H t=some (.tup [.str q.1,.str q.2.1,.str q.2.2])
def Za7(H:Hp)(l:Addr)(sg:List (Str×Str×Str)):Prop:=∃ts:List Addr,H l=some (.lst (ts.map V.ref))/\Paired (Zy5 H) ts sg
def X7(ps:List Zc):List Zc:=ps.flatMap fun p=>if p.1∈[("plain" :Str), "gate", "stop"] then (Yt p.1).map (fun x=>(p.2,x)) else []
theorem Zru(ps:List Zc)(p:Zc):X7 (ps++[p])=X7 ps++(if p.1∈[("plain" :Str), "gate", "stop"] then (Yt p.1).map (fun x=>(p.2,x)) else []):=by
 unfold X7;rw [List.flatMap_append];simp
structure Zcz(es:List Zc)(i:Nat)(sg:List (Str×Str×Str)):Prop where
 at_:(sg.map fun q=>((q.2.1,q.2.2):Zc)).Sublist (es.take i)
 name:∀q∈sg,q.1=q.2.1\/∃n k,n<99/\k<i/\q.1=Ze5 n k
 nd:(sg.map Prod.fst).Nodup
 len:sg.length<=40
theorem Zcz.skip(h:Zcz es i sg):Zcz es (i+1) sg:=by
 refine ⟨h.at_.trans ?_,fun q hq=>?_,h.nd,h.len⟩
 ·rw [List.take_add_one];exact List.sublist_append_left _ _
 ·rcases h.name q hq with z|⟨n,k,a,b,c⟩
  ·exact .inl z
  ·exact .inr ⟨n,k,a,by lia,c⟩
theorem Zcz.add(h:Zcz es i sg)(he:es[i]? =some e)(hn:nm=e.1\/∃n,n<99/\nm=Ze5 n i)(i5:nm∉sg.map Prod.fst)(hl:sg.length<40):Zcz es (i+1) (sg++[(nm,e.1,e.2)]):=by
 refine ⟨?_,fun q hq=>?_,?_,by rw [List.length_append];simp;lia⟩
 ·rw [List.take_add_one,he,List.map_append];exact List.Sublist.append h.at_ (List.Sublist.refl _)
 ·rcases List.mem_append.mp hq with z|z
  ·exact h.skip.name q z
  ·rw [List.mem_singleton] at z;subst z;rcases hn with y|⟨n,a,b⟩
   ·exact .inl y
   ·exact .inr ⟨n,i,a,by lia,b⟩
 ·rw [List.map_append,List.nodup_append];refine ⟨h.nd,by simp,fun a ha b hb z=>?_⟩;simp at hb;exact i5 (by rw [<-hb,<-z];exact ha)
theorem Zcz.fresh(h:Zcz es i sg)(hi:i<600)(m6:∀n k e,e∈es->n<99->k<600->e.1≠Ze5 n k)(hn:n<99):Ze5 n i∉sg.map Prod.fst:=fun hm=>by
 obtain ⟨q,hq,e⟩:=List.mem_map.mp hm;rcases h.name q hq with z|⟨n',k,a,b,c⟩
 ·have:((q.2.1,q.2.2):Zc)∈es:=List.mem_of_mem_take (h.at_.subset (List.mem_map.mpr ⟨q,hq,rfl⟩));exact m6 n i _ this hn hi (z.symm.trans e)
 ·have:=Zu7 hi (by lia) (e.symm.trans c);lia
theorem Za7.mono(e:Same H H')(h:Za7 H l sg):Za7 H' l sg:=let ⟨ts,h1,h2⟩:=h;⟨ts,e.at h1,Paired.mapP h2 fun _ _ r=>e.at r⟩
def Yb7(K:Frag):Sp:=fun vs H Q _=>∃(pl:Addr) (c:Int) (ps:List Zc),vs=[.ref pl,.int c]/\Zl H pl ps/\ps.length<=45/\(∀n k e,e∈X7 ps->n<99->k<600->e.1≠Ze5 n k) /\
 ∀(l:Addr) (H':Hp) (sg:List (Str×Str×Str)),Same H H'->H l=none->Za7 H' l sg->Zcz (X7 ps) (X7 ps).length sg->(∀q∈sg,2<=q.1.length)->Q (.ref l) H'
theorem Zj7(k:Str):(Yt k).length<=4:=by
 unfold Yt;split
 ·decide
 ·split
  ·decide
  ·split <;>decide
theorem Zhh:∀ps:List Zc,(X7 ps).length<=4 * ps.length
 | []=>by simp [X7]
 | p ::ps=>by
  have:=Zhh ps;have h2:=Zj7 p.1;rw [show X7 (p ::ps)=(if p.1∈[("plain" :Str), "gate", "stop"] then (Yt p.1).map (fun x=>((p.2,x):Zc)) else [])++X7 ps from rfl,List.length_append,List.length_cons];split
  ·rw [List.length_map];lia
  ·simp;lia
theorem Zr9:∀n<99,(Str.ofString (toString ((n:Nat):Int))).length<=2:=by trivial
theorem Zwv:∀n<99,(((n:Nat):Int).natAbs).log2<1920:=by trivial
theorem Zwj(n k:Nat):2<=(Ze5 n k).length:=by
 unfold Ze5;rw [PySem.Str.length_append,PySem.Str.length_append];show 2<=_+1+1;lia
theorem Zg0:Z2 P w K mg base CX0 2 T.aS.f T.aS.fd ["_law_parts", "_law_cell"] (Yb7 K):=by
 refine T.aS.F.okW Ya fun a9 A outer s H vs Q E hr h=>?_
 ·obtain ⟨pl,c,ps,rfl,⟨ts,d3,hps⟩,i4,m6,q⟩:=h;intro X;have htl:ts.length=ps.length:=Paired.length hps;refine WSs.step (Zy (i:=2) Ya.nd Zg) ?_;refine WSs.step (Zy (i:=3) Ya.nd (Zt Za)) ⟨szA,fun l0 H1 s1 n1 e1=>?_⟩;let I6:=fun (i:Nat) (σ:St) (H':Hp)=>∃le,(∃o4 o5 o6,σ=[some (.ref pl),some (.int c),some (.str "abcdefghijklmnopqrstuvwxyz"),some (.ref le),o4,o5,o6,none,none,none,none])/\Same H H'/\Zl H' le (X7 (ps.take i))
  refine WSs.step (Xn PassesOwn.never rfl (Ym (pv 0)) (Wr rfl (Zw (Yw (i:=4) Ya.nd) (Zw (Yw (i:=5) Ya.nd) Xb))) Zq) (exR rfl ⟨pl,rfl,⟨_,SqL.of (s1.at d3)⟩,X0 (xs:=ts.map V.ref) I6 ⟨l0,⟨none,none,none,rfl⟩,s1,[],e1,.nil⟩ ?_ ?_ ?_⟩)
  ·rintro i σ H' _ ⟨_,_,sm,_⟩;exact SqL.of (sm.at d3)
  ·rintro i v σ H2 hi ⟨le,⟨o4,o5,o6,rfl⟩,s2,us,B0,j0⟩;rw [List.getElem?_map] at hi;obtain ⟨t,ht,rfl⟩:=Option.map_eq_some_iff.mp hi;obtain ⟨p,hp,rp⟩:=Paired.get hps ht;have R8:i<ts.length:=(List.getElem?_eq_some_iff.mp ht).1;have hbl:=Zhh (ps.take i);rw [List.length_take] at hbl;have hul:us.length=(X7 (ps.take i)).length:=Paired.length j0;have nxt:X7 (ps.take (i+1))=X7 (ps.take i)++(if p.1∈[("plain" :Str), "gate", "stop"] then (Yt p.1).map (fun x=>((p.2,x):Zc)) else []):=by
    rw [List.take_add_one,hp];exact Zru _ _
   refine ⟨t,_,rfl,SqT.of (s2.at rp),rfl,_,_,rfl,_,_,rfl,rfl,?_⟩;refine WSs.last (Zx (Zj (r:=Zjt K) (Zk5 hr) (pv 4) (Zt (Zb Zg (Zb Zg (Zb Zg Za)))) (by with_unfolding_all rfl)) Zq Zp) (exR rfl ⟨szA,fun lk H3 s3 n3 e3=>.inl ⟨lk,_,rfl,.inl (SqL.of e3),rfl,rfl,_,rfl,?_⟩⟩);rw [if_neg Bool.false_ne_true,show inV (.str p.1) [.str "plain",.str "gate",.str "stop"]=decide (p.1∈[("plain" :Str), "gate", "stop"]) from Xp p.1 ["plain", "gate", "stop"]];refine Yn (fun hc=>?_) (fun hc=>⟨le,⟨_,_,_,rfl⟩,s2.trans s3,?_⟩)
   ·have hc:=of_decide_eq_true hc;rw [if_pos hc] at nxt;refine WSs.last (Zy (i:=3) Ya.nd (Zu W3 (pv 3) (Xx (N':=["_law_end", "_law_name"]) rfl (Z6.std 1 [5] rfl (by trivial) (by trivial) rfl ⟨rfl,trivial⟩ rfl rfl ⟨(exR rfl ⟨rfl,rfl⟩),trivial⟩) (Ym (Ye (Zhi T) hr T.dA (Zb (pv 4) Za))) (fun _ _ _ _=>(W6 (i:=0) (by show (["_law_end", "_law_name"]:List Str).Nodup;decide +kernel))) (fun _ _ _ _=>Za6) (fun _ _ _ _=>(Zk (Zb (pv 1) (Zb (pv 0) Za))))))) (exR rfl (exR rfl ⟨p.1,rfl,fun lp H4 s4 n4 e4=>⟨lp,rfl,⟨_,SqL.of e4⟩,fun D hD=>?_⟩⟩));have hel:=Zj7 p.1;refine Zlp (xs:=Yt p.1) (x:=p.2) e4 (by lia) hD (fun H5 s5 f5=>?qq) ?aa ?bb
    case aa=>rfl
    case bb=>rfl
    case qq =>
     obtain ⟨vs,hv,L0⟩:=f5;have hvl:vs.length=(Yt p.1).length:=by rw [Paired.length L0,List.length_map]
     have s35:=s3.trans (s4.trans s5);refine .inr (.inr ⟨le,D,_,_,rfl,rfl,s35.at B0,hv,by rw [List.length_map,List.length_map];exact sz (by lia),fun ln H6 s6 n6 e6=>⟨ln,⟨_,_,_,rfl⟩,s2.trans (s35.trans s6),?_⟩⟩);rw [nxt];exact ⟨us++vs,by rw [e6,List.map_append],Paired.append (Paired.mapP j0 fun _ _ r=>(s35.trans s6).at r) (Paired.mapP L0 fun _ _ r=>s6.at r)⟩
   ·have hc:¬p.1∈[("plain" :Str), "gate", "stop"]:=fun z=>hc (decide_eq_true z)
    rw [nxt,if_neg hc,List.append_nil];exact Zl.mono s3 ⟨us,B0,j0⟩
  rintro σ H2 ⟨le,⟨o4,o5,o6,rfl⟩,s2,hE⟩;rw [List.length_map,htl,List.take_length] at hE;obtain ⟨us,B0,j0⟩:=hE;have hbl:=Zhh ps;have hul:us.length=(X7 ps).length:=Paired.length j0;obtain ⟨es,hes⟩:∃es,es=X7 ps:=⟨_,rfl⟩
  rw [<-hes] at j0 hul m6 q hbl;refine WSs.step (Zy (i:=7) Ya.nd (Zt Za)) ⟨szA,fun lf H3 s3 n3 e3=>?_⟩;let I7:=fun (i:Nat) (σ:St) (H':Hp)=>(∃o5 o6 o8 o9 K8,σ=[some (.ref pl),some (.int c),some (.str "abcdefghijklmnopqrstuvwxyz"),some (.ref le),o4,o5,o6,some (.ref lf),o8,o9,K8])/\Same H2 H'/\∃sg,Za7 H' lf sg/\Zcz es i sg/\∀q∈sg,2<=q.1.length
  refine WSs.step (Xn PassesOwn.never rfl (Zka rfl T.cI (Zb (pv 3) Za)) (Wr rfl (Zw (Yw (i:=8) Ya.nd) (Zw (Yw (i:=6) Ya.nd) Xb))) Zq) (exR rfl ⟨le,rfl,⟨_,SqL.of (s3.at B0)⟩,Zhz (xs:=us.map V.ref) I7 ⟨⟨_,_,none,none,none,rfl⟩,s3,[],⟨[],e3,.nil⟩,⟨List.nil_sublist _,(fun _ z=>nomatch z),List.nodup_nil,Nat.zero_le _⟩,fun _ z=>nomatch z⟩ ?_ ?_ ?_⟩)
  ·rintro i σ H' _ ⟨_,sm,_⟩;exact SqL.of (sm.at B0)
  ·rintro i x' σ H4 hi ⟨⟨o5',o6',o8,o9,K8,rfl⟩,s4,sg,hsg,ok,ok2⟩ p H5 s5 n5 e5;rw [List.getElem?_map] at hi;obtain ⟨te,K7,rfl⟩:=Option.map_eq_some_iff.mp hi;obtain ⟨e,he,re⟩:=Paired.get j0 K7;have R8:i<us.length:=(List.getElem?_eq_some_iff.mp K7).1;have hi600:i<600:=by lia
   refine ⟨p,_,rfl,SqT.of e5,rfl,_,_,rfl,_,_,rfl,rfl,?_⟩;have re5:Zm H5 te e:=s5.at (s4.at re);obtain ⟨gs,A5,Q0⟩:=hsg.mono s5;have hgl:gs.length=sg.length:=Paired.length Q0;have L9:=s4.trans s5;refine WSs.step (Zy (i:=9) Ya.nd (Zeg (Zb7 T) hr rfl T.ca T.aj.F.kp T.aj.b .nil Z7 (Zb (pv 1) (Zb (pv 8) Za)))) (exR rfl (exR rfl ⟨c,_,rfl,?_⟩));generalize Zgh c ((i:Nat):Int)=dr;have skip:∃sg,Za7 H5 lf sg/\Zcz es (i+1) sg/\∀q∈sg,2<=q.1.length:=⟨sg,⟨gs,A5,Q0⟩,ok.skip,ok2⟩
   refine WSs.last (Zx (PW.pt (Zdk (Zj Znw (Zu Yu (pv 9) Zd) (Zu Yu (pv 1) Zd) (Zr _)) (Zbe (Zj Znk (Zz (r:=Zbi K) Zbz (by rfl) T.bL PySem.boot_len (Zb (pv 7) Za)) Zd (Zr _))))) Zq Zp) (exR rfl (exQ rfl rfl ⟨(by show (0:Int)<8;decide),_,rfl,_,_,rfl,rfl,(by show (0:Int)<7;decide),_,_,rfl,rfl,_,rfl,Yn (fun _=>(exR rfl (.inl ⟨lf,_,rfl,.inl (SqL.of A5),_,_,rfl,rfl,_,rfl,Yn (fun hl=>?_) (fun _=>⟨⟨_,_,_,_,_,rfl⟩,L9,skip⟩)⟩))) (fun _=>⟨⟨_,_,_,_,_,rfl⟩,L9,skip⟩)⟩));have hl:sg.length<40:=by
    have:=of_decide_eq_true hl;rw [List.length_map] at this;lia
   have m0:=Int.emod_nonneg (dr / 8) (show (99:Int)≠0 by decide);have m1:=Int.emod_lt_of_pos (dr / 8) (show (0:Int)<99 by decide);obtain ⟨n,hn⟩:∃n:Nat,dr / 8%99=(n:Int):=⟨(dr / 8%99).toNat,by lia⟩
   have V2:n<99:=by lia
   have O6:=Zr9 n V2;have d4:(("s" :Str)++Str.ofString (toString (n:Int))).length<=3:=by rw [PySem.Str.length_append];show 1+_<=3;lia
   have a1:atI Ze4 ((i:Int) / 26)=some (Ze4.getD (i / 26) 0):=by
    have:=Zlr (n:=26) (l:=Ze4) (i:=(i:Int) / 26) rfl (by lia) (by lia);rw [show ((i:Int) / 26).toNat=i / 26 by lia] at this;exact this
   have a2:atI Ze4 ((i:Int)%26)=some (Ze4.getD (i%26) 0):=by
    have:=Zlr (n:=26) (l:=Ze4) (i:=(i:Int)%26) rfl (by lia) (by lia);rw [show ((i:Int)%26).toNat=i%26 by lia] at this;exact this
   refine WSs.step (Zy (i:=10) Ya.nd (Zu W3 (Zv (K:=K) rfl (pv 2) (Zu Ys (pv 8) Zd)) (Zv (K:=K) rfl (pv 2) (Zu Yu (pv 8) Zd)))) (exR rfl (exR rfl (exQ rfl rfl ⟨⟨by decide,by decide⟩,.inr (.inr ⟨_,_,Ze4.getD (i / 26) 0,rfl,rfl,sz (by rw [Zj1];decide),by rw [Zo1];exact a1,_,rfl,_,rfl,_,_,rfl,rfl,(by show (0:Int)<26;decide),.inr (.inr ⟨_,_,Ze4.getD (i%26) 0,rfl,rfl,sz (by rw [Zj1];decide),by rw [Zo1];exact a2,.inr (.inl (exQ rfl rfl ⟨sz (by show 1+1<=1000;lia),?_⟩))⟩)⟩)⟩)));refine WSs.last (Yi (Zab PySem.F.plainAttrs_list PySem.F.slot_list_append PySem.F.type_list_append Yx (pv 7) (Zb (Zk (Zb (Zu W3 (Zu W3 Zg (X5 Zb3 (by rfl) T.ef PyProof.Rows.boot_str (Zb (Zu Yu (Zu Ys (pv 9) Zd) Zd) Za))) (pv 10)) (Zb (Zv (K:=K) rfl (pv 6) Zd) (Zb (Zv (K:=K) rfl (pv 6) Zd) Za)))) Za))) (exR rfl ⟨.inl ⟨rfl,_,SqL.of A5⟩,_,rfl,_,_,rfl,rfl,⟨by decide,by decide⟩,_,_,rfl,rfl,(by show (0:Int)<99;decide),(n:Int),?_,Zwv n V2,.inr (.inl (exQ rfl rfl ⟨sz (by show 1+_<=1000;lia),_,rfl,.inr (.inl (exQ rfl rfl ⟨sz (by show _+2<=1000;lia),_,rfl,.inr (.inl ⟨te,_,_,.str e.1,rfl,rfl,SqT.of re5,rfl,_,rfl,.inr (.inl ⟨te,_,_,.str e.2,rfl,rfl,SqT.of re5,rfl,szA,fun t H7 s7 n7 e7=>⟨lf,_,_,rfl,rfl,s7.at A5,by rw [List.length_map];exact Zs (by lia),⟨_,_,_,_,_,rfl⟩,fun b o z=>?_,sg++[(Ze5 n i,e.1,e.2)],⟨gs++[t],?_,?_⟩,ok.add he (.inr ⟨n,V2,rfl⟩) (ok.fresh hi600 m6 V2) hl,fun q hq=>(List.mem_append.mp hq).elim (ok2 q) fun z=>by rw [List.mem_singleton.mp z];exact Zwj n i⟩⟩)⟩)⟩))⟩))⟩)
   ·show [V.int (dr / 8%99)]=[V.int (n:Int)];rw [hn]
   ·rw [Ze (Zh z n3)];exact s7.at (L9.at z)
   ·rw [Zf,List.map_append];rfl
   ·have off:∀{b:Addr} {xs:List V},H7 b=some (.tup xs)->(upd H7 lf (.lst (gs.map V.ref++[V.ref t]))) b=some (.tup xs):=fun {b xs} z=>by
     rw [Ze fun y=>by rw [y,s7.at A5] at z;cases z];exact z
    exact Paired.append (Paired.mapP Q0 fun _ _ r=>off (s7.at r)) (.cons (off e7) .nil)
  ·rintro σ H4 ⟨⟨o5',o6',o8,o9,K8,rfl⟩,s4,sg,hsg,ok,ok2⟩;refine WSs.last (Zo (pv 7)) (exR rfl (q lf H4 sg (s2.trans s4) (s2.free n3) hsg ?_ ok2));rw [List.length_map,hul] at ok;exact ok
def Zhp(s:Str):Nat:=s.cps.toList.getLastD 0
theorem Zm4{x y:Str}(h:0<y.length):Zhp (x++y)=Zhp y:=by
 unfold Zhp;rw [PySem.W.KT.app_list];have:y.cps.toList≠[]:=fun z=>by
  have:y.cps.toList.length=0:=by rw [z];rfl
  rw [Array.length_toList] at this;exact absurd h (by show ¬0<y.cps.size;lia)
 obtain ⟨ys,b,e⟩:=List.eq_nil_or_concat y.cps.toList |>.resolve_left this
 rw [e];simp
theorem Zqh:∀k<100,Zhp (Zh9 k)<58:=by trivial
theorem Zti{kd:Str}{c:Int}{k:Nat}(h:k<100):Zhp (Yz kd c k)<58:=by
 have h1:=Zqh k h;have h2:=Zhj k h;unfold Yz;split <;>rw [Zm4 h2] <;>exact h1
theorem Zwt{j:Nat}(h:j<100):Zhp (Wu j)<58:=by
 unfold Wu;rw [Zm4 (Zhj j h)];exact Zqh j h
theorem Zul{n k:Nat}:97<=Zhp (Ze5 n k):=by
 unfold Zhp;rw [Zif];have:=Zrf (k%26) (by lia);simp only [List.getLastD_concat];lia
theorem Zsp{n k:Nat}:2<=(Ze5 n k).cps.toList.length:=by
 rw [Zif,List.length_append,List.length_append];simp
theorem Zya{s:Str}{n k:Nat} (h:s = "g" \/s = "h" \/Zhp s<58):s≠Ze5 n k:=fun z=>by
 rcases h with rfl|rfl|h
 ·have:=@Zsp n k;rw [<-z] at this;exact absurd this (by decide)
 ·have:=@Zsp n k;rw [<-z] at this;exact absurd this (by decide)
 ·have:=@Zul n k;rw [<-z] at this;lia
theorem Zv1{ps:List Zc}{e:Zc}(h:e∈X7 ps):∃p∈ps,e.1=p.2:=by
 unfold X7 at h;obtain ⟨p,hp,he⟩:=List.mem_flatMap.mp h;refine ⟨p,hp,?_⟩;split at he
 ·obtain ⟨x,_,rfl⟩:=List.mem_map.mp he;rfl
 ·cases he
def nmY(s:Str):Prop:=s = "g" \/s = "h" \/Zqc s 63\/∃j,j<90/\s=Wu j
theorem nmY.sig{s:Str}{n k:Nat}(h:nmY s):s≠Ze5 n k:=by
 refine Zya ?_;rcases h with h|h|⟨kd,c,j,_,hj,rfl⟩|⟨j,hj,rfl⟩
 ·exact .inl h
 ·exact .inr (.inl h)
 ·exact .inr (.inr (Zti (by lia)))
 ·exact .inr (.inr (Zwt (by lia)))
def nmK(p:Zc):Prop:=p=((("gate" :Str),("g" :Str)):Zc)\/p=((("gate" :Str),("h" :Str)):Zc)\/Zqc p.2 63\/∃j,j<90/\p.2=Wu j
theorem nmK.nm{p:Zc}(h:nmK p):nmY p.2:=by
 rcases h with rfl|rfl|h|h
 ·exact .inl rfl
 ·exact .inr (.inl rfl)
 ·exact .inr (.inr (.inl h))
 ·exact .inr (.inr (.inr h))
structure Zlk(ps:List Zc)(js:List (Zc×Zc))(sg:List (Str×Str×Str)):Prop where
 net:Net ps js []
 len:ps.length<=39
 name:∀p∈ps,nmK p
 sigs:∃C9,C9.Perm ps/\Zcz (X7 C9) (X7 C9).length sg
theorem Net.perm'(h:Net ps js [])(hp:C9.Perm ps)(hj:V3.Perm js):Net C9 V3 []:=by
 obtain ⟨a,b,c,d⟩:=h;rw [List.append_nil] at a;refine ⟨?_,(hp.map _).nodup_iff.mpr b,fun j hm=>c j (hj.mem_iff.mp hm),fun p hm=>d p (hp.mem_iff.mp hm)⟩;rw [List.append_nil];exact ((hj.flatMap_right _).trans a).trans (hp.flatMap_right _).symm
theorem Yb8(h:Zqc s n)(l:n<=m):Zqc s m:=let ⟨kd,c,k,a,b,e⟩:=h;⟨kd,c,k,a,by lia,e⟩
theorem Ya4(h:nmD s n):Zqc s n:=by
 obtain ⟨kd,hk,c,k,a,e⟩:=h;refine ⟨kd,c,k,?_,a,e⟩;have:∀kd∈Zaq,96<kd.cps.toList.getD 0 0/\kd.cps.toList.getD 0 0<123:=by trivial
 exact this kd hk
theorem Zl1{α β:Type}{R:α->β->Prop}{l1:List α}{l2:List β}(h:Paired R l1 l2):Paired R l1.reverse l2.reverse:=by
 induction h with
 | nil=>exact .nil
 | cons r _ ih=>rw [List.reverse_cons,List.reverse_cons];exact Paired.append ih (.cons r .nil)
theorem Zf6{α β:Type}{R:α->β->Prop}:∀(n:Nat) {l1:List α} {l2:List β},Paired R l1 l2->Paired R (l1.drop n) (l2.drop n)
 | 0,_,_,h=>h
 | _+1,_,_,.nil=>.nil
 | n+1,_,_,.cons _ t=>Zf6 n t
theorem Zm5{α β:Type}{R:α->β->Prop}:∀(n:Nat) {l1:List α} {l2:List β},Paired R l1 l2->Paired R (l1.take n) (l2.take n)
 | 0,_,_,_=>.nil
 | _+1,_,_,.nil=>.nil
 | n+1,_,_,.cons r t=>.cons r (Zm5 n t)
def Zzl(K:Frag):Sp:=fun vs H Q _=>∃(cl:Addr) (c:Int) (cs:List Int),vs=[.ref cl,.int c]/\SqL K H cl (cs.map V.int)/\(∀c∈cs,0<=c)/\cs.length<=63 /\
 ∀(t pl jl sl:Addr) (H':Hp) (ps:List Zc) (js:List (Zc×Zc)) (sg:List (Str×Str×Str)),Same H H'->H' t=some (.tup [.ref pl,.ref jl,.ref sl])->Zl H' pl ps->Yq H' jl js->Za7 H' sl sg->Zlk ps js sg->(∀q∈sg,2<=q.1.length)->Q (.ref t) H'
theorem Zjr:Z2 P w K mg base CX0 4 T.bG.f T.bG.fd ["_law_cells_here", "_law_cell"] (Zzl K):=by
 refine T.bG.F.okW Xm fun a9 A outer s H vs Q E hr h=>?_
 ·obtain ⟨cl,c,cs,rfl,hS,hc0,t9,q⟩:=h;intro X;refine WSs.step (Zy (i:=2) Xm.nd (Ye (Zoh T) hr T.fW (Zb (pv 0) Za))) (exR rfl ⟨cl,cs,rfl,hS,hc0,fun t H1 pl jl ps js s1 e1 hP hJ n1 n2 net len nm=>?_⟩);let I8:=fun (σ:St) (H':Hp)=>∃t pl jl ps js,σ=[some (.ref cl),some (.int c),some (.ref t),none,none,none]/\Same H H'/\H' t=some (.tup [.ref pl,.ref jl])/\Zl H' pl ps/\Yq H' jl js/\Net ps js []/\ps.length<=39/\∀p∈ps,nmK p
  refine WSs.cut I8 ?_ ?_
  ·refine WS.of (Zx (Zj (r:=Y7 K) (Xc hr) (Zu Yu (pv 1) Zd) Zd (Zr _)) Zq Zp) (exR rfl (exQ rfl rfl ⟨(by show (0:Int)<3;decide),.inl ⟨rfl,_,rfl,Yn (fun _=>?_) (fun _=>⟨t,pl,jl,ps,js,rfl,s1,e1,hP,hJ,net,by lia,fun p hp=>?_⟩)⟩⟩))
   ·refine WSs.last (Zy (i:=2) Xm.nd (Ye (Zmn T) hr T.fi (Zb (pv 0) Za))) (exR rfl ⟨cl,cs,rfl,s1.seq hS,hc0,t9,fun t H2 pl jl ps js _ s2 e2 hP hJ _ _ net len nm=>⟨t,pl,jl,ps,js,rfl,s1.trans s2,e2,hP,hJ,net,len,fun p hp=>?_⟩⟩);rcases nm p hp with z|z
    ·exact .inr (.inr (.inl (Ya4 z)))
    ·exact .inr (.inr (.inr z))
   ·rcases nm p hp with z|z|z
    ·exact .inl z
    ·exact .inr (.inl z)
    ·exact .inr (.inr (.inl (Yb8 z (by decide))))
  clear e1 hP hJ n1 n2 net len nm s1;rintro σ H1 ⟨t,pl,jl,ps,js,rfl,s1,e1,hP,hJ,net,len,nm⟩;refine WSs.step (Zkn (pv 2) (Wr rfl (Zw (Yw (i:=3) Xm.nd) (Zw (Yw (i:=4) Xm.nd) Xb)))) (exR rfl ⟨t,_,rfl,SqT.of e1,rfl,_,_,rfl,_,_,rfl,rfl,?_⟩);obtain ⟨us,hu,j0⟩:=id hP;have hul:us.length=ps.length:=Paired.length j0;obtain ⟨mx,hmx,hm1⟩:∃mx:Int,(if ((us.map V.ref).length:Int) >1 then ((us.map V.ref).length:Int) else 1)=mx/\0<mx:=by
   refine (exR rfl ?_);split <;>lia
  have a0:=Int.emod_nonneg (c / 3) (show mx≠0 by lia);obtain ⟨Q1,A0⟩:∃k:Nat,c / 3%mx=(k:Int):=⟨(c / 3%mx).toNat,by lia⟩
  refine WSs.step (Zy (i:=5) Xm.nd (Zu Yu (Zu Ys (pv 1) Zd) (Zz (Zte rfl) (by rfl) T.ic PyProof.Rows.boot_max (Zb Zd (Zb (Zz (r:=Zbi K) Zbz (by rfl) T.bL PySem.boot_len (Zb (pv 3) Za)) Za))))) (exR rfl (exQ rfl rfl ⟨⟨by decide,by decide⟩,_,rfl,.inl ⟨pl,_,rfl,.inl (SqL.of hu),_,_,rfl,_,_,rfl,rfl,?_,?_⟩⟩))
  ·show (0:Int)<(if ((us.map V.ref).length:Int) >1 then ((us.map V.ref).length:Int) else 1);rw [hmx];exact hm1
  show WSs _ _ _ [some (.ref cl),some (.int c),some (.ref t),some (.ref pl),some (.ref jl),some (.int (c / 3%(if ((us.map V.ref).length:Int) >1 then ((us.map V.ref).length:Int) else 1)))] H1;rw [hmx,A0];let I9:=fun (σ:St) (H':Hp)=>∃jl' V3,σ=[some (.ref cl),some (.int c),some (.ref t),some (.ref pl),some (.ref jl'),some (.int (Q1:Int))]/\Same H1 H'/\Yq H' jl' V3/\V3.Perm js
  refine WSs.cut I9 ?_ ?_
  ·obtain ⟨ws,hw,hws⟩:=id hJ;refine WS.of (Zx (Zj (r:=Y7 K) (Xc hr) (Zu Yu (Zu Ys (pv 1) Zd) Zd) Zd (Zr _)) Zq Zp) (exR rfl (exQ rfl rfl ⟨⟨by decide,by decide⟩,_,_,rfl,rfl,(by show (0:Int)<2;decide),.inl ⟨rfl,_,rfl,Yn (fun _=>?_) (fun _=>⟨jl,js,rfl,Same.refl _,hJ,List.Perm.refl _⟩)⟩⟩));refine WSs.last (Zy (i:=4) Xm.nd (Zuu (ops:=fun l r=>[l,r]) (pv 4) (Zax (Znc Zin Zd)) (fun _ _=>by with_unfolding_all rfl))) (exR rfl (exR rfl (exR rfl ⟨jl,_,rfl,rfl,SqL.of hw,fun jr H2 s2 n2 e2=>⟨jr,js.reverse,rfl,s2,⟨ws.reverse,by rw [e2,List.map_reverse],?_⟩,List.reverse_perm _⟩⟩)));exact Zl1 (Paired.mapP hws fun _ _ r=>r.mono s2)
  rintro σ H2 ⟨jl',V3,rfl,s2,hJ',hjp⟩;refine WSs.last (Zo (Zk (Zb (Zu W3 (Zas (r:=Zmo K) Zot (pv 3) (Zax (pv 5)) Zb6) (Zas (r:=Zmo K) Zot (pv 3) Zb6 (Zax (pv 5)))) (Zb (pv 4) (Zb (Ye (Zg0 T) hr T.cZ (Zb (pv 3) (Zb (Zu Ys (pv 1) Zd) Za))) Za))))) (exR rfl (exR rfl (exR rfl (.inr (.inl ⟨pl,_,rfl,SqL.of (s2.at hu),fun la H3 s3 n3 e3=>(exR rfl (exR rfl (exR rfl (.inr (.inl ⟨pl,_,rfl,SqL.of (s3.at (s2.at hu)),fun lb H4 s4 n4 e4=>.inr (.inr ⟨la,lb,_,_,rfl,rfl,s4.at e3,e4,?_,fun lc H5 s5 n5 e5=>?_⟩)⟩)))))⟩)))))
  ·rw [Zhl,Zn5,List.length_drop,List.length_take,List.length_map];exact sz (by lia)
  have L9:=s3.trans (s4.trans s5);have B6:=s2.trans L9;refine (exR rfl (exR rfl (exR rfl (exQ rfl rfl ⟨⟨by decide,by decide⟩,pl,_,ps,rfl,hP.mono B6,by lia,fun n k e he _ _=>?_,fun sl H6 sg s6 n6 hG ok ok2=>⟨szA,fun t' H7 s7 n7 e7=>?_⟩⟩))))
  ·obtain ⟨p,hp,e1⟩:=Zv1 he;rw [e1];exact nmY.sig (nm p hp).nm
  rw [Zhl,Zn5,<-List.map_drop,<-List.map_take,<-List.map_append] at e5;have s57:=s6.trans s7;have rot:(ps.drop Q1++ps.take Q1).Perm ps:=by
   have:=List.perm_append_comm (l₁:=ps.drop Q1) (l₂:=ps.take Q1);rwa [List.take_append_drop] at this
  refine q t' lc jl' sl H7 (ps.drop Q1++ps.take Q1) V3 sg (s1.trans (B6.trans s57)) e7 ⟨us.drop Q1++us.take Q1,s57.at e5,?_⟩ (hJ'.mono (L9.trans s57)) (hG.mono s7) ⟨Net.perm' net rot hjp,?_,fun p hp=>nm p (rot.mem_iff.mp hp),⟨ps,rot.symm,ok⟩⟩ ok2
  ·have:=Paired.mapP j0 fun _ _ r=>Zm.mono (B6.trans s57) r
   exact Paired.append (Zf6 _ this) (Zm5 _ this)
  ·rw [rot.length_eq];exact len
def Zjp(c:Nat):Bool:=decide (97<=c) && decide (c<=122)
def anC(c:Nat):Bool:=Zjp c || (decide (48<=c) && decide (c<=57))
def W9(s:Str):Prop:=1<=s.length/\s.length<=6/\Zjp (s.cps.toList.headD 0)=true/\s.cps.toList.all anC=true
theorem Zos:∀k<100,(Zh9 k).cps.toList.all anC=true:=by trivial
theorem Zoj:∀i<26,Zjp (Ze4.getD i 0)=true:=by decide
theorem Zz7(h:Zjp c=true):anC c=true:=by unfold anC;rw [h];rfl
theorem Zcy{x y:Str}(hx:x.cps.toList.all anC=true)(hy:y.cps.toList.all anC=true):(x++y).cps.toList.all anC=true:=by
 rw [PySem.W.KT.app_list,List.all_append,hx,hy];rfl
theorem Zbl{x y:Str}(h:0<x.length):(x++y).cps.toList.headD 0=x.cps.toList.headD 0:=by
 rw [PySem.W.KT.app_list];cases e:x.cps.toList with
 | nil =>
  have:x.cps.size=0:=by rw [<-Array.length_toList,e];rfl
  exact absurd h (by show ¬0<x.cps.size;lia)
 | cons a l=>rfl
theorem Zks(h:Zjp c=true):(⟨#[c]⟩:Str).cps.toList.all anC=true:=by
 show ([c]:List Nat).all anC=true;simp [Zz7 h]
theorem Zxg{j:Nat}(h:j<100):W9 (Wu j):=by
 have h1:=Zh6 j h;have h2:=Zhj j h;unfold Wu;refine ⟨?_,?_,?_,Zcy (by trivial) (Zos j h)⟩
 ·rw [PySem.Str.length_append];lia
 ·rw [PySem.Str.length_append,show ("e" :Str).length=1 by trivial];lia
 ·rw [Zbl (by trivial)];decide +kernel
theorem Zxl{n k:Nat}(hn:n<99)(hk:k<600):W9 (Ze5 n k):=by
 have h1:=Zr9 n hn;have a1:=Zoj (k / 26) (by lia);have a2:=Zoj (k%26) (by lia);have hs:("s" :Str).length=1:=by trivial
 have h0:0<(("s" :Str)++Str.ofString (toString (n:Int))).length:=by rw [PySem.Str.length_append,hs];lia
 have hf:(Str.ofString (toString (n:Int))).cps.toList.all anC=true:=Zos n (by lia);unfold Ze5;refine ⟨?_,?_,?_,Zcy (Zcy (Zcy (by trivial) hf) (Zks a1)) (Zks a2)⟩
 ·rw [PySem.Str.length_append,PySem.Str.length_append];lia
 ·rw [PySem.Str.length_append,PySem.Str.length_append,PySem.Str.length_append,hs];show 1+_+1+1<=6;lia
 ·rw [Zbl (by rw [PySem.Str.length_append];lia),Zbl h0,Zbl (by rw [hs];decide)];decide +kernel
theorem Ydh:W9 "g" :=⟨by trivial,by trivial,by trivial,by trivial⟩
theorem Yc1:W9 "h" :=⟨by trivial,by trivial,by trivial,by trivial⟩
theorem Zia(h0:0<=i)(h1:i<26):Zjp (Zd1 i)=true:=Zoj i.toNat (by lia)
theorem Yar:∀m<3,(Zh7 "0" m).cps.toList.all anC=true:=by trivial
theorem Zsz{kd:Str}{c:Int}{k:Nat}(h0:96<kd.cps.toList.getD 0 0/\kd.cps.toList.getD 0 0<123)(hk:k<100):W9 (Yz kd c k):=by
 have l2:=Zb9 (kind:=kd) (c:=c) hk;refine ⟨by lia,Zt0 hk,?_,?_⟩
 ·unfold Yz;split
  ·rw [Zbl (by show 0<1;decide)];show Zjp (kd.cps.toList.getD 0 0)=true;unfold Zjp;simp only [Bool.and_eq_true,decide_eq_true_eq];lia
  ·have a0:=Int.emod_nonneg (c / 3) (show (26:Int)≠0 by decide);have a1:=Int.emod_lt_of_pos (c / 3) (show (0:Int)<26 by decide);rw [Zbl (by rw [PySem.Str.length_append,PySem.Str.length_append];show 0<1+1+_;lia),Zbl (by rw [PySem.Str.length_append];show 0<1+1;decide),Zbl (by show 0<1;decide)];exact Zia a0 a1
 ·unfold Yz;split
  ·refine Zcy (Zks ?_) (Zos k hk);unfold Zjp;simp only [Bool.and_eq_true,decide_eq_true_eq];lia
  ·have a0:=Int.emod_nonneg (c / 3) (show (26:Int)≠0 by decide);have a1:=Int.emod_lt_of_pos (c / 3) (show (0:Int)<26 by decide);have b0:=Int.emod_nonneg (c / 78) (show (26:Int)≠0 by decide);have b1:=Int.emod_lt_of_pos (c / 78) (show (0:Int)<26 by decide);have c0:=Int.emod_nonneg (c / 2028) (show (3:Int)≠0 by decide);have c1:=Int.emod_lt_of_pos (c / 2028) (show (0:Int)<3 by decide);exact Zcy (Zcy (Zcy (Zks (Zia a0 a1)) (Zks (Zia b0 b1))) (Yar _ (by lia))) (Zos k hk)
theorem nmY.ok(h:nmY s):W9 s:=by
 rcases h with rfl|rfl|⟨kd,c,j,h0,hj,rfl⟩|⟨j,hj,rfl⟩
 ·exact Ydh
 ·exact Yc1
 ·exact Zsz h0 (by lia)
 ·exact Zxg (by lia)
theorem Zkm(h:e∈X7 ps):∃p∈ps,e.1=p.2/\p.1∈[("plain" :Str), "gate", "stop"]/\e.2∈Yt p.1:=by
 unfold X7 at h;obtain ⟨p,hp,he⟩:=List.mem_flatMap.mp h
 by_cases z:p.1∈[("plain" :Str), "gate", "stop"]
 ·rw [if_pos z] at he;obtain ⟨x,hx,rfl⟩:=List.mem_map.mp he;exact ⟨p,hp,rfl,z,hx⟩
 ·rw [if_neg z] at he;cases he
theorem Zw4(k:Str):(Yt k).Nodup:=by
 unfold Yt;split
 ·decide
 ·split
  ·decide
  ·split <;>decide
theorem Zsg:∀{ps:List Zc},(ps.map Prod.snd).Nodup->(X7 ps).Nodup
 | [],_=>List.nodup_nil
 | p ::ps,h=>by
  rw [List.map_cons,List.nodup_cons] at h;have ih:=Zsg h.2;show ((if p.1∈[("plain" :Str), "gate", "stop"] then (Yt p.1).map (fun x=>((p.2,x):Zc)) else [])++X7 ps).Nodup;refine List.nodup_append.mpr ⟨?_,ih,fun a ha b hb e=>?_⟩
  ·split
   ·exact List.Pairwise.map _ (fun a b h z=>h (Prod.mk.inj z).2) (Zw4 p.1)
   ·exact List.nodup_nil
  ·subst e;obtain ⟨p',hp',e1,_⟩:=Zkm hb;split at ha
   ·obtain ⟨x,_,rfl⟩:=List.mem_map.mp ha;exact h.1 (List.mem_map.mpr ⟨p',hp',e1.symm⟩)
   ·cases ha
structure Zm1(ps:List Zc)(sg:List (Str×Str×Str)):Prop where
 name:∀q∈sg,W9 q.1
 nd:(sg.map Prod.fst).Nodup
 one:(sg.map Prod.snd).Nodup
 at_:∀q∈sg,∃p∈ps,p.2=q.2.1/\p.1∈[("plain" :Str), "gate", "stop"]/\q.2.2∈Yt p.1
 len:sg.length<=40
theorem Zcz.sigs(h:Zcz (X7 ps) (X7 ps).length sg)(nd:(ps.map Prod.snd).Nodup)(nm:∀p∈ps,nmY p.2)(hl:ps.length<=45):Zm1 ps sg:=by
 have sub:=h.at_;rw [List.take_length] at sub;have hb:=Zhh ps;have mem:∀q∈sg,((q.2.1,q.2.2):Zc)∈X7 ps:=fun q hq=>sub.subset (List.mem_map.mpr ⟨q,hq,rfl⟩)
 refine ⟨fun q hq=>?_,h.nd,List.Nodup.sublist sub (Zsg nd),fun q hq=>?_,h.len⟩
 ·rcases h.name q hq with z|⟨n,k,a,b,c⟩
  ·obtain ⟨p,hp,e,_⟩:=Zkm (mem q hq);rw [z,show q.2.1=p.2 from e];exact nmY.ok (nm p hp)
  ·rw [c];exact Zxl a (by lia)
 ·obtain ⟨p,hp,e,k,m⟩:=Zkm (mem q hq);exact ⟨p,hp,e.symm,k,m⟩
theorem Zm1.perm(h:Zm1 C9 sg)(hp:C9.Perm ps):Zm1 ps sg :=
 ⟨h.name,h.nd,h.one,fun q hq=>let ⟨p,a,b⟩:=h.at_ q hq;⟨p,hp.mem_iff.mp a,b⟩,h.len⟩
theorem Zlk.sigsV(h:Zlk ps js sg):Zm1 ps sg:=by
 obtain ⟨C9,hp,ok⟩:=h.sigs;exact (ok.sigs ((hp.map _).nodup_iff.mpr h.net.nd) (fun p hm=>(h.name p (hp.mem_iff.mp hm)).nm) (by rw [hp.length_eq];have:=h.len;lia)).perm hp
def Zg5(K:Frag):Sp:=fun vs H Q _=>∃(x C dx:Addr) (nm:Str),vs=[.ref x,.str nm]/\H x=some (.ins C dx [])/\Cls K C/\Xf K C "name" /\Q .non (upd H x (.ins C dx [("name",.str nm)]))
theorem Wa:Z2 P w K mg base CX0 1 T.ae.f T.ae.fd ["self", "name"] (Zg5 K):=by
 refine T.ae.F.okW Ziv fun a9 A outer s H vs Q E hr h=>?_
 ·obtain ⟨x,C,dx,nm,rfl,hx,c,n1,q⟩:=h;intro X;exact WSs.last (Zav (pv 0) (pv 1) rfl) (exR rfl (exR rfl ⟨x,C,dx,[],rfl,hx,c,n1,by simp,q⟩))
def Zdn(H:Hp)(C x:Addr)(nm:Str):Prop:=∃dx,H x=some (.ins C dx [("name",.str nm)])
def mrP(C:Addr):List V->Hp->VK->Prop:=fun vs H Q=>∃nm:Str,vs=[.str nm]/\∀x H',Same H H'->H x=none->Zdn H' C x nm->Q (.ref x) H'
theorem mkP(c:Cls K C) (n:Xf K C "name"):∀vs H Q,mrP C vs H Q->∀x dx,H x=none->H dx=none->dx≠x->Zg5 K (.ref x ::(vs++[])) (upd (upd H dx (.own x)) x (.ins C dx [])) (fun v H2=>v=.non/\Q (.ref x) H2) E0:=by
 rintro vs H Q ⟨nm,rfl,q⟩ x dx h1 h2 ne;refine ⟨x,C,dx,nm,rfl,Zf,c,n,rfl,q x _ (fun b o e=>?_) h1 ⟨dx,Zf⟩⟩;rw [Ze (Zh e h1),Ze (Zh e h1),Ze (Zh e h2)];exact e
abbrev Zpl(T:Tx K mg):List V->Hp->VK->Prop:=mrP T.aY
theorem Zwo:∀vs H Q,Zpl T vs H Q->∀x dx,H x=none->H dx=none->dx≠x->Zg5 K (.ref x ::(vs++[])) (upd (upd H dx (.own x)) x (.ins T.aY dx [])) (fun v H2=>v=.non/\Q (.ref x) H2) E0:=mkP T.de T.dC
abbrev Zsu(T:Tx K mg):List V->Hp->VK->Prop:=mrP T.aP
theorem Zyh:∀vs H Q,Zsu T vs H Q->∀x dx,H x=none->H dx=none->dx≠x->Zg5 K (.ref x ::(vs++[])) (upd (upd H dx (.own x)) x (.ins T.aP dx [])) (fun v H2=>v=.non/\Q (.ref x) H2) E0:=mkP T.dR T.dS
abbrev Zsc(T:Tx K mg):List V->Hp->VK->Prop:=mrP T.aQ
theorem Zxv:∀vs H Q,Zsc T vs H Q->∀x dx,H x=none->H dx=none->dx≠x->Zg5 K (.ref x ::(vs++[])) (upd (upd H dx (.own x)) x (.ins T.aQ dx [])) (fun v H2=>v=.non/\Q (.ref x) H2) E0:=mkP T.dU T.dW
abbrev Zne(T:Tx K mg):List V->Hp->VK->Prop:=mrP T.al
theorem Zt3:∀vs H Q,Zne T vs H Q->∀x dx,H x=none->H dx=none->dx≠x->Zg5 K (.ref x ::(vs++[])) (upd (upd H dx (.own x)) x (.ins T.al dx [])) (fun v H2=>v=.non/\Q (.ref x) H2) E0:=mkP T.cV T.df
abbrev Zpj(T:Tx K mg):List V->Hp->VK->Prop:=mrP T.aZ
theorem Zvv:∀vs H Q,Zpj T vs H Q->∀x dx,H x=none->H dx=none->dx≠x->Zg5 K (.ref x ::(vs++[])) (upd (upd H dx (.own x)) x (.ins T.aZ dx [])) (fun v H2=>v=.non/\Q (.ref x) H2) E0:=mkP T.dg T.dD
def X4(k:Str)(C:Addr):Prop:=(k = "points" /\C=T.al)\/(k = "cross" /\C=T.aZ)\/(k = "gate" /\C=T.aQ)\/(k = "stop" /\C=T.aP)\/(k = "plain" /\(C=T.cq\/C=T.aY))
def Yac:Sp:=fun vs H Q _=>∃k nm:Str,vs=[.str k,.str nm]/\k∈Zaq/\nm.length<=6/\∀(x C:Addr) (H':Hp),Same H H'->H x=none->X4 T k C->Zdn H' C x nm->Q (.ref x) H'
theorem Zoa:Z2 P w K mg base CX0 3 T.cD.f T.cD.fd ["_law_kind_here", "_law_name"] (Yac T):=by
 refine T.cD.F.okW Zn9 fun a9 A outer s H vs Q E hr h=>?_
 ·obtain ⟨k,nm,rfl,hk,hl,q⟩:=h;intro X;let I10:=fun (σ:St) (H':Hp)=>σ=[some (.str k),some (.str nm)]/\H'=H/\k ≠ "points"
  refine WSs.cut I10 ?_ ?_
  ·refine WS.of (Zx (Zj (r:=Y7 K) (Xc hr) (pv 0) Zg (Zr _)) Zq Zp) (exR rfl (.inl ⟨rfl,_,rfl,Yn (fun hc=>?_) (fun hc=>⟨rfl,rfl,fun z=>hc (by rw [z];simp)⟩)⟩));have hc:k = "points" :=V.str.inj (of_decide_eq_true hc);exact WSs.last (Zo (Zad (Zne T) T.gF (Wa T) hr.m rfl T.gC T.ae.b .nil Z7 (Zt3 T) (Zb (pv 1) Za))) (exR rfl ⟨nm,rfl,fun x H' s1 n1 o=>q x _ H' s1 n1 (.inl ⟨hc,rfl⟩) o⟩)
  rintro σ H1 ⟨rfl,hH1,nk0⟩;rw [hH1];let I11:=fun (σ:St) (H':Hp)=>σ=[some (.str k),some (.str nm)]/\H'=H/\k ≠ "cross"
  refine WSs.cut I11 ?_ ?_
  ·refine WS.of (Zx (Zj (r:=Y7 K) (Xc hr) (pv 0) Zg (Zr _)) Zq Zp) (exR rfl (.inl ⟨rfl,_,rfl,Yn (fun hc=>?_) (fun hc=>⟨rfl,rfl,fun z=>hc (by rw [z];simp)⟩)⟩));have hc:k = "cross" :=V.str.inj (of_decide_eq_true hc);exact WSs.last (Zo (Zad (Zpj T) T.gK (Wa T) hr.m rfl T.gX T.ae.b .nil Z7 (Zvv T) (Zb (pv 1) Za))) (exR rfl ⟨nm,rfl,fun x H' s1 n1 o=>q x _ H' s1 n1 (.inr (.inl ⟨hc,rfl⟩)) o⟩)
  rintro σ H2 ⟨rfl,hH2,nk1⟩;rw [hH2];let I12:=fun (σ:St) (H':Hp)=>σ=[some (.str k),some (.str nm)]/\H'=H/\k ≠ "gate"
  refine WSs.cut I12 ?_ ?_
  ·refine WS.of (Zx (Zj (r:=Y7 K) (Xc hr) (pv 0) Zg (Zr _)) Zq Zp) (exR rfl (.inl ⟨rfl,_,rfl,Yn (fun hc=>?_) (fun hc=>⟨rfl,rfl,fun z=>hc (by rw [z];simp)⟩)⟩));have hc:k = "gate" :=V.str.inj (of_decide_eq_true hc);exact WSs.last (Zo (Zad (Zsc T) T.gW (Wa T) hr.m rfl T.gS T.ae.b .nil Z7 (Zxv T) (Zb (pv 1) Za))) (exR rfl ⟨nm,rfl,fun x H' s1 n1 o=>q x _ H' s1 n1 (.inr (.inr (.inl ⟨hc,rfl⟩))) o⟩)
  rintro σ H3 ⟨rfl,hH3,nk2⟩;rw [hH3];let I13:=fun (σ:St) (H':Hp)=>σ=[some (.str k),some (.str nm)]/\H'=H/\k ≠ "stop"
  refine WSs.cut I13 ?_ ?_
  ·refine WS.of (Zx (Zj (r:=Y7 K) (Xc hr) (pv 0) Zg (Zr _)) Zq Zp) (exR rfl (.inl ⟨rfl,_,rfl,Yn (fun hc=>?_) (fun hc=>⟨rfl,rfl,fun z=>hc (by rw [z];simp)⟩)⟩));have hc:k = "stop" :=V.str.inj (of_decide_eq_true hc);exact WSs.last (Zo (Zad (Zsu T) T.gU (Wa T) hr.m rfl T.gR T.ae.b .nil Z7 (Zyh T) (Zb (pv 1) Za))) (exR rfl ⟨nm,rfl,fun x H' s1 n1 o=>q x _ H' s1 n1 (.inr (.inr (.inr (.inl ⟨hc,rfl⟩)))) o⟩)
  rintro σ H4 ⟨rfl,hH4,nk3⟩;rw [hH4];have hp:k = "plain" :=by
   unfold Zaq at hk;simp only [List.mem_cons,List.mem_nil_iff,or_false] at hk;rcases hk with z|z|z|z|z
   ·exact z
   ·exact absurd z nk0
   ·exact absurd z nk1
   ·exact absurd z nk2
   ·exact absurd z nk3
  exact WSs.last (Zo (Zad (Zpl T) T.gJ (Wa T) hr.m rfl T.gT T.ae.b .nil Z7 (Zwo T) (Zb (pv 1) Za))) (exR rfl ⟨nm,rfl,fun x H' s1 n1 o=>q x _ H' s1 n1 (.inr (.inr (.inr (.inr ⟨hp,.inr rfl⟩)))) o⟩)
section
variable {α β κ:Type} [DecidableEq κ] {f:α->κ} {R R':α->β->V->Prop} {kvs:List (κ×V)} {qs:List (α×β)}
def DP(f:α->κ)(R:α->β->V->Prop)(kvs:List (κ×V))(qs:List (α×β)):Prop:=Paired (fun (kv:κ×V) (q:α×β)=>kv.1=f q.1/\R q.1 q.2 kv.2) kvs qs
theorem DP.none(h:DP f R kvs qs)(inj:∀a b,f a=f b->a=b){a:α}(n:a∉qs.map Prod.fst):Yy kvs (f a)=none:=by
 unfold DP at h
 induction h with
 | nil=>rfl
 | cons r t ih =>
  rw [List.map_cons,List.mem_cons,not_or] at n;rw [Xh (fun z=>n.1 (inj _ _ (r.1.symm.trans z)).symm)];exact ih n.2
theorem DP.get(h:DP f R kvs qs)(inj:∀a b,f a=f b->a=b)(nd:(qs.map Prod.fst).Nodup){a:α}{b:β}(m:(a,b)∈qs):∃v,Yy kvs (f a)=some v/\R a b v:=by
 unfold DP at h
 induction h with
 | nil=>cases m
 | @cons kv q _ _ r t ih =>
  rw [List.map_cons,List.nodup_cons] at nd;rcases List.mem_cons.mp m with z|z
  ·rw [<-z] at r;exact ⟨_,Xq r.1,r.2⟩
  ·have:a≠q.1:=fun e=>nd.1 (by rw [<-e];exact List.mem_map.mpr ⟨_,z,rfl⟩)
   rw [Xh (fun e=>this (inj _ _ (r.1.symm.trans e)).symm)];exact ih nd.2 z
theorem DP.put(h:DP f R kvs qs){a:α}{b:β}(n:Yy kvs (f a)=Option.none)(r:R a b v):DP f R (Wb kvs (f a) v) (qs++[(a,b)]):=by
 rw [Zhx v n];exact Paired.snoc h ⟨rfl,r⟩
theorem DP.len(h:DP f R kvs qs):kvs.length=qs.length:=Paired.length h
theorem DP.mapR(h:DP f R kvs qs)(m:∀a b v,R a b v->R' a b v):DP f R' kvs qs:=Paired.mapP h fun _ _ z=>⟨z.1,m _ _ _ z.2⟩
theorem DP.keys(h:DP f R kvs qs):kvs.map Prod.fst=qs.map fun q=>f q.1:=by
 unfold DP at h
 induction h with
 | nil=>rfl
 | cons r t ih=>rw [List.map_cons,List.map_cons,ih,r.1]
end
def Xe(e:Zc):List Key:=[.inr e.1,.inr e.2]
theorem Ww(a b:Zc)(h:Xe a=Xe b):a=b:=by
 obtain ⟨a1,a2⟩:=a;obtain ⟨b1,b2⟩:=b;unfold Xe at h;simp only [List.cons.injEq,Sum.inr.injEq,and_true] at h;rw [h.1,h.2]
def Z1(s:Str):Key:=.inr s
theorem Y1(a b:Str)(h:Z1 a=Z1 b):a=b:=Sum.inr.inj h
def qP(ps:List Zc):List (Str×Str):=ps.map fun p=>(p.2,p.1)
def qA(ps:List Zc):List (Zc×Str):=ps.flatMap fun p=>(Yt p.1).map fun e=>((p.2,e),p.1)
def qJ(js:List (Zc×Zc)):List (Zc×Zc):=js.flatMap fun j=>[(j.1,j.2),(j.2,j.1)]
def qS(sg:List (Str×Str×Str)):List (Str×Zc):=sg.map fun q=>(q.1,(q.2.1,q.2.2))
def qO(sg:List (Str×Str×Str)):List (Zc×Str):=sg.map fun q=>((q.2.1,q.2.2),q.1)
theorem Zo4(ps:List Zc):(qP ps).map Prod.fst=ps.map Prod.snd:=by unfold qP;rw [List.map_map];rfl
theorem Zn7(ps:List Zc):(qA ps).map Prod.fst=Y5 ps:=by
 unfold qA Y5;rw [List.map_flatMap];simp only [List.map_map]
 rfl
theorem Zan(js:List (Zc×Zc)):(qJ js).map Prod.fst=Xg js:=by
 unfold qJ Xg;rw [List.map_flatMap]
 rfl
theorem Zzd(sg:List (Str×Str×Str)):(qS sg).map Prod.fst=sg.map Prod.fst:=by unfold qS;rw [List.map_map];rfl
theorem Zoz(sg:List (Str×Str×Str)):(qO sg).map Prod.fst=sg.map Prod.snd:=by unfold qO;rw [List.map_map];rfl
def RP(H:Hp):Str->Str->V->Prop:=fun nm k v=>∃x C,v=.ref x/\X4 T k C/\Zdn H C x nm
def RA(H:Hp):Zc->Str->V->Prop:=fun e k v=>∃x C,v=.ref x/\X4 T k C/\Zdn H C x e.1
def RJ(H:Hp):Zc->Zc->V->Prop:=fun _ e v=>∃t,v=.ref t/\Zm H t e
def RS(H:Hp):Str->Zc->V->Prop:=fun _ e v=>∃t,v=.ref t/\Zm H t e
def RO:Zc->Str->V->Prop:=fun _ s v=>v=.str s
theorem Zdn.mono(e:Same H H')(h:Zdn H C x nm):Zdn H' C x nm:=let ⟨dx,z⟩:=h;⟨dx,e.at z⟩
theorem RP.mono(e:Same H H')(a b:Str)(v:V)(h:RP U H a b v):RP U H' a b v:=let ⟨x,C,h1,h2,h3⟩:=h;⟨x,C,h1,h2,h3.mono e⟩
theorem RJ.mono(e:Same H H')(a b:Zc)(v:V)(h:RJ H a b v):RJ H' a b v:=let ⟨t,h1,h2⟩:=h;⟨t,h1,h2.mono e⟩
theorem RS.mono(e:Same H H')(a:Str)(b:Zc)(v:V)(h:RS H a b v):RS H' a b v:=let ⟨t,h1,h2⟩:=h;⟨t,h1,h2.mono e⟩
theorem Zsb(h:Zm H t e):H t=some (.tup ((Xe e).map kV)):=h
abbrev Zwh:Str := "abcdefghijklmnopqrstuvwxyz"
abbrev Yad:Str := "0123456789"
theorem Zyk:∀c,c<128->(!(Builtin.Str.occurrences Zwh ⟨#[c]⟩ 0 Zwh.length 1).isEmpty)=Zjp c:=by trivial
theorem Ybg:∀c,c<128->(!(Builtin.Str.occurrences (Zwh++Yad) ⟨#[c]⟩ 0 (Zwh++Yad).length 1).isEmpty)=anC c:=by trivial
theorem Zuc:Zwh.length+Yad.length<=sizeLine:=by rw [sizeLine_eq];decide +kernel
theorem Zy3(h:anC c=true):c<128:=by
 unfold anC Zjp at h;simp at h;lia
def Zvc:Sp:=fun vs H Q _=>∃s:Str,vs=[.str s]/\W9 s/\∀H',Same H H'->Q (.bl true) H'
theorem Zg9:Z2 P w K mg base CX0 1 T.cW.f T.cW.fd ["thing"] Zvc:=by
 refine T.cW.F.okW Zrz fun a9 A outer s H vs Q E hr h=>?_
 ·obtain ⟨x,rfl,⟨h1,h6,hd,i9⟩,q⟩:=h;intro X;have hx:x.cps.toList.length=x.length:=Array.length_toList;have hasc:∀c∈x.cps.toList,c<128:=fun c hc=>Zy3 (List.all_eq_true.mp i9 c hc)
  obtain ⟨c,cs,K3⟩:∃c cs,x.cps.toList=c ::cs:=by
   cases e:x.cps.toList with
   | nil=>rw [e] at hx;exact absurd hx (by show ¬0=x.length;lia)
   | cons c cs=>exact ⟨c,cs,rfl⟩
  rw [K3] at hd;have hd:Zjp c=true:=hd;refine WSs.step (Zx (W1 (Xl (Zz (r:=Zjq K) Wh (by rfl) T.ay PyProof.Rows.boot_isinstance (Zb (pv 0) (Zb (Zd7 (v:=.ty "str") (by rfl) T.ef PyProof.Rows.boot_str rfl) Za))))) Zq Zp) (exR rfl ⟨_,_,true,_,rfl,Xy.str x,.inl (exR rfl T.iA),_,rfl,Yn (fun z=>absurd z (by decide)) (fun _=>?_)⟩);refine WSs.step (Zx (PW.pt (Zfc (Zj (r:=Y7 K) (Xc hr) (pv 0) Zg (Zr _)) (Zda (Zj Znw (Zz (r:=Zbi K) Zbz (by rfl) T.bL PySem.boot_len (Zb (pv 0) Za)) (Zgb (by rfl) T.ei) (Zr _))))) Zq Zp) (exR rfl (.inl ⟨rfl,_,rfl,Yn (fun z=>?_) (fun _=>(exR rfl (.inr (.inl ⟨x,rfl,sz (by lia),_,_,rfl,rfl,_,rfl,Yn (fun z=>?_) (fun _=>?_)⟩))))⟩))
  ·have:x=("" :Str):=V.str.inj (of_decide_eq_true z);rw [this] at h1;exact absurd h1 (by decide)
  ·have:(6:Int)<(x.length:Int):=of_decide_eq_true z;exact absurd this (by lia)
  refine WSs.last (Zo (Zkh (W0 (r:=Zjt K) (Zk5 hr) (Zv (K:=K) rfl (pv 0) Zd) (Zlx (by rfl) T.fe) (by with_unfolding_all rfl)) (Zq6 (Zz (r:=Ybx K) (Ztl rfl) (by rfl) T.ij PyProof.Rows.boot_all (Zb (Xx (N':=["sign"]) rfl (Z6.std 1 [] rfl (by trivial) (by trivial) rfl trivial rfl rfl trivial) (Zzh (pv 0)) (fun _ _ _ _=>(W6 (i:=0) (by show (["sign"]:List Str).Nodup;decide +kernel))) (fun _ _ _ _=>Za6) (fun _ _ _ _=>(W0 (r:=Zjt K) (Zk5 hr) (pv 0) (Zu W3 (Zlx (by rfl) T.fe) (Zlx (by rfl) T.gE)) (by with_unfolding_all rfl)))) Za))))) (exR rfl (.inr (.inr ⟨x,0,c,rfl,rfl,sz (by lia),by rw [K3];exact Yh (j:=0) rfl,.inr (.inr (.inl (exQ rfl rfl (exR rfl ?_))))⟩)));rw [Zyk c (hasc c (by rw [K3];exact List.mem_cons_self)),hd];refine Ze3 ⟨_,rfl,x,rfl,?_,fun D hD=>?_⟩
  ·rw [Array.all_eq_true'];exact fun c hc=>decide_eq_true (hasc c (Array.mem_toList_iff.mpr hc))
  refine Zvs (fun i ys H'=>ys=(x.cps.toList.take i).map (fun c=>V.bl (anC c))/\H' D=some (.lst ys)/\Same H H') ⟨rfl,Zf,fun b' o e=>by rw [Ze (Zh e hD)];exact e⟩ ?_ ?_
  ·rintro i c' ys H' hi ⟨rfl,p8,sm⟩;have hi':x.cps.toList[i]? =some c':=by simpa using hi
   have S9:c'<128:=hasc c' (List.mem_of_getElem? hi');refine ⟨Wp.set rfl,_,rfl,.inr (.inl ⟨_,_,rfl,rfl,Zuc,.inr (.inr (.inl ⟨_,_,rfl,rfl,p8,?_,?_⟩))⟩)⟩
   ·rw [List.length_map,List.length_take,sizeLine_eq];lia
   ·rw [Ybg c' S9];refine ⟨?_,Zf,fun b' o e=>?_⟩
    ·rw [List.take_add_one,hi'];simp
    ·rw [Ze (Zh e hD)];exact sm b' o e
  ·rintro ys H' ⟨rfl,p8,sm⟩;refine ⟨D,(x.cps.toList.map anC),rfl,?_,?_⟩
   ·have e:(List.map anC x.cps.toList).map V.bl=List.map (fun c=>V.bl (anC c)) (List.take x.cps.size x.cps.toList):=by
     rw [List.map_map,List.take_of_length_le (by simp)]
     rfl
    rw [e];exact SqL.of p8
   ·have e:(List.map anC x.cps.toList).all id=true:=by rw [List.all_map];exact i9
    rw [e];exact q H' sm
def Yaq:Sp:=fun vs H Q _=>∃(s:Str) (d:Addr) (kvs:List (Key×V)),vs=[.str s,.ref d]/\W9 s/\H d=some (.dK kvs)/\Yy kvs (Z1 s)=none/\∀H',Same H H'->Q .non H'
theorem Zcf:Z2 P w K mg base CX0 2 T.bN.f T.bN.fd ["name", "known"] Yaq:=by
 refine T.bN.F.okW Zk6 fun a9 A outer s H vs Q E hr h=>?_
 ·obtain ⟨x,d,kvs,rfl,hn,hd,hv,q⟩:=h;intro X;refine WSs.step (Zx (W1 (Xl (Ye (Zg9 T) hr T.dw (Zb (pv 0) Za)))) Zq Zp) (exR rfl ⟨x,rfl,hn,fun H1 s1=>(exR rfl (Yn (fun z=>absurd z (by decide)) (fun _=>?_)))⟩);refine WSs.last (Zx (Zj (r:=Zjt K) (Zk5 hr) (pv 0) (pv 1) (by with_unfolding_all rfl)) Zq Zp) (exR rfl (exR rfl (.inr (.inl ⟨d,_,rfl,Wc.k (k:=Z1 x) (s1.at hd),_,rfl,Yn (fun z=>?_) (fun _=>q H1 s1)⟩))));rw [hv] at z;exact absurd z (by decide)
def Zcs(k:Str):List Str:=if k = "points" then ["left", "right"] else [""]
def Zip(k lie:Str):List (Str×Str):=if k = "points" then [("stem",lie)] else if k = "cross" then [("a", "b"),("c", "d")] else if k = "plain" then [("a", "b")] else [("", "a")]
def Zq1(k:Str):Bool:=decide (k∈[("plain" :Str), "gate", "stop"])
def Zcw(e:Str):List (Str×Str)->Str
 | [] => ""
 | (one,two) ::r=>if e=one then two else if e=two then one else Zcw e r
def Xs(k e lie:Str):Str:=if lie∈Zcs k then Zcw e (Zip k lie) else ""
def Ybo(H:Hp)(p:Addr)(l:List (Str×Str)):Prop:=∃as:List Addr,H p=some (.lst (as.map V.ref))/\Paired (fun a (q:Str×Str)=>H a=some (.tup [.str q.1,.str q.2])) as l
def spL(xs:List V):Sp:=fun vs H Q _=>∃v,vs=[v]/\∀p H',Same H H'->H p=none->H' p=some (.lst xs)->Q (.ref p) H'
def spP(f:Str->List (Str×Str)):Sp:=fun vs H Q _=>∃v lie,vs=[v,.str lie]/\∀p H',Same H H'->Ybo H' p (f lie)->Q (.ref p) H'
def spB(b:Bool):Sp:=fun vs H Q _=>∃v,vs=[v]/\Q (.bl b) H
theorem Zhn:Z2 P w K mg base CX0 1 T.aU.f T.aU.fd ["self"] (spL ((["a", "b"]:List Str).map V.str)):=by
 refine T.aU.F.okW Zoc fun a9 A outer s H vs Q E hr h=>?_
 ·obtain ⟨v,rfl,k⟩:=h;intro X;exact WSs.last (Zo (Zt (Zb Zg (Zb Zg Za)))) ⟨szA,k⟩
theorem Zaj:Z2 P w K mg base CX0 1 T.am.f T.am.fd ["self"] (spL (([""]:List Str).map V.str)):=by
 refine T.am.F.okW Zn4 fun a9 A outer s H vs Q E hr h=>?_
 ·obtain ⟨v,rfl,k⟩:=h;intro X;exact WSs.last (Zo (Zt (Zb Zg Za))) ⟨szA,k⟩
theorem Zgl:Z2 P w K mg base CX0 1 T.aM.f T.aM.fd ["self", "lie"] (spP fun lie=>[("a", "b")]):=by
 refine T.aM.F.okW Zmx fun a9 A outer s H vs Q E hr h=>?_
 ·obtain ⟨v,lie,rfl,k⟩:=h;intro X;exact WSs.last (Zo (Zt (Zb (Zk (Zb Zg (Zb Zg Za))) Za))) ⟨szA,fun p1 H1 s1 n1 e1=>⟨szA,fun p2 H2 s2 n2 e2=>k p2 H2 (s1.trans s2) ⟨[p1],e2,.cons (s2.at e1) .nil⟩⟩⟩
theorem Zbc:Z2 P w K mg base CX0 1 T.ar.f T.ar.fd ["self"] (spB true):=by
 refine T.ar.F.okW Zmh fun a9 A outer s H vs Q E hr h=>?_
 ·obtain ⟨v,rfl,k⟩:=h;intro X;exact WSs.last (Zo Zi5) k
theorem Zh1:Z2 P w K mg base CX0 1 T.aV.f T.aV.fd ["self"] (spL ((["a"]:List Str).map V.str)):=by
 refine T.aV.F.okW Zoi fun a9 A outer s H vs Q E hr h=>?_
 ·obtain ⟨v,rfl,k⟩:=h;intro X;exact WSs.last (Zo (Zt (Zb Zg Za))) ⟨szA,k⟩
theorem Zgi:Z2 P w K mg base CX0 1 T.aN.f T.aN.fd ["self", "lie"] (spP fun lie=>[("", "a")]):=by
 refine T.aN.F.okW Zmu fun a9 A outer s H vs Q E hr h=>?_
 ·obtain ⟨v,lie,rfl,k⟩:=h;intro X;exact WSs.last (Zo (Zt (Zb (Zk (Zb Zg (Zb Zg Za))) Za))) ⟨szA,fun p1 H1 s1 n1 e1=>⟨szA,fun p2 H2 s2 n2 e2=>k p2 H2 (s1.trans s2) ⟨[p1],e2,.cons (s2.at e1) .nil⟩⟩⟩
theorem Zlh:Z2 P w K mg base CX0 1 T.bg.f T.bg.fd ["self"] (spL ((["stem", "left", "right"]:List Str).map V.str)):=by
 refine T.bg.F.okW Zlt fun a9 A outer s H vs Q E hr h=>?_
 ·obtain ⟨v,rfl,k⟩:=h;intro X;exact WSs.last (Zo (Zt (Zb Zg (Zb Zg (Zb Zg Za))))) ⟨szA,k⟩
theorem Zlb:Z2 P w K mg base CX0 1 T.bh.f T.bh.fd ["self"] (spL ((["left", "right"]:List Str).map V.str)):=by
 refine T.bh.F.okW Zlz fun a9 A outer s H vs Q E hr h=>?_
 ·obtain ⟨v,rfl,k⟩:=h;intro X;exact WSs.last (Zo (Zt (Zb Zg (Zb Zg Za)))) ⟨szA,k⟩
theorem Zjw:Z2 P w K mg base CX0 1 T.aW.f T.aW.fd ["self", "lie"] (spP fun lie=>[("stem",lie)]):=by
 refine T.aW.F.okW Zjf fun a9 A outer s H vs Q E hr h=>?_
 ·obtain ⟨v,lie,rfl,k⟩:=h;intro X;exact WSs.last (Zo (Zt (Zb (Zk (Zb Zg (Zb (pv 1) Za))) Za))) (exR rfl ⟨szA,fun p1 H1 s1 n1 e1=>⟨szA,fun p2 H2 s2 n2 e2=>k p2 H2 (s1.trans s2) ⟨[p1],e2,.cons (s2.at e1) .nil⟩⟩⟩)
theorem Zjx:Z2 P w K mg base CX0 1 T.aX.f T.aX.fd ["self"] (spB false):=by
 refine T.aX.F.okW Zjo fun a9 A outer s H vs Q E hr h=>?_
 ·obtain ⟨v,rfl,k⟩:=h;intro X;exact WSs.last (Zo Zi5) k
theorem Zma:Z2 P w K mg base CX0 1 T.bD.f T.bD.fd ["self"] (spL ((["a", "b", "c", "d"]:List Str).map V.str)):=by
 refine T.bD.F.okW Zmq fun a9 A outer s H vs Q E hr h=>?_
 ·obtain ⟨v,rfl,k⟩:=h;intro X;exact WSs.last (Zo (Zt (Zb Zg (Zb Zg (Zb Zg (Zb Zg Za)))))) ⟨szA,k⟩
theorem Zkd:Z2 P w K mg base CX0 1 T.bi.f T.bi.fd ["self", "lie"] (spP fun lie=>[("a", "b"),("c", "d")]):=by
 refine T.bi.F.okW Zkv fun a9 A outer s H vs Q E hr h=>?_
 ·obtain ⟨v,lie,rfl,k⟩:=h;intro X;exact WSs.last (Zo (Zt (Zb (Zk (Zb Zg (Zb Zg Za))) (Zb (Zk (Zb Zg (Zb Zg Za))) Za)))) ⟨szA,fun p1 H1 s1 n1 e1=>⟨szA,fun p2 H2 s2 n2 e2=>⟨szA,fun p3 H3 s3 n3 e3=>k p3 H3 (s1.trans (s2.trans s3)) ⟨[p1,p2],e3,.cons (s3.at (s2.at e1)) (.cons (s3.at e2) .nil)⟩⟩⟩⟩
theorem Zky:Z2 P w K mg base CX0 1 T.bn.f T.bn.fd ["self"] (spB false):=by
 refine T.bn.F.okW Zlj fun a9 A outer s H vs Q E hr h=>?_
 ·obtain ⟨v,rfl,k⟩:=h;intro X;exact WSs.last (Zo Zi5) k
theorem X4.ends{T:Tx K mg}{k:Str}{C:Addr}(h:X4 T k C):∃f fd,Z4 K C "ends" f/\Zau K fd ["self"] []/\∀(P:Program) (w:World) (base:Heap) (j:Nat),1<=j->Z2 P w K mg base CX0 j f fd ["self"] (spL ((Yt k).map V.str)):=by
 rcases h with ⟨rfl,rfl⟩|⟨rfl,rfl⟩|⟨rfl,rfl⟩|⟨rfl,rfl⟩|⟨rfl,rfl|rfl⟩
 ·exact ⟨_,_,T.eR,T.bg.b,fun P w base j hj=>(Zlh T).mono hj⟩
 ·exact ⟨_,_,T.fL,T.bD.b,fun P w base j hj=>(Zma T).mono hj⟩
 ·exact ⟨_,_,T.gi,T.aV.b,fun P w base j hj=>(Zh1 T).mono hj⟩
 ·exact ⟨_,_,T.gg,T.aV.b,fun P w base j hj=>(Zh1 T).mono hj⟩
 ·exact ⟨_,_,T.ge,T.aU.b,fun P w base j hj=>(Zhn T).mono hj⟩
 ·exact ⟨_,_,T.fA,T.aU.b,fun P w base j hj=>(Zhn T).mono hj⟩
theorem X4.lies{T:Tx K mg}{k:Str}{C:Addr}(h:X4 T k C):∃f fd,Z4 K C "lies" f/\Zau K fd ["self"] []/\∀(P:Program) (w:World) (base:Heap) (j:Nat),1<=j->Z2 P w K mg base CX0 j f fd ["self"] (spL ((Zcs k).map V.str)):=by
 rcases h with ⟨rfl,rfl⟩|⟨rfl,rfl⟩|⟨rfl,rfl⟩|⟨rfl,rfl⟩|⟨rfl,rfl|rfl⟩
 ·exact ⟨_,_,T.eS,T.bh.b,fun P w base j hj=>(Zlb T).mono hj⟩
 ·exact ⟨_,_,T.fM,T.am.b,fun P w base j hj=>(Zaj T).mono hj⟩
 ·exact ⟨_,_,T.gj,T.am.b,fun P w base j hj=>(Zaj T).mono hj⟩
 ·exact ⟨_,_,T.gh,T.am.b,fun P w base j hj=>(Zaj T).mono hj⟩
 ·exact ⟨_,_,T.gf,T.am.b,fun P w base j hj=>(Zaj T).mono hj⟩
 ·exact ⟨_,_,T.fB,T.am.b,fun P w base j hj=>(Zaj T).mono hj⟩
theorem X4.pairs{T:Tx K mg}{k:Str}{C:Addr}(h:X4 T k C):∃f fd,Z4 K C "pairs" f/\Zau K fd ["self", "lie"] []/\∀(P:Program) (w:World) (base:Heap) (j:Nat),1<=j->Z2 P w K mg base CX0 j f fd ["self", "lie"] (spP (Zip k)):=by
 rcases h with ⟨rfl,rfl⟩|⟨rfl,rfl⟩|⟨rfl,rfl⟩|⟨rfl,rfl⟩|⟨rfl,rfl|rfl⟩
 ·exact ⟨_,_,T.dX,T.aW.b,fun P w base j hj=>(Zjw T).mono hj⟩
 ·exact ⟨_,_,T.eT,T.bi.b,fun P w base j hj=>(Zkd T).mono hj⟩
 ·exact ⟨_,_,T.fH,T.aN.b,fun P w base j hj=>(Zgi T).mono hj⟩
 ·exact ⟨_,_,T.fE,T.aN.b,fun P w base j hj=>(Zgi T).mono hj⟩
 ·exact ⟨_,_,T.fo,T.aM.b,fun P w base j hj=>(Zgl T).mono hj⟩
 ·exact ⟨_,_,T.eO,T.aM.b,fun P w base j hj=>(Zgl T).mono hj⟩
theorem X4.bears{T:Tx K mg}{k:Str}{C:Addr}(h:X4 T k C):∃f fd,Z4 K C "bears" f/\Zau K fd ["self"] []/\∀(P:Program) (w:World) (base:Heap) (j:Nat),1<=j->Z2 P w K mg base CX0 j f fd ["self"] (spB (Zq1 k)):=by
 rcases h with ⟨rfl,rfl⟩|⟨rfl,rfl⟩|⟨rfl,rfl⟩|⟨rfl,rfl⟩|⟨rfl,rfl|rfl⟩
 ·exact ⟨_,_,T.dY,T.aX.b,fun P w base j hj=>(Zjx T).mono hj⟩
 ·exact ⟨_,_,T.eU,T.bn.b,fun P w base j hj=>(Zky T).mono hj⟩
 ·exact ⟨_,_,T.fJ,T.ar.b,fun P w base j hj=>(Zbc T).mono hj⟩
 ·exact ⟨_,_,T.fF,T.ar.b,fun P w base j hj=>(Zbc T).mono hj⟩
 ·exact ⟨_,_,T.fw,T.ar.b,fun P w base j hj=>(Zbc T).mono hj⟩
 ·exact ⟨_,_,T.eP,T.ar.b,fun P w base j hj=>(Zbc T).mono hj⟩
theorem X4.cls{T:Tx K mg}{k:Str}{C:Addr}(h:X4 T k C):Cls K C/\Xf K C "name" /\Z4 K C "leads" T.aq.f:=by
 rcases h with ⟨rfl,rfl⟩|⟨rfl,rfl⟩|⟨rfl,rfl⟩|⟨rfl,rfl⟩|⟨rfl,rfl|rfl⟩
 ·exact ⟨T.cV,T.df,T.dZ⟩
 ·exact ⟨T.dg,T.dD,T.eV⟩
 ·exact ⟨T.dU,T.dW,T.fK⟩
 ·exact ⟨T.dR,T.dS,T.fG⟩
 ·exact ⟨T.fk,T.gq,T.fz⟩
 ·exact ⟨T.de,T.dC,T.eQ⟩
theorem X4.stop{T:Tx K mg}{k:Str}{C x:Addr}{nm:Str}{H:Hp}(h:X4 T k C)(o:Zdn H C x nm):∃t,Xy K H (.ref x) t/\kitOne K t (.ref T.aP)=some (decide (k = "gate" \/k = "stop")):=by
 obtain ⟨dx,o⟩:=o;rcases h with ⟨rfl,rfl⟩|⟨rfl,rfl⟩|⟨rfl,rfl⟩|⟨rfl,rfl⟩|⟨rfl,rfl|rfl⟩
 ·exact ⟨_,Xy.ins o T.cV T.er T.tG T.tK T.et,T.gO⟩
 ·exact ⟨_,Xy.ins o T.dg T.fT T.tG T.tK T.fU,T.hV⟩
 ·exact ⟨_,Xy.ins o T.dU T.gA T.tG T.tK T.gB,T.ip⟩
 ·exact ⟨_,Xy.ins o T.dR T.gy T.tG T.tK T.gz,T.io⟩
 ·exact ⟨_,Xy.ins o T.fk T.gw T.tG T.tK T.gx,T.il⟩
 ·exact ⟨_,Xy.ins o T.de T.fR T.tG T.tK T.fS,T.hU⟩
def Zxn:Sp:=fun vs H Q _=>∃(k:Str) (a C:Addr) (nm e l:Str),vs=[.ref a,.str e,.str l]/\X4 T k C/\Zdn H C a nm/\∀H',Same H H'->Q (.str (Xs k e l)) H'
theorem Zml:Z2 P w K mg base CX0 2 T.aq.f T.aq.fd ["self", "end", "lie"] (Zxn T):=by
 refine T.aq.F.okW Zdy fun a9 A outer s H vs Q E hr h=>?_
 ·obtain ⟨k,a,C,nm,e,l,rfl,hC,⟨dx,ha⟩,q⟩:=h;intro X;obtain ⟨f1,d1,m1,b1,g1⟩:=hC.lies;obtain ⟨f2,d2,m2,b2,g2⟩:=hC.pairs;have cC:=hC.cls.1;refine WSs.step (Zx (Zj (r:=Zbd K) (Zb4 hr) (pv 2) Zu9 (by with_unfolding_all rfl)) Zq Zp) (exR rfl (WE.of (Yv (pv 0) cC m1 (g1 _ _ _ 1 (by decide)) hr b1 .nil Z7) (exR rfl ⟨a,dx,_,rfl,ha,rfl,_,rfl,fun p H1 s1 n1 e1=>.inl ⟨p,_,rfl,.inl (SqL.of e1),rfl,Wg _,_,rfl,?_⟩⟩)));rw [if_pos rfl,Xp];refine Yn (fun hc=>?_) (fun hc=>?_)
  ·have hc:¬l∈Zcs k:=by simpa using hc
   refine WSs.last (Zo Zg) ?_;have:Xs k e l = "" :=by unfold Xs;rw [if_neg hc]
   rw [this] at q;exact q H1 s1
  ·have hc:l∈Zcs k:=by simpa using hc
   refine WSs.step (Xn PassesOwn.never rfl (Ym Zu9) (Wr rfl (Zw (Yw (i:=3) Zdy.nd) (Zw (Yw (i:=4) Zdy.nd) Xb))) Zq) (WE.of (Y0 (pv 0) cC m2 (g2 _ _ _ 1 (by decide)) hr b2 .nil Z7 (Zb (pv 2) Za)) (exR rfl ⟨a,dx,_,rfl,s1.at ha,rfl,_,rfl,_,l,rfl,fun p2 H2 s2 e2=>?_⟩));obtain ⟨as,h1,h2⟩:=e2;let I14:=fun (i:Nat) (σ:St) (H':Hp)=>(∃o3 o4,σ=[some (.ref a),some (.str e),some (.str l),o3,o4])/\Same H2 H'/\Zcw e ((Zip k l).drop i)=Xs k e l
   refine ⟨p2,rfl,⟨_,SqL.of h1⟩,X0 (xs:=as.map V.ref) I14 ?_ ?_ ?_ ?_⟩
   ·refine ⟨⟨none,none,rfl⟩,Same.refl _,?_⟩;unfold Xs;rw [if_pos hc]
    rfl
   ·rintro i σ H' _ ⟨_,s3,_⟩;exact SqL.of (s3.at h1)
   ·rintro i x σ H' hx ⟨⟨o3,o4,rfl⟩,s3,hs⟩;rw [List.getElem?_map] at hx;obtain ⟨ai,hai,rfl⟩:=Option.map_eq_some_iff.mp hx;obtain ⟨⟨one,two⟩,hq,ht⟩:=Paired.get h2 hai;rw [Zk8 hq] at hs;refine ⟨ai,_,rfl,SqT.of (s3.at ht),rfl,_,_,rfl,_,_,rfl,rfl,?_⟩;refine WSs.step (Zx (Zj (r:=Y7 K) (Xc hr) (pv 1) (pv 3) (Zr _)) Zq Zp) (exR rfl (exR rfl (.inl ⟨rfl,_,rfl,Yn (fun hc=>?_) (fun hc=>?_)⟩)))
    ·have hc:e=one:=V.str.inj (of_decide_eq_true hc);refine WSs.last (Zo (pv 4)) (exR rfl ?_);unfold Zcw at hs;rw [if_pos hc] at hs;rw [<-hs] at q;exact q _ (s1.trans (s2.trans s3))
    ·have hc:¬e=one:=fun z=>hc (decide_eq_true (by rw [z]))
     refine WSs.last (Zx (Zj (r:=Y7 K) (Xc hr) (pv 1) (pv 4) (Zr _)) Zq Zp) (exR rfl (exR rfl (.inl ⟨rfl,_,rfl,Yn (fun R5=>?_) (fun R5=>?_)⟩)))
     ·have R5:e=two:=V.str.inj (of_decide_eq_true R5);refine WSs.last (Zo (pv 3)) (exR rfl ?_);unfold Zcw at hs;rw [if_neg hc,if_pos R5] at hs;rw [<-hs] at q;exact q _ (s1.trans (s2.trans s3))
     ·have R5:¬e=two:=fun z=>R5 (decide_eq_true (by rw [z]))
      unfold Zcw at hs;rw [if_neg hc,if_neg R5] at hs;exact ⟨⟨_,_,rfl⟩,s3,hs⟩
   ·rintro σ H' ⟨_,s3,hs⟩;refine WSs.last (Zo Zg) ?_;have e0:(Zip k l).drop (as.map V.ref).length=[]:=by rw [List.length_map,Paired.length h2,List.drop_length]
    rw [e0] at hs;rw [<-hs] at q;exact q _ (s1.trans (s2.trans s3))
theorem _root_.L2.Same.upd0(s:Same H H')(n:H d=none):Same H (upd H' d o):=fun b u e=>by rw [Ze (Zh e n)];exact s.at e
def PO(H:Hp)(x:Addr)(p:Zc):Prop:=∃C,X4 T p.1 C/\Zdn H C x p.2
theorem PO.mono(e:Same H H')(h:PO U H x p):PO U H' x p:=let ⟨C,h1,h2⟩:=h;⟨C,h1,h2.mono e⟩
def Ych:Sp:=fun vs H Q _=>∃(l:Addr) (xs:List Addr) (ps:List Zc),vs=[.ref l]/\H l=some (.lst (xs.map V.ref))/\Paired (PO T H) xs ps/\(ps.map Prod.snd).Nodup/\(∀p∈ps,W9 p.2)/\ps.length<=100 /\
 ∀(d:Addr) (kvs:List (Key×V)) (H':Hp),Same H H'->H d=none->H' d=some (.dK kvs)->DP Z1 (RP T H) kvs (qP ps)->Q (.ref d) H'
theorem Zii:Z2 P w K mg base CX0 3 T.bu.f T.bu.fd ["parts"] (Ych T):=by
 refine T.bu.F.okW Za4 fun a9 A outer s H vs Q E hr h=>?_
 ·obtain ⟨l,xs,ps,rfl,hl,hx,nd,nm,len,q⟩:=h;intro X;have hxl:=Paired.length hx;refine WSs.step (Zy (i:=1) Za4.nd Zb8) fun d H1 s1 n1 e1=>?_
  let I15:=fun (i:Nat) (σ:St) (H':Hp)=>(∃o,σ=[some (.ref l),some (.ref d),o])/\Same H H'/\∃kvs,H' d=some (.dK kvs)/\DP Z1 (RP T H) kvs (qP (ps.take i))
  refine WSs.step (Xn PassesOwn.never rfl (Ym (pv 0)) (Yw (i:=2) Za4.nd) Zq) (exR rfl ⟨l,rfl,⟨_,SqL.of (s1.at hl)⟩,X0 (K:=K) (xs:=xs.map V.ref) I15 ⟨⟨none,rfl⟩,s1,[],e1,.nil⟩ ?_ ?_ ?_⟩)
  ·rintro i σ H' _ ⟨_,s2,_⟩;exact SqL.of (s2.at hl)
  ·rintro i v σ H2 hi ⟨⟨o,rfl⟩,s2,kvs,hd,hD⟩;rw [List.getElem?_map] at hi;obtain ⟨x,hxi,rfl⟩:=Option.map_eq_some_iff.mp hi;obtain ⟨p,hp,C,hC,dx,hO⟩:=Paired.get hx hxi;have hm:p∈ps:=List.mem_of_getElem? hp;have R8:=(List.getElem?_eq_some_iff.mp hp).1;have hn:Yy kvs (Z1 p.2)=none:=hD.none Y1 (by
    rw [Zo4,List.map_take];exact Zj9 nd (by rw [List.getElem?_map,hp];rfl))
   have hkl:kvs.length<=100:=by
    have:=hD.len;unfold qP at this;rw [List.length_map,List.length_take] at this;lia
   refine WSs.step (Yi (Ye (Zcf T) hr T.cJ (Zb (Yd (pv 2) rfl) (Zb (pv 1) Za)))) (exR rfl ⟨x,C,dx,_,_,rfl,s2.at hO,hC.cls.1,hC.cls.2.1,rfl,_,rfl,p.2,d,kvs,rfl,nm p hm,hd,hn,fun H3 s3=>?_⟩);have g9:=s2.trans s3;refine WSs.last (Wi (Y8 hr) (pv 1) (Yd (pv 2) rfl) (pv 2) rfl) (exR rfl (exR rfl (exR rfl ⟨x,C,dx,_,_,rfl,g9.at hO,hC.cls.1,hC.cls.2.1,rfl,d,_,rfl,Zdz.k (k:=Z1 p.2) (s3.at hd) (Zs (by lia)),⟨_,rfl⟩,g9.upd0 n1,_,Zf,?_⟩)));have:qP (ps.take (i+1))=qP (ps.take i)++[(p.2,p.1)]:=by
    unfold qP;rw [List.take_add_one,hp,List.map_append]
    rfl
   rw [this];exact hD.put hn ⟨x,C,rfl,hC,dx,hO⟩
  ·rintro σ H2 ⟨⟨o,rfl⟩,s2,kvs,hd,hD⟩;rw [List.length_map,hxl,List.take_length] at hD;exact WSs.last (Zo (pv 1)) (exR rfl (q d kvs H2 s2 n1 hd hD))
theorem _root_.L2.Same.frz(s:Same H H1):Same (upd H d u) (upd H1 d u):=fun b o e=>by
 by_cases z:b=d
 ·rw [z,Zf] at e ⊢;exact e
 ·rw [Ze z] at e ⊢;exact s.at e
def Ybq:Sp:=fun vs H Q _=>∃(d:Addr) (kvs:List (Key×V)) (ps:List Zc),vs=[.ref d]/\H d=some (.dK kvs)/\DP Z1 (RP T H) kvs (qP ps)/\(ps.map Prod.snd).Nodup/\ps.length<=100 /\
 ∀(a:Addr) (ka:List (List Key×V)) (H':Hp),Same H H'->H a=none->H' a=some (.dT ka)->DP Xe (RA T H) ka (qA ps)->Q (.ref a) H'
theorem Zuv(ps:List Zc):(qA ps).length<=4 * ps.length:=by
 induction ps with
 | nil=>decide
 | cons p ps ih =>
  have:=Zj7 p.1;have e:qA (p ::ps)=(Yt p.1).map (fun e=>((p.2,e),p.1))++qA ps:=rfl;rw [e,List.length_append,List.length_map,List.length_cons];lia
theorem Zr5{ps:List Zc}{i:Nat}{p:Zc}(h:ps[i]? =some p):qA (ps.take (i+1))=qA (ps.take i)++(Yt p.1).map fun e=>((p.2,e),p.1):=by
 unfold qA;rw [List.take_add_one,h,List.flatMap_append];simp
theorem Zir:Z2 P w K mg base CX0 2 T.bv.f T.bv.fd ["part_of"] (Ybq T):=by
 refine T.bv.F.okW X8 fun a9 A outer s H vs Q E hr h=>?_
 ·obtain ⟨d,kvs,ps,rfl,hd,hD,nd,len,q⟩:=h;intro X;have hkl:kvs.length=ps.length:=by have:=hD.len;unfold qP at this;rw [List.length_map] at this;exact this
  refine WSs.step (Zy (i:=1) X8.nd Znf) fun a H1 s1 n1 e1=>?_
  have had:a≠d:=fun z=>by rw [z,hd] at n1;cases n1
  refine WSs.step (Zpa (Xn PassesOwn.never rfl (Zpr (pv 0)) (Wr rfl (Zw (Yw (i:=2) X8.nd) (Zw (Yw (i:=3) X8.nd) Xb))) Zq)) (exR rfl ⟨d,_,rfl,s1.at hd,fun o nf=>Zt5 (fun i σ H'=>(∃o2 o3 o4,σ=[some (.ref d),some (.ref a),o2,o3,o4])/\Same (upd H d (.frz o (.dK kvs))) H'/\∃ka,H' a=some (.dT ka)/\DP Xe (RA T H) ka (qA (ps.take i))) ⟨⟨none,none,none,rfl⟩,s1.frz,[],by rw [Ze had];exact e1,.nil⟩ ?_ ?_ ?_⟩)
  ·rintro i σ H' _ ⟨_,s2,_⟩;exact s2.at Zf
  ·rintro i kv σ H2 hi ⟨⟨o2,o3,o4,rfl⟩,s2,ka,ha,hA⟩ tp H3 s3 n3 e3;obtain ⟨⟨nm,kd⟩,hq,hk,x,C,hv,hC,dx,hO⟩:=Paired.get hD hi;have hp:ps[i]? =some (kd,nm):=by
    unfold qP at hq;rw [List.getElem?_map] at hq;obtain ⟨⟨p1,p2⟩,hp,e⟩:=Option.map_eq_some_iff.mp hq;rw [hp];simp only [Prod.mk.injEq] at e;rw [e.1,e.2]
   have R8:=(List.getElem?_eq_some_iff.mp hp).1;have hxd:x≠d:=fun z=>by rw [z,hd] at hO;cases hO
   have hOF:upd H d (.frz o (.dK kvs)) x=some (.ins C dx [("name",.str nm)]):=by rw [Ze hxd];exact hO
   obtain ⟨f1,d1,m1,b1,g1⟩:=hC.ends;have hk:kv.1=Sum.inr nm:=hk;rw [hk,hv] at e3;have hFa:upd H d (.frz o (.dK kvs)) a=none:=by rw [Ze had];exact n1
   refine ⟨tp,_,rfl,SqT.of e3,rfl,_,_,rfl,_,_,rfl,rfl,?_⟩;have s23:=s2.trans s3;refine WSs.last (Xn PassesOwn.never rfl (Ym Zu9) (Yw (i:=4) X8.nd) Zq) (WE.of (Yv (pv 3) hC.cls.1 m1 (g1 _ _ _ 1 (by decide)) hr b1 .nil Z7) (exR rfl ⟨x,dx,_,rfl,s23.at hOF,rfl,_,rfl,fun p H4 s4 n4 e4=>⟨p,rfl,⟨_,SqL.of e4⟩,X0 (K:=K) (xs:=(Yt kd).map V.str) (fun j σ H'=>(∃o4,σ=[some (.ref d),some (.ref a),some (.str nm),some (.ref x),o4])/\Same (upd H d (.frz o (.dK kvs))) H'/\H' p=some (.lst ((Yt kd).map V.str))/\∃ka,H' a=some (.dT ka)/\DP Xe (RA T H) ka (qA (ps.take i)++((Yt kd).take j).map fun e=>((nm,e),kd))) ⟨⟨_,rfl⟩,s23.trans s4,e4,ka,s4.at (s3.at ha),by rw [List.take_zero,List.map_nil,List.append_nil];exact hA⟩ ?_ ?_ ?_⟩⟩))
   ·rintro j σ H' _ ⟨_,_,z,_⟩;exact SqL.of z
   ·rintro j v σ H5 hj ⟨⟨o4,rfl⟩,s5,hp5,ka5,ha5,hA5⟩;rw [List.getElem?_map] at hj;obtain ⟨e,he,rfl⟩:=Option.map_eq_some_iff.mp hj;have hlen5:ka5.length<=500:=by
     have h1:=hA5.len;have h2:=Zuv (ps.take i);have h3:=Zj7 kd;rw [List.length_append,List.length_map,List.length_take] at h1;rw [List.length_take] at h2;lia
    have i5:Yy ka5 (Xe (nm,e))=none:=hA5.none Ww (by
     have h1:(Y5 (ps.take (i+1))).Nodup:=Za9 (by rw [List.map_take];exact nd.sublist (List.take_sublist _ _));rw [<-Zn7,Zr5 hp,List.map_append] at h1;rw [List.map_append];have ed:Yt kd=(Yt kd).take j++(e ::(Yt kd).drop (j+1)):=by rw [<-Zk8 he,List.take_append_drop]
     rw [show ((kd,nm):Zc).1=kd from rfl,ed,List.map_append,List.map_append,List.map_cons,List.map_cons,<-List.append_assoc,List.nodup_append] at h1;intro m;exact h1.2.2 _ m _ List.mem_cons_self rfl)
    refine WSs.last (Wi (Y8 hr) (pv 1) (Zk (Zb (pv 2) (Zb (pv 4) Za))) (pv 3) rfl) (exR rfl (exR rfl (exR rfl (exR rfl ⟨szA,fun t H6 s6 n6 e6=>⟨a,_,rfl,Zdz.t (k:=Xe (nm,e)) (s6.at ha5) e6 (Zs (by lia)),⟨_,rfl⟩,(s5.trans s6).upd0 hFa,?_,_,Zf,?_⟩⟩))))
    ·rw [Ze (Zyw hp5 ha5 (fun z=>nomatch z))];exact s6.at hp5
    ·have:((Yt kd).take (j+1)).map (fun e=>((nm,e),kd))=((Yt kd).take j).map (fun e=>((nm,e),kd))++[((nm,e),kd)]:=by
      rw [List.take_add_one,he,List.map_append]
      rfl
     rw [this,<-List.append_assoc];exact hA5.put i5 ⟨x,C,rfl,hC,dx,hO⟩
   ·rintro σ H5 ⟨⟨o4,rfl⟩,s5,hp5,ka5,ha5,hA5⟩;rw [List.length_map,List.take_length] at hA5;refine ⟨⟨_,_,_,rfl⟩,s5,ka5,ha5,?_⟩;rw [Zr5 hp];exact hA5
  ·rintro σ H2 ⟨⟨o2,o3,o4,rfl⟩,s2,ka,ha,hA⟩;rw [hkl,List.take_length] at hA;refine ⟨d,o,_,s2.at Zf,nf,WSs.last (Zo (pv 1)) ⟨_,rfl,q a ka _ (s2.thaw hd) n1 ?_ hA⟩⟩;rw [Ze had];exact ha
def Zzb:Sp:=fun vs H Q _=>∃(t:Addr) (u v:V),vs=[.ref t]/\H t=some (.tup [u,v])/\Q (.bl true) H
theorem Zlw:Z2 P w K mg base CX0 1 T.cX.f T.cX.fd ["thing"] Zzb:=by
 refine T.cX.F.okW Zq8 fun a9 A outer s H vs Q E hr h=>?_
 ·obtain ⟨t,u,v,rfl,ht,q⟩:=h;intro X;exact WSs.last (Zo (Zkh (Zz (r:=Zjq K) Wh (by rfl) T.ay PyProof.Rows.boot_isinstance (Zb (pv 0) (Zb (Zd7 (v:=.ty "tuple") (by rfl) T.gN PyProof.Rows.boot_tuple rfl) Za))) (Zq6 (W0 (r:=Y7 K) (Xc hr) (Zz (r:=Zbi K) Zbz (by rfl) T.bL PySem.boot_len (Zb (pv 0) Za)) Zd (Zr _))))) (exR rfl ⟨_,_,true,_,rfl,Xy.tup ht,.inl (exR rfl T.iC),_,rfl,Ze3 (exR rfl (.inl ⟨t,_,rfl,.inr (SqT.of ht),.inl ⟨rfl,q⟩⟩))⟩)
def Ydn:Sp:=fun vs H Q _=>∃(t d:Addr) (e:Zc) (kvs:List (List Key×V)),vs=[.ref t,.ref d]/\Zm H t e/\H d=some (.dT kvs)/\Q (.bl (Yy kvs (Xe e)).isSome) H
theorem Zaa:Z2 P w K mg base CX0 2 T.cL.f T.cL.fd ["end", "ends"] Ydn:=by
 refine T.cL.F.okW Zqb fun a9 A outer s H vs Q E hr h=>?_
 ·obtain ⟨t,d,e,kvs,rfl,ht,hd,q⟩:=h;intro X;exact WSs.last (Zo (Zkh (Ye (Zlw T) hr T.eZ (Zb (pv 0) Za)) (Zkh (Zz (r:=Zjq K) Wh (by rfl) T.ay PyProof.Rows.boot_isinstance (Zb (Zv (K:=K) rfl (pv 0) Zd) (Zb (Zd7 (v:=.ty "str") (by rfl) T.ef PyProof.Rows.boot_str rfl) Za))) (Zkh (Zz (r:=Zjq K) Wh (by rfl) T.ay PyProof.Rows.boot_isinstance (Zb (Zv (K:=K) rfl (pv 0) Zd) (Zb (Zd7 (v:=.ty "str") (by rfl) T.ef PyProof.Rows.boot_str rfl) Za))) (Zq6 (W0 (r:=Zjt K) (Zk5 hr) (pv 0) (pv 1) (by with_unfolding_all rfl))))))) (exR rfl ⟨t,_,_,rfl,ht,_,rfl,Ze3 (exR rfl (ixT ht 0 rfl ⟨_,_,true,_,rfl,Xy.str _,.inl (exR rfl T.iA),_,rfl,Ze3 (exR rfl (ixT ht 1 rfl ⟨_,_,true,_,rfl,Xy.str _,.inl (exR rfl T.iA),_,rfl,Ze3 (exR rfl (exR rfl (.inr (.inl ⟨d,_,rfl,Wc.t (k:=Xe e) hd ht,q⟩))))⟩))⟩))⟩)
def Yda:Sp:=fun vs H Q _=>∃(t pa d a b:Addr) (e1 e2:Zc) (ka kd:List (List Key×V)),vs=[.ref t,.ref pa,.ref d]/\H t=some (.tup [.ref a,.ref b])/\Zm H a e1/\Zm H b e2/\H pa=some (.dT ka)/\H d=some (.dT kd) /\
 (Yy ka (Xe e1)).isSome=true/\(Yy ka (Xe e2)).isSome=true/\Yy kd (Xe e1)=none/\Yy kd (Xe e2)=none/\e1.1≠e2.1/\Q .non H
theorem Zk4:Z2 P w K mg base CX0 3 T.bO.f T.bO.fd ["join", "part_at", "joined"] Yda:=by
 refine T.bO.F.okW Zfo fun a9 A outer s H vs Q E hr h=>?_
 ·obtain ⟨t,pa,d,a,b,e1,e2,ka,kd,rfl,ht,ha,hb,V4,hd,k1,k2,n1,n2,ne,q⟩:=h;intro X;refine WSs.step (Zx (W1 (Xl (Ye (Zlw T) hr T.eZ (Zb (pv 0) Za)))) Zq Zp) (exR rfl ⟨t,_,_,rfl,ht,_,rfl,Yn (fun z=>absurd z (by decide)) (fun _=>?_)⟩);let I16:=fun (i:Nat) (σ:St) (H':Hp)=>(∃o,σ=[some (.ref t),some (.ref pa),some (.ref d),o])/\H'=H
  refine WSs.step (Xn PassesOwn.never rfl (Zzq (pv 0)) (Yw (i:=3) Zfo.nd) Zq) (exR rfl ⟨t,rfl,⟨_,SqT.of ht⟩,Zwx (K:=K) (xs:=[.ref a,.ref b]) I16 ⟨⟨none,rfl⟩,rfl⟩ ?_ ?_ ?_⟩)
  ·rintro i σ H' _ ⟨_,rfl⟩;exact SqT.of ht
  ·rintro i v σ H' hi ⟨⟨o,rfl⟩,hH⟩;rw [hH];obtain ⟨x,e,rfl,hx,h1,h2⟩:∃x e,v=V.ref x/\Zm H x e/\(Yy ka (Xe e)).isSome=true/\Yy kd (Xe e)=none:=by
    match i,hi with
    | 0,hi=>cases hi;exact ⟨a,e1,rfl,ha,k1,n1⟩
    | 1,hi=>cases hi;exact ⟨b,e2,rfl,hb,k2,n2⟩
   refine WSs.step (Zx (W1 (Xl (Ye (Zaa T) hr T.bM (Zb (pv 3) (Zb (pv 1) Za))))) Zq Zp) (exR rfl (exR rfl ⟨x,pa,e,ka,rfl,hx,V4,_,rfl,Yn (fun z=>?_) (fun _=>?_)⟩))
   ·rw [h1] at z;exact absurd z (by decide)
   refine WSs.last (Zx (Zj (r:=Zjt K) (Zk5 hr) (pv 3) (pv 2) (by with_unfolding_all rfl)) Zq Zp) (exR rfl (exR rfl (.inr (.inl ⟨d,_,rfl,Wc.t (k:=Xe e) hd hx,_,rfl,Yn (fun z=>?_) (fun _=>⟨⟨_,rfl⟩,rfl⟩)⟩))));rw [h2] at z;exact absurd z (by decide)
  ·rintro σ H' ⟨⟨o,rfl⟩,hH⟩;rw [hH];refine WSs.last (Zx (Zj (r:=Y7 K) (Xc hr) (Zv (K:=K) rfl (Zv (K:=K) rfl (pv 0) Zd) Zd) (Zv (K:=K) rfl (Zv (K:=K) rfl (pv 0) Zd) Zd) (Zr _)) Zq Zp) (exR rfl (ixT ht 0 rfl (ixT ha 0 rfl (exR rfl (ixT ht 1 rfl (ixT hb 0 rfl (.inl ⟨rfl,_,rfl,Yn (fun z=>?_) (fun _=>q)⟩)))))));exact absurd (V.str.inj (of_decide_eq_true z)) ne
def Yc5:Sp:=fun vs H Q _=>∃(jl pa:Addr) (js:List (Zc×Zc)) (ka:List (List Key×V)),vs=[.ref jl,.ref pa]/\Yq H jl js/\H pa=some (.dT ka)/\(∀e∈Xg js,(Yy ka (Xe e)).isSome=true)/\ka.length=(Xg js).length/\(Xg js).Nodup/\(∀j∈js,j.1.1≠j.2.1)/\js.length<=300 /\
 ∀(d:Addr) (kj:List (List Key×V)) (H':Hp),Same H H'->H d=none->H' d=some (.dT kj)->DP Xe (RJ H) kj (qJ js)->Q (.ref d) H'
theorem Zsq{js:List (Zc×Zc)}{i:Nat}{j:Zc×Zc}(h:js[i]? =some j):qJ (js.take (i+1))=qJ (js.take i)++[(j.1,j.2)]++[(j.2,j.1)]:=by
 unfold qJ;rw [List.take_add_one,h,List.flatMap_append];simp
theorem Zvx(js:List (Zc×Zc)):(qJ js).length=2 * js.length:=by
 induction js with
 | nil=>rfl
 | cons j js ih =>
  have e:qJ (j ::js)=[(j.1,j.2),(j.2,j.1)]++qJ js:=rfl;rw [e,List.length_append,ih];simp only [List.length_cons,List.length_nil];lia
theorem Zls:Z2 P w K mg base CX0 4 T.bP.f T.bP.fd ["joins", "part_at"] Yc5:=by
 refine T.bP.F.okW Zcb fun a9 A outer s H vs Q E hr h=>?_
 ·obtain ⟨jl,pa,js,ka,rfl,hJ,V4,hk,hkl,nd,apart,len,q⟩:=h;intro X;obtain ⟨ts,hl,d3⟩:=hJ;have htl:=Paired.length d3;refine WSs.step (Zy (i:=2) Zcb.nd Znf) fun d H1 s1 n1 e1=>?_
  let I17:=fun (i:Nat) (σ:St) (H':Hp)=>(∃o,σ=[some (.ref jl),some (.ref pa),some (.ref d),o])/\Same H H'/\∃kj,H' d=some (.dT kj)/\DP Xe (RJ H) kj (qJ (js.take i))
  refine WSs.step (Xn PassesOwn.never rfl (Ym (pv 0)) (Yw (i:=3) Zcb.nd) Zq) (exR rfl ⟨jl,rfl,⟨_,SqL.of (s1.at hl)⟩,X0 (K:=K) (xs:=ts.map V.ref) I17 ⟨⟨none,rfl⟩,s1,[],e1,.nil⟩ ?_ ?_ ?_⟩)
  ·rintro i σ H' _ ⟨_,s2,_⟩;exact SqL.of (s2.at hl)
  ·rintro i v σ H2 hi ⟨⟨o,rfl⟩,s2,kj,hd,hD⟩;rw [List.getElem?_map] at hi;obtain ⟨t,hti,rfl⟩:=Option.map_eq_some_iff.mp hi;obtain ⟨j,hj,a,b,ht,ha,hb⟩:=Paired.get d3 hti;have hm:j∈js:=List.mem_of_getElem? hj;have R8:=(List.getElem?_eq_some_iff.mp hj).1;have m1:j.1∈Xg js:=List.mem_flatMap.mpr ⟨j,hm,by simp⟩;have m2:j.2∈Xg js:=List.mem_flatMap.mpr ⟨j,hm,by simp⟩;have d4:kj.length<=600:=by
    have h1:=hD.len;rw [Zvx,List.length_take] at h1;lia
   have R9:(Xg (js.take i)++[j.1]++[j.2]).Nodup:=by
    have h1:(Xg (js.take (i+1))).Nodup:=nd.sublist (by
     have:Xg js=Xg (js.take (i+1))++Xg (js.drop (i+1)):=by rw [<-Zd0,List.take_append_drop]
     rw [this];exact List.sublist_append_left _ _)
    rw [<-Zan,Zsq hj,List.map_append,List.map_append,Zan] at h1;exact h1
   have nd1:j.1∉Xg (js.take i):=fun z=>(List.nodup_append.mp (List.nodup_append.mp R9).1).2.2 _ z _ List.mem_cons_self rfl
   have nd2:j.2∉Xg (js.take i)++[j.1]:=fun z=>(List.nodup_append.mp R9).2.2 _ z _ List.mem_cons_self rfl
   have v1:Yy kj (Xe j.1)=none:=hD.none Ww (by rw [Zan];exact nd1);have v2:Yy kj (Xe j.2)=none:=hD.none Ww (by rw [Zan];exact fun z=>nd2 (List.mem_append_left _ z));refine WSs.step (Yi (Ye (Zk4 T) hr T.eu (Zb (pv 3) (Zb (pv 1) (Zb (pv 2) Za))))) (exR rfl (exR rfl (exR rfl ⟨t,pa,d,a,b,j.1,j.2,ka,kj,rfl,s2.at ht,ha.mono s2,hb.mono s2,s2.at V4,hd,hk _ m1,hk _ m2,v1,v2,apart j hm,?_⟩)));have N1:DP Xe (RJ H) (Wb kj (Xe j.1) (.ref b)) (qJ (js.take i)++[(j.1,j.2)]):=hD.put v1 ⟨b,rfl,hb⟩;have hl1:=Zbm kj (Xe j.1) (.ref b);have v3:Yy (Wb kj (Xe j.1) (.ref b)) (Xe j.2)=none:=N1.none Ww (by rw [List.map_append,Zan];exact nd2);refine WSs.step (Wi (Y8 hr) (pv 2) (Zv (K:=K) rfl (pv 3) Zd) (Zv (K:=K) rfl (pv 3) Zd) rfl) (exR rfl (ixT (s2.at ht) 1 rfl (exR rfl (exR rfl (ixT (s2.at ht) 0 rfl ⟨d,_,rfl,Zdz.t (k:=Xe j.1) hd (Zsb (ha.mono s2)) (Zs (by lia)),?_⟩)))));have s3:Same H (upd H2 d (.dT (Wb kj (Xe j.1) (.ref b)))):=s2.upd0 n1;refine WSs.last (Wi (Y8 hr) (pv 2) (Zv (K:=K) rfl (pv 3) Zd) (Zv (K:=K) rfl (pv 3) Zd) rfl) (exR rfl (ixT (s3.at ht) 0 rfl (exR rfl (exR rfl (ixT (s3.at ht) 1 rfl ⟨d,_,rfl,Zdz.t (k:=Xe j.2) Zf (Zsb (hb.mono s3)) (Zs (by lia)),⟨_,rfl⟩,s3.upd0 n1,_,Zf,?_⟩)))));rw [Zsq hj];exact N1.put v3 ⟨a,rfl,ha⟩
  ·rintro σ H2 ⟨⟨o,rfl⟩,s2,kj,hd,hD⟩;rw [List.length_map,htl,List.take_length] at hD;have hlj:kj.length=ka.length:=by
    have h1:=hD.len;rw [hkl,h1,<-Zan,List.length_map]
   refine WSs.step (Zx (Zj Znk (Zz (r:=Zv8) Znr (by rfl) T.bL PySem.boot_len (Zb (pv 2) Za)) (Zz (r:=Zv8) Znr (by rfl) T.bL PySem.boot_len (Zb (pv 1) Za)) (Zr _)) Zq Zp) (exR rfl ⟨d,kj,rfl,hd,_,rfl,pa,ka,rfl,s2.at V4,_,_,rfl,rfl,_,rfl,Yn (fun z=>?_) (fun _=>?_)⟩)
   ·have:(kj.length:Int)<(ka.length:Int):=of_decide_eq_true z;exact absurd this (by lia)
   exact WSs.last (Zo (pv 2)) (exR rfl (q d kj H2 s2 n1 hd hD))
def Yds:Sp:=fun vs H Q _=>∃(t pa l x C:Addr) (e:Zc) (k nm:Str) (ka:List (List Key×V)) (us:List Addr) (es:List Zc),vs=[.ref t,.ref pa,.ref l]/\Zm H t e/\H pa=some (.dT ka)/\Yy ka (Xe e)=some (.ref x)/\X4 T k C/\Zdn H C x nm/\Zq1 k=true /\
 H l=some (.lst (us.map V.ref))/\Paired (Zm H) us es/\e∉es/\Q .non H
theorem Zj4(h:trP a=trP b):a=b:=by
 obtain ⟨a1,a2⟩:=a;obtain ⟨b1,b2⟩:=b;unfold trP at h;simp only [Tr.tup.injEq,List.cons.injEq,Tr.str.injEq,and_true] at h;rw [h.1,h.2]
theorem Zly:Z2 P w K mg base CX0 3 T.bQ.f T.bQ.fd ["end", "part_at", "ends_with_signals"] (Yds T):=by
 refine T.bQ.F.okW Zkl fun a9 A outer s H vs Q E hr h=>?_
 ·obtain ⟨t,pa,l,x,C,e,k,nm,ka,us,es,rfl,ht,V4,hv,hC,⟨dx,hO⟩,hb,hl,hu,m6,q⟩:=h;intro X;obtain ⟨f1,d1,m1,b1,g1⟩:=hC.bears;refine WSs.step (Zx (W1 (Xl (Ye (Zaa T) hr T.bM (Zb (pv 0) (Zb (pv 1) Za))))) Zq Zp) (exR rfl (exR rfl ⟨t,pa,e,ka,rfl,ht,V4,_,rfl,Yn (fun z=>?_) (fun _=>?_)⟩))
  ·rw [hv] at z;exact absurd z (by simp)
  refine WSs.step (Zx (W1 (Xl Zu9)) Zq Zp) (WE.of (Yv (X1 (Y8 hr) (pv 1) (pv 0) (fun _ _=>rfl)) hC.cls.1 m1 (g1 _ _ _ 2 (by decide)) hr b1 .nil Z7) (exR rfl (exR rfl ⟨pa,_,rfl,by rw [<-hv];exact Wc.t (k:=Xe e) V4 ht,x,dx,_,rfl,hO,rfl,_,rfl,_,rfl,Yn (fun z=>?_) (fun _=>?_)⟩)))
  ·rw [hb] at z;exact absurd z (by decide)
  refine WSs.last (Zx (Zj (r:=Zjt K) (Zk5 hr) (pv 0) (pv 2) (by with_unfolding_all rfl)) Zq Zp) (exR rfl (exR rfl (.inr (.inr (.inr ⟨l,1,trP e,es.map trP,us,rfl,SqL.of hl,by decide,Im.tup (n:=0) (SqT.of ht) (.cons (.str _) (.cons (.str _) .nil)),Zqe hu,_,rfl,Yn (fun z=>?_) (fun _=>q)⟩)))));have z:trP e∈es.map trP:=of_decide_eq_true z;obtain ⟨e',he',h'⟩:=List.mem_map.mp z;rw [Zj4 h'] at he';exact absurd he' m6
theorem Zm.offD(h:Zm H t q)(hc:H c=some (.dK xs)):Zm (upd H c o) t q:=by
 unfold Zm at h ⊢;exact (Ze fun z=>by rw [z,hc] at h;cases h).trans h
def Ycy:Sp:=fun vs H Q _=>∃(sl pa:Addr) (ts:List Addr) (sg:List (Str×Str×Str)) (ka:List (List Key×V)),vs=[.ref sl,.ref pa]/\H sl=some (.lst (ts.map V.ref))/\Paired (Zy5 H) ts sg/\H pa=some (.dT ka)/\(∀q∈sg,W9 q.1)/\(sg.map Prod.fst).Nodup/\(sg.map Prod.snd).Nodup/\sg.length<=100 /\
 (∀q∈sg,∃x C k,Yy ka (Xe (q.2.1,q.2.2))=some (.ref x)/\X4 T k C/\Zdn H C x q.2.1/\Zq1 k=true) /\
 ∀(d:Addr) (ks:List (Key×V)) (H':Hp),Same H H'->H d=none->H' d=some (.dK ks)->DP Z1 (RS H') ks (qS sg)->Q (.ref d) H'
theorem Zw7(h:DP Z1 (RS H) ks qs):∃us:List Addr,ks.map (fun kv=>kv.2)=us.map V.ref/\Paired (Zm H) us (qs.map Prod.snd):=by
 unfold DP at h
 induction h with
 | nil=>exact ⟨[],rfl,.nil⟩
 | cons r _ ih =>
  obtain ⟨us,h1,h2⟩:=ih;obtain ⟨_,t,hv,ht⟩:=r;exact ⟨t ::us,by rw [List.map_cons,List.map_cons,h1,hv],.cons ht h2⟩
theorem Zp1:Z2 P w K mg base CX0 4 T.cM.f T.cM.fd ["signals", "part_at"] (Ycy T):=by
 refine T.cM.F.okW Zbh fun a9 A outer s H vs Q E hr h=>?_
 ·obtain ⟨sl,pa,ts,sg,ka,rfl,hl,d3,V4,U3,nd,one,len,hk,q⟩:=h;intro X;have htl:=Paired.length d3;refine WSs.step (Zy (i:=2) Zbh.nd Zb8) fun d H1 s1 n1 e1=>?_
  let I18:=fun (i:Nat) (σ:St) (H':Hp)=>(∃o3 o4 o5,σ=[some (.ref sl),some (.ref pa),some (.ref d),o3,o4,o5])/\Same H H'/\∃ks,H' d=some (.dK ks)/\DP Z1 (RS H') ks (qS (sg.take i))
  refine WSs.step (Xn PassesOwn.never rfl (Ym (pv 0)) (Yw (i:=3) Zbh.nd) Zq) (exR rfl ⟨sl,rfl,⟨_,SqL.of (s1.at hl)⟩,X0 (K:=K) (xs:=ts.map V.ref) I18 ⟨⟨none,none,none,rfl⟩,s1,[],e1,.nil⟩ ?_ ?_ ?_⟩)
  ·rintro i σ H' _ ⟨_,s2,_⟩;exact SqL.of (s2.at hl)
  ·rintro i v σ H2 hi ⟨⟨o3,o4,o5,rfl⟩,s2,ks,hd,hD⟩;rw [List.getElem?_map] at hi;obtain ⟨t,hti,rfl⟩:=Option.map_eq_some_iff.mp hi;obtain ⟨⟨nm,pn,en⟩,hg,ht⟩:=Paired.get d3 hti;have ht:H t=some (.tup [.str nm,.str pn,.str en]):=ht;have hm:((nm,pn,en):Str×Str×Str)∈sg:=List.mem_of_getElem? hg;have R8:=(List.getElem?_eq_some_iff.mp hg).1;obtain ⟨x,C,k,hv,hC,hO,hb⟩:=hk _ hm;have d4:ks.length<=100:=by
    have h1:=hD.len;unfold qS at h1;rw [List.length_map,List.length_take] at h1;lia
   have hn:Yy ks (Z1 nm)=none:=hD.none Y1 (by
    rw [Zzd,List.map_take];exact Zj9 nd (by rw [List.getElem?_map,hg];rfl))
   have he:((pn,en):Zc)∉(qS (sg.take i)).map Prod.snd:=by
    have:(qS (sg.take i)).map Prod.snd=(sg.map Prod.snd).take i:=by
     unfold qS;rw [List.map_map,List.map_take]
     rfl
    rw [this];exact Zj9 one (by rw [List.getElem?_map,hg];rfl)
   refine WSs.step (Zy (i:=4) Zbh.nd (Zv (K:=K) rfl (pv 3) Zd)) (exR rfl (ixT (s2.at ht) 0 rfl ?_));refine WSs.step (Zy (i:=5) Zbh.nd (Zas (r:=Zmo K) Zot (pv 3) (Zax Zd) Zb6)) (exR rfl (exR rfl (.inl ⟨t,_,rfl,SqT.of (s2.at ht),(show ¬(HT.sIx 3 0 (some 1)=0/\HT.sIx 3 3 none=3) by decide),fun te H3 s3 n3 e3=>?_⟩)));have g9:=s2.trans s3;have K7:Zm H3 te (pn,en):=e3;refine WSs.step (Yi (Ye (Zcf T) hr T.cJ (Zb (pv 4) (Zb (pv 2) Za)))) (exR rfl (exR rfl ⟨nm,d,ks,rfl,U3 _ hm,s3.at hd,hn,fun H4 s4=>?_⟩));have m5:=g9.trans s4;have hD4:DP Z1 (RS H4) ks (qS (sg.take i)):=hD.mapR fun _ _ _ z=>RS.mono (s3.trans s4) _ _ _ z
   obtain ⟨us,j0,hup⟩:=Zw7 hD4;refine WSs.step (Yi (Ye (Zly T) hr T.eE (Zb (pv 5) (Zb (pv 1) (Zb (Zpv rfl (by rfl) T.fO (pv 2)) Za))))) (exR rfl (exR rfl (exR rfl ⟨d,ks,rfl,.inl (s4.at (s3.at hd)),fun l H5 s5 n5 e5=>⟨te,pa,l,x,C,(pn,en),k,pn,ka,us,_,rfl,(K7.mono s4).mono s5,(m5.trans s5).at V4,hv,hC,hO.mono (m5.trans s5),hb,by rw [<-j0];exact e5,Paired.mapP hup fun _ _ r=>r.mono s5,he,?_⟩⟩)));have B6:=m5.trans s5;have hd5:H5 d=some (.dK ks):=s5.at (s4.at (s3.at hd));refine WSs.last (Wi (Y8 hr) (pv 2) (pv 4) (pv 5) rfl) (exR rfl (exR rfl (exR rfl ⟨d,_,rfl,Zdz.k (k:=Z1 nm) hd5 (Zs (by lia)),⟨_,_,_,rfl⟩,B6.upd0 n1,_,Zf,?_⟩)));have:qS (sg.take (i+1))=qS (sg.take i)++[(nm,(pn,en))]:=by
    unfold qS;rw [List.take_add_one,hg,List.map_append]
    rfl
   rw [this];have B1:DP Z1 (RS (upd H5 d (.dK (Wb ks (Z1 nm) (.ref te))))) ks (qS (sg.take i)):=hD4.mapR fun _ _ _ ⟨u,z1,z2⟩=>⟨u,z1,(z2.mono s5).offD hd5⟩
   exact B1.put hn ⟨te,rfl,((K7.mono s4).mono s5).offD hd5⟩
  ·rintro σ H2 ⟨⟨o3,o4,o5,rfl⟩,s2,ks,hd,hD⟩;rw [List.length_map,htl,List.take_length] at hD;exact WSs.last (Zo (pv 2)) (exR rfl (q d ks H2 s2 n1 hd hD))
structure Yf(T:Tx K mg)(H:Hp)(x:Addr)(ps:List Zc)(js:List (Zc×Zc))(sg:List (Str×Str×Str)):Prop where
 ex:∃(dx po jo so si:Addr) (kp ks:List (Key×V)) (kj ko:List (List Key×V)),H x=some (.ins T.aw dx [("part_of",.ref po),("joined",.ref jo),("post_of",.ref so),("signal_on",.ref si)]) /\
  H po=some (.dK kp)/\DP Z1 (RP T H) kp (qP ps)/\H jo=some (.dT kj)/\DP Xe (RJ H) kj (qJ js)/\H so=some (.dK ks)/\DP Z1 (RS H) ks (qS sg)/\H si=some (.dT ko)/\DP Xe RO ko (qO sg)
theorem Yf.mono(e:Same H H')(h:Yf U H x ps js sg):Yf U H' x ps js sg:=by
 obtain ⟨dx,po,jo,so,si,kp,ks,kj,ko,h1,h2,h3,h4,h5,h6,h7,h8,h9⟩:=h.ex;exact ⟨dx,po,jo,so,si,kp,ks,kj,ko,e.at h1,e.at h2,h3.mapR (RP.mono e),e.at h4,h5.mapR (RJ.mono e),e.at h6,h7.mapR (RS.mono e),e.at h8,h9⟩
def del(H:Hp)(x:Addr):Hp:=fun b=>if b=x then none else H b
theorem Zfz  :del H x x=none:=if_pos rfl
theorem Zc6(h:H b=some o)(n:b≠x):del H x b=some o:=(if_neg n).trans h
theorem Zal  :Same (del H x) (upd H x o):=fun b u e=>by
 unfold del at e
 by_cases z:b=x
 ·rw [if_pos z] at e;cases e
 ·rw [if_neg z] at e;rw [Ze z];exact e
theorem Zfj(s:Same G H)(n:G x=none):Same G (del H x):=fun b u e=>Zc6 (s.at e) (Zh e n)
structure Y4(ps:List Zc)(js:List (Zc×Zc))(sg:List (Str×Str×Str)):Prop where
 net:Net ps js []
 len:ps.length<=40
 name:∀p∈ps,W9 p.2
 sigs:Zm1 ps sg
theorem Zlk.v(h:Zlk ps js sg):Y4 ps js sg:=⟨h.net,by have:=h.len;lia,fun p hp=>(h.name p hp).nm.ok,h.sigsV⟩
theorem Zq9(ps:List Zc):(Y5 ps).length<=4 * ps.length:=by rw [<-Zn7,List.length_map];exact Zuv ps
theorem _root_.YM.Net.flat(h:Net ps js []):(Xg js).Perm (Y5 ps):=by
 have:=h.perm;rw [List.append_nil] at this;exact this
theorem _root_.YM.Net.jlen(h:Net ps js [])(l:ps.length<=40):js.length<=300:=by
 have h1:=h.flat.length_eq;have h2:=Zq9 ps;rw [<-Zan,List.length_map,Zvx] at h1;lia
theorem Zz4(hp:p∈ps)(he:e∈Yt p.1):((p.2,e),p.1)∈qA ps:=List.mem_flatMap.mpr ⟨p,hp,List.mem_map.mpr ⟨e,he,rfl⟩⟩
def Yck:Sp:=fun vs H Q _=>∃(G:Hp) (x dx pl jl:Addr) (sv:V) (xs:List Addr) (ps:List Zc) (js:List (Zc×Zc)) (sg:List (Str×Str×Str)),vs=[.ref x,.ref pl,.ref jl,sv]/\G x=none/\Same G H/\H x=some (.ins T.aw dx []) /\
 G pl=some (.lst (xs.map V.ref))/\Paired (PO T G) xs ps/\Yq G jl js/\((∃sl,sv=.ref sl/\Za7 G sl sg)\/(sv=.non/\sg=[]))/\Y4 ps js sg/\∀H',Same G H'->Yf T H' x ps js sg->Q .non H'
theorem Zgy:Z2 P w K mg base CX0 5 T.aI.f T.aI.fd ["self", "parts", "joins", "signals"] (Yck T):=by
 refine T.aI.F.okW W8 fun a9 A outer s H vs Q E hr h=>?_
 ·obtain ⟨G,x,dx,pl,jl,sv,xs,ps,js,sg,rfl,hGx,s0,hx,i4,S3,p7,hsv,yv,q⟩:=h;intro X;have hxl:=Paired.length S3;have V5:=yv.len;have slen:=yv.sigs.len;let I19:=fun (σ:St) (H1:Hp)=>∃(G':Hp) (sl:Addr),σ=[some (.ref x),some (.ref pl),some (.ref jl),some sv,some (.ref sl),none]/\G' x=none/\Same G G'/\Same G' H1/\H1 x=some (.ins T.aw dx [])/\Za7 G' sl sg
  refine WSs.cut I19 ?_ ?_
  ·refine WS.of (Zy (i:=4) W8.nd (Zff (Zj Zlg (pv 3) Zlq (Zr _)) (Zt Za) (pv 3))) ?_;rcases hsv with ⟨sl,rfl,hs⟩|⟨rfl,rfl⟩
   ·exact ⟨_,rfl,rfl,_,rfl,W5 ⟨_,rfl,G,sl,rfl,hGx,Same.refl _,s0,hx,hs⟩⟩
   ·refine (exR rfl ⟨rfl,_,rfl,Ze3 ⟨szA,fun sl H1 s1 n1 e1=>⟨del H1 x,sl,rfl,Zfz,Zfj (s0.trans s1) hGx,fun b o e=>?_,s1.at hx,[],Zc6 e1 fun z=>(by rw [z,hx] at n1;cases n1),.nil⟩⟩⟩)
    by_cases z:b=x
    ·rw [z,Zfz] at e;cases e
    ·unfold del at e;rw [if_neg z] at e;exact e
  clear hsv s0 hx;rintro σ H ⟨G,sl,rfl,hGx,sG,s0,hx,ts,hsl,d3⟩;have htl:=Paired.length d3
  replace q:∀H',Same G H'->Yf T H' x ps js sg->Q .non H':=fun H' z=>q H' (sG.trans z)
  replace i4:=sG.at i4
  replace S3:=Paired.mapP S3 fun _ _ r=>r.mono sG
  replace p7:=p7.mono sG
  clear sG;refine WSs.step (Zx (PW.pt (Zfc (Zj Znw (Zz (r:=Zbi K) Zbz (by rfl) T.bL PySem.boot_len (Zb (pv 1) Za)) (Zgb (by rfl) T.fQ) (Zr _)) (Zda (Zj Znw (Zz (r:=Zbi K) Zbz (by rfl) T.bL PySem.boot_len (Zb (pv 4) Za)) (Zgb (by rfl) T.eo) (Zr _))))) Zq Zp) (exR rfl (.inl ⟨pl,_,rfl,.inl (SqL.of (s0.at i4)),_,_,rfl,rfl,_,rfl,Yn (fun z=>?_) (fun _=>(exR rfl (.inl ⟨sl,_,rfl,.inl (SqL.of (s0.at hsl)),_,_,rfl,rfl,_,rfl,Yn (fun z=>?_) (fun _=>?_)⟩)))⟩))
  ·have z:=of_decide_eq_true z;rw [List.length_map] at z;exact absurd z (by lia)
  ·have z:=of_decide_eq_true z;rw [List.length_map] at z;exact absurd z (by lia)
  refine WSs.step (Zav (pv 0) (Ye (Zii T) hr T.dH (Zb (pv 1) Za)) rfl) (exR rfl ⟨pl,xs,ps,rfl,s0.at i4,Paired.mapP S3 fun _ _ r=>r.mono s0,yv.net.nd,yv.name,by lia,fun po kp H1 s1 m1 e1 dp=>(exR rfl ⟨x,_,dx,_,rfl,s1.at hx,T.af,T.az,by simp,?_⟩)⟩);have hpx:po≠x:=fun z=>by rw [z,hx] at m1;cases m1
  have g1:Same G (del H1 x):=Zfj (s0.trans s1) hGx;have dp1:DP Z1 (RP T (del H1 x)) kp (qP ps):=dp.mapR fun a b v ⟨y,C,z1,z2,dy,z3⟩=>⟨y,C,z1,z2,dy,Zc6 (s1.at z3) fun z=>by rw [z,hx] at z3;cases z3⟩
  have ep1:del H1 x po=some (.dK kp):=Zc6 e1 hpx;refine WSs.step (Zy (i:=5) W8.nd (Ye (Zir T) hr T.dI (Zb (Yd (pv 0) rfl) Za))) (exR rfl ⟨x,_,dx,_,_,rfl,Zf,T.af,T.az,rfl,po,kp,ps,rfl,Zal.at ep1,dp1.mapR (RP.mono Zal),yv.net.nd,by lia,fun pa ka H2 s2 m2 e2 da=>?_⟩);have T3:=s2.at Zf;have ep2:Same G H2:=(g1.trans Zal).trans s2;have kaq:∀p∈ps,∀e∈Yt p.1,∃v,Yy ka (Xe (p.2,e))=some v/\RA T _ (p.2,e) p.1 v:=fun p hp e he=>da.get Ww (by rw [Zn7];exact Za9 yv.net.nd) (Zz4 hp he)
  refine WSs.step (Zav (pv 0) (Ye (Zls T) hr T.ez (Zb (pv 2) (Zb (pv 5) Za))) rfl) (exR rfl (exR rfl ⟨jl,pa,js,ka,rfl,p7.mono ep2,e2,fun e he=>?_,?_,?_,yv.net.apart,yv.net.jlen V5,fun jo kj H3 s3 m3 e3 dj=>(exR rfl ⟨x,_,dx,_,rfl,s3.at T3,T.af,T.bI,(by show 1<1000;decide),?_⟩)⟩))
  ·have:=yv.net.flat.mem_iff.mp he;obtain ⟨p,hp,hm⟩:=List.mem_flatMap.mp this;obtain ⟨e',he',rfl⟩:=List.mem_map.mp hm;obtain ⟨v,hv,_⟩:=kaq p hp e' he';rw [hv];rfl
  ·rw [yv.net.flat.length_eq,<-Zn7,List.length_map];exact da.len
  ·exact yv.net.flat.nodup_iff.mpr (Za9 yv.net.nd)
  have hjx:jo≠x:=fun z=>by rw [z,T3] at m3;cases m3
  have g9:Same (del H1 x) (del H3 x):=Zfj ((Zal.trans s2).trans s3) Zfz;have ej3:del H3 x jo=some (.dT kj):=Zc6 e3 hjx;have hpax:pa≠x:=fun z=>by rw [z,T3] at e2;cases e2
  have epa:del H3 x pa=some (.dT ka):=Zc6 (s3.at e2) hpax;have dj3:DP Xe (RJ (del H3 x)) kj (qJ js):=dj.mapR fun a b v ⟨u,z1,z2⟩=>⟨u,z1,Zc6 (s3.at z2) fun z=>by rw [z] at z2;exact nomatch T3.symm.trans z2⟩
  have g3:Same G (del H3 x):=g1.trans g9;refine WSs.step (Zav (pv 0) (Ye (Zp1 T) hr T.gk (Zb (pv 4) (Zb (pv 5) Za))) rfl) (exR rfl (exR rfl ⟨sl,pa,ts,sg,ka,rfl,Zal.at (g3.at hsl),Paired.mapP d3 fun _ _ r=>(g3.trans Zal).at r,Zal.at epa,yv.sigs.name,yv.sigs.nd,yv.sigs.one,by lia,fun g hg=>?_,fun so ks H4 s4 m4 e4 ds=>(exR rfl ⟨x,_,dx,_,rfl,s4.at Zf,T.af,T.cQ,(by show 2<1000;decide),?_⟩)⟩))
  ·obtain ⟨p,hp,h1,h2,h3⟩:=yv.sigs.at_ g hg;obtain ⟨v,hv,y,C,rfl,hC,dy,hO⟩:=kaq p hp g.2.2 h3;refine ⟨y,C,p.1,by rw [<-h1];exact hv,hC,⟨dy,?_⟩,decide_eq_true h2⟩;have hyx:y≠x:=fun z=>by rw [z,Zf] at hO;cases hO
   rw [Ze hyx,<-h1];exact s3.at (s2.at hO)
  have hsx:so≠x:=fun z=>by rw [z,Zf] at m4;cases m4
  have hx4:=s4.at (Zf (H:=H3) (a:=x));have s34:Same (del H3 x) (del H4 x):=Zfj (Zal.trans s4) Zfz;have es4:del H4 x so=some (.dK ks):=Zc6 e4 hsx;have ds4:DP Z1 (RS (del H4 x)) ks (qS sg):=ds.mapR fun a b v ⟨u,z1,z2⟩=>⟨u,z1,Zc6 z2 fun z=>by rw [z] at z2;exact nomatch hx4.symm.trans z2⟩
  refine WSs.last (Zav (pv 0) (X5 (r:=Zvi) (Zqz rfl hr.units) (by rfl) T.ee PyProof.Rows.boot_dict (Zb (Zxm (Xx (N':=["name", "end"]) rfl (Z6.std 2 [] rfl (by trivial) (by trivial) rfl trivial rfl rfl trivial) (Zpr (Yd (pv 0) rfl)) (fun _ _ _ _=>(Zc4 (K:=K) (n:=2) rfl rfl (Zw (W6 (i:=0) (by show (["name", "end"]:List Str).Nodup;decide +kernel)) (Zw (W6 (i:=1) (by show (["name", "end"]:List Str).Nodup;decide +kernel)) Xb)))) (fun _ _ _ _=>Za6) (fun _ _ _ _=>(Zk (Zb (pv 1) (Zb (pv 0) Za)))))) Za)) rfl) (exR rfl ⟨x,_,dx,_,_,rfl,Zf,T.af,T.cQ,rfl,so,ks,rfl,Zal.at es4,fun o nf D hD=>Zrd (fun i ys H'=>Same (upd (upd H4 x (.ins T.aw dx [("part_of",.ref po),("joined",.ref jo),("post_of",.ref so)])) so (.frz o (.dK ks))) H'/\H' D=some (.lst ys)/\∃tps:List Addr,ys=tps.map V.ref/\Paired (fun t (q:List Key×V)=>∃a,H' t=some (.tup [.ref a,q.2])/\H' a=some (.tup (q.1.map kV))) tps ((qO (sg.take i)).map fun q=>(Xe q.1,V.str q.2))) ⟨Same.new hD,Zf,[],rfl,.nil⟩ ?_ ?_ ?_⟩)
  ·rintro i ys H' _ ⟨z,_⟩;exact z.at Zf
  ·rintro i kv ys H5 hi ⟨s5,hD5,tps,rfl,V6⟩ tp H6 s6 n6 e6;obtain ⟨⟨nm,e⟩,hq,hk,t,hv,ht⟩:=Paired.get ds4 hi;have hk:kv.1=Sum.inr nm:=hk;rw [hk,hv] at e6;have hg:sg[i]? =some (nm,e.1,e.2):=by
    unfold qS at hq;rw [List.getElem?_map] at hq;obtain ⟨⟨g1,g2,g3⟩,hg,e'⟩:=Option.map_eq_some_iff.mp hq;rw [hg];simp only [Prod.mk.injEq] at e';rw [<-e'.1,<-e'.2]
   have R8:=(List.getElem?_eq_some_iff.mp hg).1;have S2:t≠so:=fun z=>by rw [z] at ht;exact nomatch es4.symm.trans ht
   have htF:upd (upd H4 x (.ins T.aw dx [("part_of",.ref po),("joined",.ref jo),("post_of",.ref so)])) so (.frz o (.dK ks)) t=some (.tup ((Xe e).map kV)):=by
    rw [Ze S2];exact Zal.at ht
   have htl':tps.length<=100:=by
    have:=Paired.length V6;unfold qO at this;rw [List.length_map,List.length_map,List.length_take] at this;lia
   refine ⟨tp,_,rfl,SqT.of e6,rfl,_,_,rfl,_,_,rfl,rfl,(Wp.set rfl).trans (Wp.set rfl),_,rfl,_,rfl,szA,fun t' H7 s7 n7 e7=>⟨s7.at (s6.at hD5),by rw [List.length_map];exact Zs (by lia),?_,Zf,tps++[t'],by rw [List.map_append];rfl,?_⟩⟩
   ·intro c u z;rw [Ze (Zh z hD)];exact s7.at (s6.at (s5.at z))
   ·have hD7:=s7.at (s6.at hD5);have off:∀{c:Addr} {xs:List V} {u:HO},H7 c=some (.tup xs)->upd H7 D u c=some (.tup xs):=fun {c xs u} z=>(Ze fun y=>by rw [y,hD7] at z;cases z).trans z
    have:(qO (sg.take (i+1))).map (fun q=>(Xe q.1,V.str q.2))=(qO (sg.take i)).map (fun q=>(Xe q.1,V.str q.2))++[(Xe e,V.str nm)]:=by
     unfold qO;rw [List.take_add_one,hg,List.map_append,List.map_append]
     rfl
    rw [this];exact Paired.snoc (Paired.mapP V6 fun _ _ ⟨a,z1,z2⟩=>⟨a,off (s7.at (s6.at z1)),off (s7.at (s6.at z2))⟩) ⟨t,off e7,off (s7.at (s6.at (s5.at htF)))⟩
  ·rintro ys H5 ⟨s5,hD5,tps,rfl,V6⟩;have hks:ks.length=sg.length:=by
    have:=ds4.len;unfold qS at this;rw [List.length_map] at this;exact this
   rw [hks,List.take_length] at V6;have hso5:=s5.at Zf;have off:∀{c:Addr} {xs:List V} {u:HO},H5 c=some (.tup xs)->upd H5 so u c=some (.tup xs):=fun {c xs u} z=>(Ze fun y=>by rw [y,hso5] at z;cases z).trans z
   have sT:Same (upd H4 x (.ins T.aw dx [("part_of",.ref po),("joined",.ref jo),("post_of",.ref so)])) (upd H5 so (.dK ks)):=s5.thaw (Zal.at es4);refine ⟨so,o,_,hso5,nf,D,tps,_,rfl,?_,Paired.mapP V6 fun _ _ ⟨a,z1,z2⟩=>⟨a,off z1,off z2⟩,?_,fun si H8 s8 n8 e8=>⟨_,rfl,x,_,dx,_,rfl,s8.at (sT.at Zf),T.af,T.aT,(by show 3<1000;decide),?_⟩⟩
   ·rw [Ze fun y=>by rw [y,hso5] at hD5;cases hD5];exact hD5
   ·rw [List.map_map];have e1:(qO sg).map (Prod.fst ∘ fun q=>(Xe q.1,V.str q.2))=((qO sg).map Prod.fst).map Xe:=by rw [List.map_map];rfl
    rw [e1,Zoz];exact yv.sigs.one.map Xe fun a b ne z=>ne (Ww a b z)
   have hix:si≠x:=fun z=>by rw [z,sT.at Zf] at n8;cases n8
   have s48:Same (del H4 x) (del H8 x):=Zfj ((Zal.trans sT).trans s8) Zfz;have ei8:del H8 x si=some (.dT ((qO sg).map fun q=>(Xe q.1,V.str q.2))):=Zc6 e8 hix;have f4:Same (del H4 x) (upd H8 x (.ins T.aw dx [("part_of",.ref po),("joined",.ref jo),("post_of",.ref so),("signal_on",.ref si)])):=s48.trans Zal;have f3:=s34.trans f4;have f1:=g9.trans f3;refine q _ (g1.trans f1) ⟨dx,po,jo,so,si,kp,ks,kj,_,Zf,f1.at ep1,dp1.mapR (RP.mono f1),f3.at ej3,dj3.mapR (RJ.mono f3),f4.at es4,ds4.mapR (RS.mono f4),Zal.at ei8,?_⟩;have all:∀l:List (Zc×Str),DP Xe RO (l.map fun q=>(Xe q.1,V.str q.2)) l:=fun l=>by
    induction l with
    | nil=>exact .nil
    | cons p l ih=>exact .cons ⟨rfl,rfl⟩ ih
   exact all _
def Znt:List V->Hp->VK->Prop:=fun vs H Q=>∃(pl jl sl:Addr) (xs:List Addr) (ps:List Zc) (js:List (Zc×Zc)) (sg:List (Str×Str×Str)),vs=[.ref pl,.ref jl,.ref sl]/\H pl=some (.lst (xs.map V.ref))/\Paired (PO T H) xs ps/\Yq H jl js/\Za7 H sl sg/\Y4 ps js sg/\∀x H',Same H H'->H x=none->Yf T H' x ps js sg->Q (.ref x) H'
theorem Ztm:∀vs H Q,Znt T vs H Q ->
  ∀x dx,H x=none->H dx=none->dx≠x->Yck T (.ref x ::(vs++[])) (upd (upd H dx (.own x)) x (.ins T.aw dx [])) (fun v H2=>v=.non/\Q (.ref x) H2) E0:=by
 rintro vs H Q ⟨pl,jl,sl,xs,ps,js,sg,rfl,h1,h2,h3,h4,h5,q⟩ x dx hx hdx ne;refine ⟨H,x,dx,pl,jl,.ref sl,xs,ps,js,sg,rfl,hx,fun b o e=>?_,Zf,h1,h2,h3,.inl ⟨sl,rfl,h4⟩,h5,fun H' s t=>⟨rfl,q x H' s hx t⟩⟩;rw [Ze (Zh e hx),Ze (Zh e hdx)];exact e
def Zss:Sp:=fun vs H Q _=>∃(x:Addr) (nm k:Str) (ps:List Zc) (js:List (Zc×Zc)) (sg:List (Str×Str×Str)),vs=[.ref x,.str nm]/\Yf T H x ps js sg/\Y4 ps js sg/\((k,nm):Zc)∈ps/\∀(y C:Addr) (H':Hp),Same H H'->X4 T k C->Zdn H' C y nm->Q (.ref y) H'
theorem Zey:Z2 P w K mg base CX0 2 T.ag.f T.ag.fd ["self", "name"] (Zss T):=by
 refine T.ag.F.okW Ze2 fun a9 A outer s H vs Q E hr h=>?_
 ·obtain ⟨x,nm,k,ps,js,sg,rfl,tr,yv,hm,q⟩:=h;intro X;obtain ⟨dx,po,jo,so,si,kp,ks,kj,ko,h1,h2,h3,_⟩:=tr.ex;have hq:((nm,k):Str×Str)∈qP ps:=List.mem_map.mpr ⟨(k,nm),hm,rfl⟩;obtain ⟨v,hv,y,C,rfl,hC,hO⟩:=h3.get Y1 (by rw [Zo4];exact yv.net.nd) hq;refine WSs.step (Zx (PW.pt (Zfc (W1 (Xl (Ye (Zg9 T) hr T.dw (Zb (pv 1) Za)))) (Zda (Zj (r:=Zbd K) (Zb4 hr) (pv 1) (Yd (pv 0) rfl) (by with_unfolding_all rfl))))) Zq Zp) (exR rfl ⟨nm,rfl,yv.name _ hm,fun H1 s1=>(exR rfl (Yn (fun z=>absurd z (by decide)) (fun _=>(exR rfl (exR rfl ⟨x,_,dx,_,_,rfl,s1.at h1,T.af,T.az,rfl,.inr (.inl ⟨po,_,rfl,Wc.k (k:=Z1 nm) (s1.at h2),_,rfl,Yn (fun z=>?_) (fun _=>?_)⟩)⟩)))))⟩)
  ·rw [hv] at z;exact absurd z (by simp)
  exact WSs.last (Zo (X1 (Y8 hr) (Yd (pv 0) rfl) (pv 1) (fun _ _=>rfl))) (exR rfl ⟨x,_,dx,_,_,rfl,s1.at h1,T.af,T.az,rfl,_,rfl,po,_,rfl,by rw [<-hv];exact Wc.k (k:=Z1 nm) (s1.at h2),q y C H1 s1 hC (hO.mono s1)⟩)
def Zvp:Sp:=fun vs H Q _=>∃(x t:Addr) (e:Zc) (ps:List Zc) (js:List (Zc×Zc)) (sg:List (Str×Str×Str)),vs=[.ref x,.ref t]/\Yf T H x ps js sg/\Y4 ps js sg/\Zm H t e /\
 ((e∈Y5 ps/\∀t' e',((e,e'):Zc×Zc)∈qJ js->Zm H t' e'->Q (.ref t') H)\/(e∉Y5 ps/\∀t' H',Same H H'->H t'=none->Zm H' t' ("", "")->Q (.ref t') H'))
theorem Zd4:Z2 P w K mg base CX0 3 T.aH.f T.aH.fd ["self", "end"] (Zvp T):=by
 refine T.aH.F.okW Zih fun a9 A outer s H vs Q E hr h=>?_
 ·obtain ⟨x,t,e,ps,js,sg,rfl,tr,yv,ht,q⟩:=h;intro X;obtain ⟨dx,po,jo,so,si,kp,ks,kj,ko,h1,h2,h3,h4,h5,_⟩:=tr.ex;have nd:((qJ js).map Prod.fst).Nodup:=by rw [Zan];exact yv.net.flat.nodup_iff.mpr (Za9 yv.net.nd)
  rcases q with ⟨hm,q⟩|⟨hm,q⟩
  ·have:e∈(qJ js).map Prod.fst:=by rw [Zan];exact yv.net.flat.mem_iff.mpr hm
   obtain ⟨⟨e0,e'⟩,hq,rfl⟩:=List.mem_map.mp this;obtain ⟨v,hv,t',rfl,V7⟩:=h5.get Ww nd hq;refine WSs.last (Zo (Zff (Xl (Ye (Zaa T) hr T.bM (Zb (pv 1) (Zb (Yd (pv 0) rfl) Za)))) (X1 (Y8 hr) (Yd (pv 0) rfl) (pv 1) (fun _ _=>rfl)) (Zk (Zb Zg (Zb Zg Za))))) (exR rfl (exR rfl ⟨x,_,dx,_,_,rfl,h1,T.af,T.bI,rfl,t,jo,_,kj,rfl,ht,h4,_,rfl,?_⟩));rw [hv];exact Ze3 ⟨_,rfl,x,_,dx,_,_,rfl,h1,T.af,T.bI,rfl,_,rfl,jo,_,rfl,by rw [<-hv];exact Wc.t (k:=Xe e0) h4 ht,q t' e' hq V7⟩
  ·have hv:Yy kj (Xe e)=none:=h5.none Ww (by rw [Zan];exact fun z=>hm (yv.net.flat.mem_iff.mp z));refine WSs.last (Zo (Zff (Xl (Ye (Zaa T) hr T.bM (Zb (pv 1) (Zb (Yd (pv 0) rfl) Za)))) (X1 (Y8 hr) (Yd (pv 0) rfl) (pv 1) (fun _ _=>rfl)) (Zk (Zb Zg (Zb Zg Za))))) (exR rfl (exR rfl ⟨x,_,dx,_,_,rfl,h1,T.af,T.bI,rfl,t,jo,_,kj,rfl,ht,h4,_,rfl,?_⟩));rw [hv];exact W5 ⟨szA,fun t' H' s' n' e'=>q t' H' s' n' e'⟩
def Ydv(sg:List (Str×Str×Str))(e:Zc):Bool:=decide (e∈sg.map Prod.snd)
def Zwy:Sp:=fun vs H Q _=>∃(x t:Addr) (e:Zc) (ps:List Zc) (js:List (Zc×Zc)) (sg:List (Str×Str×Str)),vs=[.ref x,.ref t]/\Yf T H x ps js sg/\Y4 ps js sg/\Zm H t e /\
 ∀nm:Str,((nm,e)∈qS sg/\W9 nm/\e∈sg.map Prod.snd)\/(nm = "" /\e∉sg.map Prod.snd)->Q (.str nm) H
theorem Zgf:Z2 P w K mg base CX0 3 T.aF.f T.aF.fd ["self", "end"] (Zwy T):=by
 refine T.aF.F.okW Zgg fun a9 A outer s H vs Q E hr h=>?_
 ·obtain ⟨x,t,e,ps,js,sg,rfl,tr,yv,ht,q⟩:=h;intro X;obtain ⟨dx,po,jo,so,si,kp,ks,kj,ko,h1,_,_,_,_,_,_,h8,h9⟩:=tr.ex;have nd:((qO sg).map Prod.fst).Nodup:=by rw [Zoz];exact yv.sigs.one
  by_cases hm:e∈sg.map Prod.snd
  ·obtain ⟨⟨nm,e1,e2⟩,hg,rfl⟩:=List.mem_map.mp hm;obtain ⟨v,hv,rfl⟩:=h9.get Ww nd (a:=(e1,e2)) (b:=nm) (List.mem_map.mpr ⟨_,hg,rfl⟩);refine WSs.last (Zo (Zff (Xl (Ye (Zaa T) hr T.bM (Zb (pv 1) (Zb (Yd (pv 0) rfl) Za)))) (X1 (Y8 hr) (Yd (pv 0) rfl) (pv 1) (fun _ _=>rfl)) Zg)) (exR rfl (exR rfl ⟨x,_,dx,_,_,rfl,h1,T.af,T.aT,rfl,t,si,_,ko,rfl,ht,h8,_,rfl,?_⟩));have hv':Yy ko (Xe (e1,e2))=some (.str nm):=hv;rw [show ((nm,e1,e2):Str×Str×Str).snd=(e1,e2) from rfl,hv'];exact Ze3 ⟨_,rfl,x,_,dx,_,_,rfl,h1,T.af,T.aT,rfl,_,rfl,si,_,rfl,by rw [<-hv'];exact Wc.t (k:=Xe (e1,e2)) h8 ht,q nm (.inl ⟨List.mem_map.mpr ⟨_,hg,rfl⟩,yv.sigs.name _ hg,hm⟩)⟩
  ·have hv:Yy ko (Xe e)=none:=h9.none Ww (by rw [Zoz];exact hm);refine WSs.last (Zo (Zff (Xl (Ye (Zaa T) hr T.bM (Zb (pv 1) (Zb (Yd (pv 0) rfl) Za)))) (X1 (Y8 hr) (Yd (pv 0) rfl) (pv 1) (fun _ _=>rfl)) Zg)) (exR rfl (exR rfl ⟨x,_,dx,_,_,rfl,h1,T.af,T.aT,rfl,t,si,_,ko,rfl,ht,h8,_,rfl,?_⟩));rw [hv];exact W5 (q _ (.inr ⟨rfl,hm⟩))
def Zxf:Sp:=fun vs H Q _=>∃(x:Addr) (ps:List Zc) (js:List (Zc×Zc)) (sg:List (Str×Str×Str)),vs=[.ref x]/\Yf T H x ps js sg/\Y4 ps js sg/\∀ss:List Str,ss.Perm (ps.map Prod.snd)->PyProof.Rows.sortedS ss=true->New H (.lst (ss.map V.str)) Q
theorem Zbo:Z2 P w K mg base CX0 1 T.aE.f T.aE.fd ["self"] (Zxf T):=by
 refine T.aE.F.okW Zjm fun a9 A outer s H vs Q E hr h=>?_
 ·obtain ⟨x,ps,js,sg,rfl,tr,yv,q⟩:=h;intro X;obtain ⟨dx,po,jo,so,si,kp,ks,kj,ko,h1,h2,h3,_⟩:=tr.ex;refine WSs.last (Zo (Zz (r:=Zig) (Zca rfl) (by rfl) T.cK PyProof.Rows.boot_sorted (Zb (Yd (pv 0) rfl) Za))) (exR rfl ⟨x,_,dx,_,_,rfl,h1,T.af,T.az,rfl,po,kp,ps.map Prod.snd,rfl,.inl h2,?_,by rw [List.length_map];have:=yv.len;lia,q⟩);have:=congrArg (List.map kV) h3.keys;rw [List.map_map,List.map_map] at this;refine Eq.trans this ?_;rw [<-Zo4,List.map_map]
  rfl
theorem X4.gate{T:Tx K mg}{k:Str}{C x:Addr}{nm:Str}{H:Hp}(h:X4 T k C)(o:Zdn H C x nm):∃t,Xy K H (.ref x) t/\kitOne K t (.ref T.aQ)=some (decide (k = "gate")):=by
 obtain ⟨dx,o⟩:=o;rcases h with ⟨rfl,rfl⟩|⟨rfl,rfl⟩|⟨rfl,rfl⟩|⟨rfl,rfl⟩|⟨rfl,rfl|rfl⟩
 ·exact ⟨_,Xy.ins o T.cV T.er T.tG T.tK T.et,T.gP⟩
 ·exact ⟨_,Xy.ins o T.dg T.fT T.tG T.tK T.fU,T.hZ⟩
 ·exact ⟨_,Xy.ins o T.dU T.gA T.tG T.tK T.gB,T.iu⟩
 ·exact ⟨_,Xy.ins o T.dR T.gy T.tG T.tK T.gz,T.ir⟩
 ·exact ⟨_,Xy.ins o T.fk T.gw T.tG T.tK T.gx,T.iq⟩
 ·exact ⟨_,Xy.ins o T.de T.fR T.tG T.tK T.fS,T.hW⟩
theorem X4.pts{T:Tx K mg}{k:Str}{C x:Addr}{nm:Str}{H:Hp}(h:X4 T k C)(o:Zdn H C x nm):∃t,Xy K H (.ref x) t/\kitOne K t (.ref T.al)=some (decide (k = "points")):=by
 obtain ⟨dx,o⟩:=o;rcases h with ⟨rfl,rfl⟩|⟨rfl,rfl⟩|⟨rfl,rfl⟩|⟨rfl,rfl⟩|⟨rfl,rfl|rfl⟩
 ·exact ⟨_,Xy.ins o T.cV T.er T.tG T.tK T.et,T.gQ⟩
 ·exact ⟨_,Xy.ins o T.dg T.fT T.tG T.tK T.fU,T.ib⟩
 ·exact ⟨_,Xy.ins o T.dU T.gA T.tG T.tK T.gB,T.iy⟩
 ·exact ⟨_,Xy.ins o T.dR T.gy T.tG T.tK T.gz,T.ix⟩
 ·exact ⟨_,Xy.ins o T.fk T.gw T.tG T.tK T.gx,T.iw⟩
 ·exact ⟨_,Xy.ins o T.de T.fR T.tG T.tK T.fS,T.ia⟩
def Zc2(ps:List Zc)(kd:Str)(ss:List Str):List Str:=ss.filter fun n=>decide (((kd,n):Zc)∈ps)
theorem Zo9{ps:List Zc}(h:(ps.map Prod.snd).Nodup){a b:Zc}(ha:a∈ps)(hb:b∈ps)(e:a.2=b.2):a=b:=by
 induction ps with
 | nil=>cases ha
 | cons p r ih =>
  rw [List.map_cons,List.nodup_cons] at h;rcases List.mem_cons.mp ha with rfl|S0
  ·rcases List.mem_cons.mp hb with rfl|O4
   ·rfl
   ·exact absurd (List.mem_map.mpr ⟨b,O4,e.symm⟩) h.1
  ·rcases List.mem_cons.mp hb with rfl|O4
   ·exact absurd (List.mem_map.mpr ⟨a,S0,e⟩) h.1
   ·exact ih h.2 S0 O4
theorem Zpp{ps:List Zc}{kd n:Str}{ss:List Str}{j:Nat}(h:ss[j]? =some n):Zc2 ps kd (ss.take (j+1))=Zc2 ps kd (ss.take j)++if ((kd,n):Zc)∈ps then [n] else []:=by
 unfold Zc2;rw [List.take_add_one,h,List.filter_append,show (some n).toList=[n] from rfl,List.filter_cons]
 by_cases z:((kd,n):Zc)∈ps
 ·rw [if_pos (decide_eq_true z),if_pos z,List.filter_nil]
 ·rw [if_neg (by simpa using z),if_neg z,List.filter_nil]
theorem Zf1(ps:List Zc)(kd:Str)(ss:List Str):(Zc2 ps kd ss).length<=ss.length:=List.length_filter_le _ _
theorem Zm7{T:Tx K mg}{Cc x l D:Addr}{kd:Str}{ss:List Str}{ps:List Zc}{js:List (Zc×Zc)}{sg:List (Str×Str×Str)}{H1:Hp}{Q:VK}{σ:St}{E:XK}
  (hk:∀{k:Str} {C y:Addr} {nm:Str} {H:Hp},X4 T k C->Zdn H C y nm->∃t,Xy K H (.ref y) t/\kitOne K t (.ref Cc)=some (decide (k=kd)))
  (tr:Yf T H1 x ps js sg) (yv:Y4 ps js sg) (hp:ss.Perm (ps.map Prod.snd)) (hl:H1 l=some (.lst (ss.map V.str))) (hD:H1 D=none)
  (q:∀H',Same H1 H'->H' D=some (.lst ((Zc2 ps kd ss).map V.str))->Q (.ref D) H') {fr:St->St} (F6:fr σ=[none,some (.ref x)]) :
  Zft (Itl K l) fr (Ze1 0) (tB (tCB (Zjq K) (Zlo (Zug T.aw "named" (Zss T) [] E (Zjv 1) (Zlo (Zjv 0) Zuk)) (Zlo (tC (.ref Cc)) Zuk)))) (Zjv 0) Q σ H1 D:=by
 obtain ⟨dx,po,jo,so,si,kp,ks,kj,ko,h1,_⟩:=tr.ex;have hn:ss.length<=40:=by rw [hp.length_eq,List.length_map];exact yv.len
 refine Xj (xs:=ss.map V.str) (fun i ys H'=>ys=(Zc2 ps kd (ss.take i)).map V.str/\H' D=some (.lst ys)/\Same H1 H') ⟨rfl,Zf,Same.new hD⟩ ?_ ?_ ?_
 ·rintro i ys H' _ ⟨_,_,sm⟩;exact SqL.of (sm.at hl)
 ·rintro j v ys H' hj ⟨rfl,p8,sm⟩;rw [List.getElem?_map] at hj;obtain ⟨n,hy,rfl⟩:=Option.map_eq_some_iff.mp hj;obtain ⟨⟨k,n'⟩,hm,rfl⟩:=List.mem_map.mp (hp.mem_iff.mp (List.mem_of_getElem? hy));unfold Zam;rw [F6];refine ⟨Wp.set rfl,_,rfl,x,dx,_,rfl,sm.at h1,rfl,_,rfl,x,n',k,ps,js,sg,rfl,tr.mono sm,yv,hm,fun y C H2 s2 hC hO=>?_⟩;obtain ⟨t,ht,hkt⟩:=hk hC hO;have hd:decide (k=kd)=decide (((kd,n'):Zc)∈ps):=by
   refine decide_eq_decide.mpr ⟨fun e=>e ▸ hm,fun e=>?_⟩;exact congrArg Prod.fst (Zo9 yv.net.nd hm e rfl)
  rw [hd] at hkt;refine ⟨_,_,_,t,rfl,ht,.inr ⟨_,rfl,hkt⟩,_,rfl,?_⟩;have A4:=s2.at p8;rw [Zpp hy];refine Yn (fun hc=>?_) (fun hc=>?_)
  ·rw [if_pos (of_decide_eq_true hc)];refine (exR rfl ⟨A4,?_,?_,Zf,fun b o e=>?_⟩)
   ·rw [List.length_map];have:=Zf1 ps kd (ss.take j);rw [List.length_take] at this;exact Zs (by lia)
   ·rw [List.map_append];rfl
   ·rw [Ze (Zh e hD)];exact s2.at (sm.at e)
  ·rw [if_neg (fun z=>hc (decide_eq_true z)),List.append_nil];exact ⟨rfl,A4,sm.trans s2⟩
 ·rintro ys H6 ⟨rfl,B1,s6⟩;rw [List.length_map,List.take_length] at B1;exact q H6 s6 B1
theorem Zgp(h:PyProof.Rows.sortedS l=true)(f:Str->Bool):PyProof.Rows.sortedS (l.filter f)=true:=by
 refine PyProof.Rows.sortedS_of_pairwise _ (List.Pairwise.filter f ?_);cases l with
 | nil=>exact .nil
 | cons x r=>exact Zed h
def Zsr(kd:Str):Sp:=fun vs H Q _=>∃(x:Addr) (ps:List Zc) (js:List (Zc×Zc)) (sg:List (Str×Str×Str)),vs=[.ref x]/\Yf T H x ps js sg/\Y4 ps js sg/\∀gs:List Str,(gs.Nodup/\PyProof.Rows.sortedS gs=true)->(∀n,n∈gs↔((kd,n):Zc)∈ps)->gs.length<=40->New H (.lst (gs.map V.str)) Q
theorem Zja(h:ss.Perm (ps.map Prod.snd))(n:Str):n∈Zc2 ps kd ss↔((kd,n):Zc)∈ps:=by
 unfold Zc2;rw [List.mem_filter];exact ⟨fun z=>of_decide_eq_true z.2,fun z=>⟨h.mem_iff.mpr (List.mem_map.mpr ⟨_,z,rfl⟩),decide_eq_true z⟩⟩
theorem Zps:Z2 P w K mg base CX0 3 T.cN.f T.cN.fd ["tracks"] (Zsr T "gate"):=by
 refine T.cN.F.okW Zqk fun a9 A outer s H vs Q E hr h=>?_
 ·obtain ⟨x,ps,js,sg,rfl,tr,yv,q⟩:=h;intro X;obtain ⟨dx,po,jo,so,si,kp,ks,kj,ko,h1,_⟩:=tr.ex;refine WSs.last (Zo (Xx (N':=["name", "tracks"]) rfl (Z6.std 1 [0] rfl (by trivial) (by trivial) rfl ⟨rfl,trivial⟩ rfl rfl ⟨(exR rfl ⟨rfl,rfl⟩),trivial⟩) (Ym (Yv (pv 0) T.af T.cx (Zbo T) hr.m T.aE.b .nil Z7)) (fun _ _ _ _=>(W6 (i:=0) (by show (["name", "tracks"]:List Str).Nodup;decide +kernel))) (fun _ _ _ _=>(Zdu (Xl (Zz (r:=Zjq K) Wh (by rfl) T.ay PyProof.Rows.boot_isinstance (Zb (Y0 (pv 1) T.af T.ba (Zey T) hr.m T.ag.b .nil Z7 (Zb (pv 0) Za)) (Zb (Zhk (v:=.ref T.aQ) (by rfl) T.gS rfl) Za)))))) (fun _ _ _ _=>(pv 0)))) (exR rfl ⟨x,dx,_,rfl,h1,rfl,x,ps,js,sg,rfl,tr,yv,fun ss hp hs l H1 s1 n1 e1=>⟨l,rfl,⟨_,SqL.of e1⟩,fun D hD=>Zm7 X4.gate (tr.mono s1) yv hp e1 hD (fun H' s' e'=>q _ ?_ (Zja hp) ?_ D H' (s1.trans s') (s1.free hD) e') rfl⟩⟩)
  ·exact ⟨(hp.nodup_iff.mpr yv.net.nd).filter _,Zgp hs _⟩
  ·have:=Zf1 ps "gate" ss;rw [hp.length_eq,List.length_map] at this;exact Nat.le_trans this yv.len
theorem Zhy:Z2 P w K mg base CX0 3 T.cz.f T.cz.fd ["tracks"] (Zsr T "points"):=by
 refine T.cz.F.okW Zn6 fun a9 A outer s H vs Q E hr h=>?_
 ·obtain ⟨x,ps,js,sg,rfl,tr,yv,q⟩:=h;intro X;obtain ⟨dx,po,jo,so,si,kp,ks,kj,ko,h1,_⟩:=tr.ex;refine WSs.last (Zo (Xx (N':=["name", "tracks"]) rfl (Z6.std 1 [0] rfl (by trivial) (by trivial) rfl ⟨rfl,trivial⟩ rfl rfl ⟨(exR rfl ⟨rfl,rfl⟩),trivial⟩) (Ym (Yv (pv 0) T.af T.cx (Zbo T) hr.m T.aE.b .nil Z7)) (fun _ _ _ _=>(W6 (i:=0) (by show (["name", "tracks"]:List Str).Nodup;decide +kernel))) (fun _ _ _ _=>(Zdu (Xl (Zz (r:=Zjq K) Wh (by rfl) T.ay PyProof.Rows.boot_isinstance (Zb (Y0 (pv 1) T.af T.ba (Zey T) hr.m T.ag.b .nil Z7 (Zb (pv 0) Za)) (Zb (Zhk (v:=.ref T.al) (by rfl) T.gC rfl) Za)))))) (fun _ _ _ _=>(pv 0)))) (exR rfl ⟨x,dx,_,rfl,h1,rfl,x,ps,js,sg,rfl,tr,yv,fun ss hp hs l H1 s1 n1 e1=>⟨l,rfl,⟨_,SqL.of e1⟩,fun D hD=>Zm7 X4.pts (tr.mono s1) yv hp e1 hD (fun H' s' e'=>q _ ?_ (Zja hp) ?_ D H' (s1.trans s') (s1.free hD) e') rfl⟩⟩)
  ·exact ⟨(hp.nodup_iff.mpr yv.net.nd).filter _,Zgp hs _⟩
  ·have:=Zf1 ps "points" ss;rw [hp.length_eq,List.length_map] at this;exact Nat.le_trans this yv.len
theorem Zqd{α β γ:Type}{F:α->β->Prop}{G:α->γ->Prop}{g:β->γ}{l:List α}{m:List β}(h:Paired F l m)(k:∀a b,F a b->G a (g b)):Paired G l (m.map g):=by
 induction h with
 | nil=>exact .nil
 | cons r t ih=>exact .cons (k _ _ r) ih
theorem Zrn{α β:Type}{f:α->β}(hf:∀a b,f a=f b->a=b){l:List α}(h:l.Nodup):(l.map f).Nodup:=List.pairwise_map.mpr (h.imp fun z e=>z (hf _ _ e))
def Xw(l:List (Str×Str)):List (Key×V):=l.map fun p=>(Z1 p.1,V.str p.2)
def Yct:Sp:=fun vs H Q _=>∃(x:Addr) (ps:List Zc) (js:List (Zc×Zc)) (sg:List (Str×Str×Str)),vs=[.ref x]/\Yf T H x ps js sg/\Y4 ps js sg/\∀gs:List Str,(gs.Nodup/\PyProof.Rows.sortedS gs=true)->(∀n,n∈gs↔(("points",n):Zc)∈ps)->gs.length<=40->New H (.dK (Xw (gs.map fun n=>(n, "left")))) Q
theorem Zim:Z2 P w K mg base CX0 4 T.bw.f T.bw.fd ["tracks"] (Yct T):=by
 refine T.bw.F.okW Zh8 fun a9 A outer s H vs Q E hr h=>?_
 ·obtain ⟨x,ps,js,sg,rfl,tr,yv,q⟩:=h;intro X;refine WSs.last (Zo (X5 (r:=Zra) (Zln rfl) (by rfl) T.ee PyProof.Rows.boot_dict (Zb (Xx (N':=["points"]) rfl (Z6.std 1 [] rfl (by trivial) (by trivial) rfl trivial rfl rfl trivial) (Ym (Ye (Zhy T) hr T.dz (Zb (pv 0) Za))) (fun _ _ _ _=>(W6 (i:=0) (by show (["points"]:List Str).Nodup;decide +kernel))) (fun _ _ _ _=>Za6) (fun _ _ _ _=>(Zk (Zb (pv 0) (Zb Zg Za))))) Za))) (exR rfl ⟨x,ps,js,sg,rfl,tr,yv,fun gs nd hm hn l H1 s1 n1 e1=>⟨l,rfl,⟨_,SqL.of e1⟩,fun D hD=>Xj (xs:=gs.map V.str) (fun i ys H'=>(∃ts:List Addr,ys=ts.map V.ref/\Paired (Zm H') ts ((gs.take i).map fun n=>(n, "left")))/\H' D=some (.lst ys)/\Same H1 H') ⟨⟨[],rfl,.nil⟩,Zf,Same.new hD⟩ ?_ ?_ ?_⟩⟩)
  ·rintro i ys H' _ ⟨_,_,sm⟩;exact SqL.of (sm.at e1)
  ·rintro j v ys H' hj ⟨⟨ts,rfl,d3⟩,p8,sm⟩;rw [List.getElem?_map] at hj;obtain ⟨n,hy,rfl⟩:=Option.map_eq_some_iff.mp hj;have hl:=Paired.length d3;rw [List.length_map,List.length_take] at hl;unfold Zam;refine ⟨Wp.set rfl,_,rfl,szA,fun t H2 s2 n2 e2=>⟨s2.at p8,?_,⟨ts++[t],?_,?_⟩,Zf,fun b o e=>?_⟩⟩
   ·rw [List.length_map];exact Zs (by lia)
   ·rw [List.map_append];rfl
   ·rw [List.take_add_one,hy,List.map_append];have off:∀{b:Addr} {p:Zc},Zm H2 b p->Zm (upd H2 D (.lst (ts.map V.ref++[V.ref t]))) b p:=fun {b p} z=>by
     unfold Zm at z ⊢;rw [Ze fun y=>by rw [y,s2.at p8] at z;cases z];exact z
    exact Paired.append (Paired.mapP d3 fun _ _ r=>off (r.mono s2)) (.cons (off e2) .nil)
   ·rw [Ze (Zh e hD)];exact s2.at (sm.at e)
  ·rintro ys H6 ⟨⟨ts,rfl,d3⟩,B1,s6⟩;rw [List.length_map,List.take_length] at d3;refine ⟨D,ts,Xw (gs.map fun n=>(n, "left")),rfl,B1,?_,?_,fun d H7 s7 n7 e7=>q gs nd hm hn d H7 (s1.trans (s6.trans s7)) (s1.free (s6.free n7)) e7⟩
   ·unfold Xw;exact Zqd d3 fun _ _ r=>r
   ·unfold Xw;rw [List.map_map,List.map_map];exact Zrn Y1 nd.1
def Zvm(kd:Str):Sp:=fun vs H Q _=>∃(x:Addr) (g:Str) (ps:List Zc) (js:List (Zc×Zc)) (sg:List (Str×Str×Str)),vs=[.ref x,.str g]/\Yf T H x ps js sg/\Y4 ps js sg/\((kd,g):Zc)∈ps/\∀H',Same H H'->Q .non H'
theorem Zlv:Z2 P w K mg base CX0 4 T.bR.f T.bR.fd ["tracks", "gate"] (Zvm T "gate"):=by
 refine T.bR.F.okW Zkr fun a9 A outer s H vs Q E hr h=>?_
 ·obtain ⟨x,g,ps,js,sg,rfl,tr,yv,hm,q⟩:=h;intro X;refine WSs.last (Zx (Zj (r:=Zbd K) (Zb4 hr) (pv 1) (Ye (Zps T) hr T.gp (Zb (pv 0) Za)) (by with_unfolding_all rfl)) Zq Zp) (exR rfl (exR rfl ⟨x,ps,js,sg,rfl,tr,yv,fun gs nd hg hl l H1 s1 n1 e1=>.inl ⟨l,_,rfl,.inl (SqL.of e1),rfl,Wg _,_,rfl,?_⟩⟩));rw [if_pos rfl,Xp,decide_eq_true ((hg g).mpr hm)];exact W5 (q H1 s1)
theorem Zis:Z2 P w K mg base CX0 4 T.bz.f T.bz.fd ["tracks", "points"] (Zvm T "points"):=by
 refine T.bz.F.okW Ziz fun a9 A outer s H vs Q E hr h=>?_
 ·obtain ⟨x,g,ps,js,sg,rfl,tr,yv,hm,q⟩:=h;intro X;refine WSs.last (Zx (Zj (r:=Zbd K) (Zb4 hr) (pv 1) (Ye (Zhy T) hr T.dz (Zb (pv 0) Za)) (by with_unfolding_all rfl)) Zq Zp) (exR rfl (exR rfl ⟨x,ps,js,sg,rfl,tr,yv,fun gs nd hg hl l H1 s1 n1 e1=>.inl ⟨l,_,rfl,.inl (SqL.of e1),rfl,Wg _,_,rfl,?_⟩⟩));rw [if_pos rfl,Xp,decide_eq_true ((hg g).mpr hm)];exact W5 (q H1 s1)
def Ycn:Sp:=fun vs H Q _=>∃n:Nat,vs=[.int (n:Int)]/\1<=n/\n<=4/\Q .non H
theorem Zij:Z2 P w K mg base CX0 1 T.bx.f T.bx.fd ["long"] Ycn:=by
 refine T.bx.F.okW Zio fun a9 A outer s H vs Q E hr h=>?_
 ·obtain ⟨n,rfl,h1,h2,q⟩:=h;intro X;refine WSs.last (Zx (PW.pt (Zfc (W1 (Xl (Zz (r:=Zjq K) Wh (by rfl) T.ay PyProof.Rows.boot_isinstance (Zb (pv 0) (Zb (Zd7 (v:=.ty "int") (by rfl) T.ik PyProof.Rows.boot_int rfl) Za))))) (Zfc (Xl (Zz (r:=Zjq K) Wh (by rfl) T.ay PyProof.Rows.boot_isinstance (Zb (pv 0) (Zb (Zd7 (v:=.ty "bool") (by rfl) T.gZ PyProof.Rows.boot_bool rfl) Za)))) (Zda (W1 (Zu8 Zyp Zyp Zd (pv 0) (Zgb (by rfl) T.dN))))))) Zq Zp) (exR rfl ⟨_,_,_,_,rfl,Xy.int _,.inl (exR rfl T.iD),_,rfl,W5 (exR rfl ⟨_,_,_,_,rfl,Xy.int _,.inl (exR rfl T.iE),_,rfl,W5 (exR rfl (exQ rfl rfl (exR rfl (Yn (fun _=>(exQ rfl rfl (exR rfl ?_))) (fun z=>absurd (decide_eq_true (by lia)) z)))))⟩)⟩);rw [decide_eq_true (show (n:Int)<=4 by lia)];exact W5 q
def Zvq(H:Hp)(x:Addr)(nm:Str)(y:Addr):Prop:=∃(dx po jo so si:Addr) (kp:List (Key×V)),H x=some (.ins T.aw dx [("part_of",.ref po),("joined",.ref jo),("post_of",.ref so),("signal_on",.ref si)])/\H po=some (.dK kp)/\Yy kp (Z1 nm)=some (.ref y)
theorem Yf.part(tr:Yf U H x ps js sg)(yv:Y4 ps js sg)(hm:((k,nm):Zc)∈ps):∃y C,Zvq U H x nm y/\X4 U k C/\Zdn H C y nm:=by
 obtain ⟨dx,po,jo,so,si,kp,ks,kj,ko,h1,h2,h3,_⟩:=tr.ex;have hq:((nm,k):Str×Str)∈qP ps:=List.mem_map.mpr ⟨(k,nm),hm,rfl⟩;obtain ⟨v,hv,y,C,rfl,hC,hO⟩:=h3.get Y1 (by rw [Zo4];exact yv.net.nd) hq;exact ⟨y,C,⟨dx,po,jo,so,si,kp,h1,h2,hv⟩,hC,hO⟩
def Zve:Sp:=fun vs H Q _=>∃(x y:Addr) (nm:Str),vs=[.ref x,.str nm]/\Zvq T H x nm y/\W9 nm/\∀H',Same H H'->Q (.ref y) H'
theorem Za3:Z2 P w K mg base CX0 2 T.ag.f T.ag.fd ["self", "name"] (Zve T):=by
 refine T.ag.F.okW Ze2 fun a9 A outer s H vs Q E hr h=>?_
 ·obtain ⟨x,y,nm,rfl,⟨dx,po,jo,so,si,kp,h1,h2,hv⟩,hn,q⟩:=h;intro X;refine WSs.step (Zx (PW.pt (Zfc (W1 (Xl (Ye (Zg9 T) hr T.dw (Zb (pv 1) Za)))) (Zda (Zj (r:=Zbd K) (Zb4 hr) (pv 1) (Yd (pv 0) rfl) (by with_unfolding_all rfl))))) Zq Zp) (exR rfl ⟨nm,rfl,hn,fun H1 s1=>(exR rfl (Yn (fun z=>absurd z (by decide)) (fun _=>(exR rfl (exR rfl ⟨x,_,dx,_,_,rfl,s1.at h1,T.af,T.az,rfl,.inr (.inl ⟨po,_,rfl,Wc.k (k:=Z1 nm) (s1.at h2),_,rfl,Yn (fun z=>?_) (fun _=>?_)⟩)⟩)))))⟩)
  ·rw [hv] at z;exact absurd z (by simp)
  exact WSs.last (Zo (X1 (Y8 hr) (Yd (pv 0) rfl) (pv 1) (fun _ _=>rfl))) (exR rfl ⟨x,_,dx,_,_,rfl,s1.at h1,T.af,T.az,rfl,_,rfl,po,_,rfl,by rw [<-hv];exact Wc.k (k:=Z1 nm) (s1.at h2),q H1 s1⟩)
def Zy7:Sp:=fun vs H Q _=>∃(x:Addr) (g l:Str) (ps:List Zc) (js:List (Zc×Zc)) (sg:List (Str×Str×Str)),vs=[.ref x,.str g,.str l]/\Yf T H x ps js sg/\Y4 ps js sg/\(("points",g):Zc)∈ps/\(l = "left" \/l = "right")/\∀H',Same H H'->Q .non H'
theorem Zmm:Z2 P w K mg base CX0 5 T.bZ.f T.bZ.fd ["tracks", "points", "lie"] (Zy7 T):=by
 refine T.bZ.F.okW Zmf fun a9 A outer s H vs Q E hr h=>?_
 ·obtain ⟨x,g,l,ps,js,sg,rfl,tr,yv,hm,hl,q⟩:=h;intro X;obtain ⟨dx,po,jo,so,si,kp,ks,kj,ko,h1,_⟩:=tr.ex;refine WSs.step (Yi (Ye (Zis T) hr T.dM (Zb (pv 0) (Zb (pv 1) Za)))) (exR rfl (exR rfl ⟨x,g,ps,js,sg,rfl,tr,yv,hm,fun H1 s1=>?_⟩));obtain ⟨y,C,hp,hC,⟨dy,hO⟩⟩:=(tr.mono s1).part yv hm;obtain ⟨f1,d1,m1,b1,g1⟩:=hC.lies;refine WSs.last (Zx (Zj (r:=Zbd K) (Zb4 hr) (pv 2) Zu9 (by with_unfolding_all rfl)) Zq Zp) (exR rfl (WE.of (Yv (Y0 (pv 0) T.af T.ba (Za3 T) hr.m T.ag.b .nil Z7 (Zb (pv 1) Za)) hC.cls.1 m1 (g1 _ _ _ 4 (by decide)) hr b1 .nil Z7) (exR rfl ⟨x,dx,_,rfl,s1.at h1,rfl,_,rfl,x,y,g,rfl,hp,yv.name _ hm,fun H2 s2=>⟨y,dy,_,rfl,s2.at hO,rfl,_,rfl,fun p H3 s3 n3 e3=>.inl ⟨p,_,rfl,.inl (SqL.of e3),rfl,Wg _,_,rfl,?_⟩⟩⟩)));rw [if_pos rfl,Xp,show decide (l∈Zcs "points")=true by rcases hl with rfl|rfl <;>decide +kernel];exact W5 (q H3 (s1.trans (s2.trans s3)))
abbrev TrD:=Str×Nat×List Zc
abbrev WSt:=List TrD×List (Str×Str)×List Zc
def Wz(F:Addr->Prop)(H:Hp)(a:Addr)(d:TrD):Prop:=∃dx l,H a=some (.ins T.bJ dx [("name",.str d.1),("long",.int (d.2.1:Int)),("stands",.ref l)])/\Zl H l d.2.2/\¬F l
def Zyy:Sp:=fun vs H Q _=>∃(H0:Hp) (x dx:Addr) (nm:Str) (n:Nat) (g:Str),vs=[.ref x,.str nm,.int (n:Int),.str g]/\H0 x=none/\Same H0 H/\H x=some (.ins T.bJ dx [])/\∀H' l,Same H0 H'->H0 l=none->l≠x->H' x=some (.ins T.bJ dx [("name",.str nm),("long",.int (n:Int)),("stands",.ref l)])->Zl H' l [(g, "")]->Q .non H'
theorem Zh4:Z2 P w K mg base CX0 1 T.aL.f T.aL.fd ["self", "name", "long", "gate"] (Zyy T):=by
 refine T.aL.F.okW Zhu fun a9 A outer s H vs Q E hr h=>?_
 ·obtain ⟨H0,x,dx,nm,n,g,rfl,h0,sm,hx,q⟩:=h;intro X;refine WSs.step (Zav (pv 0) (pv 1) rfl) (exR rfl (exR rfl ⟨x,_,dx,[],rfl,hx,T.bA,T.dF,by simp,?_⟩));refine WSs.step (Zav (pv 0) (pv 2) rfl) (exR rfl (exR rfl ⟨x,_,dx,[("name",.str nm)],rfl,Zf,T.bA,T.dG,by simp,?_⟩));refine WSs.last (Zav (pv 0) (Zt (Zb (Zk (Zb (pv 3) (Zb Zg Za))) Za)) rfl) (exR rfl ⟨szA,fun t H1 s1 n1 e1=>⟨szA,fun l H2 s2 n2 e2=>(exR rfl ⟨x,_,dx,[("name",.str nm),("long",.int (n:Int))],rfl,s2.at (s1.at Zf),T.bA,T.aC,by simp,?_⟩)⟩⟩);have lx:l≠x:=fun z=>by rw [z,s1.at Zf] at n2;cases n2
  have tx:t≠x:=fun z=>by rw [z,Zf] at n1;cases n1
  have off:Same H0 H1:=fun b o e=>s1.at (by rw [Ze (Zh e h0),Ze (Zh e h0)];exact sm.at e)
  refine q _ l (fun b o e=>?_) (off.free n2) lx Zf ⟨[t],?_,.cons ?_ .nil⟩
  ·rw [Ze (Zh e h0)];exact s2.at (off.at e)
  ·rw [Ze lx];exact e2
  ·unfold Zm;rw [Ze tx];exact s2.at e1
def Zpz:List V->Hp->VK->Prop:=fun vs H Q=>∃(nm:Str) (n:Nat) (g:Str),vs=[.str nm,.int (n:Int),.str g]/\∀x dx l H',Same H H'->H x=none->H l=none->l≠x->H' x=some (.ins T.bJ dx [("name",.str nm),("long",.int (n:Int)),("stands",.ref l)])->Zl H' l [(g, "")]->Q (.ref x) H'
theorem Zu1:∀vs H Q,Zpz T vs H Q ->
  ∀x dx,H x=none->H dx=none->dx≠x->Zyy T (.ref x ::(vs++[])) (upd (upd H dx (.own x)) x (.ins T.bJ dx [])) (fun v H2=>v=.non/\Q (.ref x) H2) E0:=by
 rintro vs H Q ⟨nm,n,g,rfl,q⟩ x dx hx hdx ne;refine ⟨H,x,dx,nm,n,g,rfl,hx,fun b o e=>?_,Zf,fun H' l s hl lx h1 h2=>⟨rfl,q x dx l H' s hx hl lx h1 h2⟩⟩;rw [Ze (Zh e hx),Ze (Zh e hdx)];exact e
def trK(as:List Addr)(ts:List TrD):List (Key×V):=(as.zip ts).map fun p=>(Z1 p.2.1,V.ref p.1)
set_option genInjectivity false in
set_option genSizeOf false in
structure WAd where
 dx:Addr
 ld:Addr
 td:Addr
 ml:Addr
 as:List Addr
structure WAt(T:Tx K mg)(H0 H:Hp)(F:Addr->Prop)(x tr:Addr)(ad:WAd)(st:WSt):Prop where
 obj:H x=some (.ins T.aB ad.dx [("tracks",.ref tr),("lie_of",.ref ad.ld),("train_of",.ref ad.td),("mishaps",.ref ad.ml)])
 lies:H ad.ld=some (.dK (Xw st.2.1))
 trd:H ad.td=some (.dK (trK ad.as st.1))
 trs:Paired (Wz T F H) ad.as st.1
 mis:Zl H ad.ml st.2.2
 fl:F ad.ld
 ft:F ad.td
 fm:F ad.ml
 ne:ad.ld≠ad.td
 fa:∀a∈ad.as,F a
 nd:ad.as.Nodup
 nx:¬F x
 free:∀b,F b->H0 b=none
 same:Same H0 H
 live:∀b,F b->∃o,H b=some o
theorem Wz.mono{F:Addr->Prop}(e:Same H H')(h:Wz U F H a d):Wz U F H' a d:=by
 obtain ⟨dx,l,h1,h2,h3⟩:=h;exact ⟨dx,l,e.at h1,h2.mono e,h3⟩
theorem WAt.mono{F:Addr->Prop}(e:Same H H')(h:WAt U H0 H F x tr ad st):WAt U H0 H' F x tr ad st :=
 ⟨e.at h.obj,e.at h.lies,e.at h.trd,Paired.mapP h.trs fun _ _ r=>r.mono e,h.mis.mono e,h.fl,h.ft,h.fm,h.ne,h.fa,h.nd,h.nx,h.free,h.same.trans e,fun b f=>let ⟨o,z⟩:=h.live b f;⟨o,e.at z⟩⟩
theorem Zh0(h:as.length=ts.length):(trK as ts).map Prod.fst=ts.map fun d=>Z1 d.1:=by
 unfold trK;rw [List.map_map]
 induction as generalizing ts with
 | nil=>cases ts with
  | nil=>rfl
  | cons _ _=>cases h
 | cons a r ih=>cases ts with
  | nil=>cases h
  | cons d t=>exact congrArg _ (ih (Nat.succ.inj h))
def Ycm:Sp:=fun vs H Q _=>∃(H0:Hp) (x dx tr:Addr) (ps:List Zc) (js:List (Zc×Zc)) (sg:List (Str×Str×Str)),vs=[.ref x,.ref tr]/\H0 x=none/\Same H0 H/\H x=some (.ins T.aB dx [])/\Yf T H0 tr ps js sg/\Y4 ps js sg /\
 ∀(gs:List Str) (H':Hp) (F:Addr->Prop) (ad:WAd),(gs.Nodup/\PyProof.Rows.sortedS gs=true)->(∀n,n∈gs↔(("points",n):Zc)∈ps)->gs.length<=40->WAt T H0 H' F x tr ad ([],gs.map fun n=>(n, "left"),[])->Q .non H'
theorem Zc1:Z2 P w K mg base CX0 5 T.aD.f T.aD.fd ["self", "tracks"] (Ycm T):=by
 refine T.aD.F.okW Zhs fun a9 A outer s H vs Q E hr h=>?_
 ·obtain ⟨H0,x,dx,tr,ps,js,sg,rfl,h0,sm,hx,ht,yv,q⟩:=h;intro X;have up:∀{H1:Hp} {o:HO},Same H0 H1->Same H0 (upd H1 x o):=fun s b o e=>by rw [Ze (Zh e h0)];exact s.at e
  refine WSs.step (Zav (pv 0) (pv 1) rfl) (exR rfl (exR rfl ⟨x,_,dx,[],rfl,hx,T.ac,T.ax,by simp,?_⟩));refine WSs.step (Zav (pv 0) (Ye (Zim T) hr T.dJ (Zb (pv 1) Za)) rfl) (exR rfl ⟨tr,ps,js,sg,rfl,ht.mono (up sm),yv,fun gs nd hg hl ld H1 s1 n1 e1=>(exR rfl ⟨x,_,dx,[("tracks",.ref tr)],rfl,s1.at Zf,T.ac,T.bt,by simp,?_⟩)⟩);have m1:Same H0 H1:=(up sm).trans s1;refine WSs.step (Zav (pv 0) Zb8 rfl) fun td H2 s2 n2 e2=>(exR rfl ⟨x,_,dx,[("tracks",.ref tr),("lie_of",.ref ld)],rfl,s2.at Zf,T.ac,T.aA,by simp,?_⟩)
  have m2:Same H0 H2:=(up m1).trans s2;refine WSs.last (Zav (pv 0) (Zt Za) rfl) ⟨szA,fun ml H3 s3 n3 e3=>(exR rfl ⟨x,_,dx,[("tracks",.ref tr),("lie_of",.ref ld),("train_of",.ref td)],rfl,s3.at Zf,T.ac,T.bc,by simp,?_⟩)⟩;have m3:Same H0 H3:=(up m2).trans s3;have lx:ld≠x:=fun z=>by rw [z,Zf] at n1;cases n1
  have tx:td≠x:=fun z=>by rw [z,Zf] at n2;cases n2
  have mx:ml≠x:=fun z=>by rw [z,Zf] at n3;cases n3
  have l2:H2 ld=some (.dK (Xw (gs.map fun n=>(n, "left")))):=s2.at (by rw [Ze lx];exact e1);have l3:H3 ld=some (.dK (Xw (gs.map fun n=>(n, "left")))):=s3.at (by rw [Ze lx];exact l2);have t3:H3 td=some (.dK []):=s3.at (by rw [Ze tx];exact e2);have dif:ld≠td:=fun z=>by rw [<-z,Ze lx,e1] at n2;cases n2
  refine q gs _ (fun b=>b=ld\/b=td\/b=ml) ⟨dx,ld,td,ml,[]⟩ nd hg hl ⟨Zf,?_,?_,.nil,⟨[],?_,.nil⟩,.inl rfl,.inr (.inl rfl),.inr (.inr rfl),dif,(fun _ z=>nomatch z),List.nodup_nil,?_,?_,up m3,?_⟩
  ·rw [Ze lx];exact l3
  ·rw [Ze tx];exact t3
  ·rw [Ze mx];exact e3
  ·rintro (z|z|z)
   ·exact lx z.symm
   ·exact tx z.symm
   ·exact mx z.symm
  ·rintro b (rfl|rfl|rfl)
   ·exact (up sm).free n1
   ·exact (up m1).free n2
   ·exact (up m2).free n3
  ·rintro b (rfl|rfl|rfl)
   ·exact ⟨_,by rw [Ze lx];exact l3⟩
   ·exact ⟨_,by rw [Ze tx];exact t3⟩
   ·exact ⟨_,by rw [Ze mx];exact e3⟩
def Zkt:List V->Hp->VK->Prop:=fun vs H Q=>∃(tr:Addr) (ps:List Zc) (js:List (Zc×Zc)) (sg:List (Str×Str×Str)),vs=[.ref tr]/\Yf T H tr ps js sg/\Y4 ps js sg /\
 ∀(x:Addr) (gs:List Str) (H':Hp) (F:Addr->Prop) (ad:WAd),(gs.Nodup/\PyProof.Rows.sortedS gs=true)->(∀n,n∈gs↔(("points",n):Zc)∈ps)->gs.length<=40->H x=none->WAt T H H' F x tr ad ([],gs.map fun n=>(n, "left"),[])->Q (.ref x) H'
theorem Zp7:∀vs H Q,Zkt T vs H Q ->
  ∀x dx,H x=none->H dx=none->dx≠x->Ycm T (.ref x ::(vs++[])) (upd (upd H dx (.own x)) x (.ins T.aB dx [])) (fun v H2=>v=.non/\Q (.ref x) H2) E0:=by
 rintro vs H Q ⟨tr,ps,js,sg,rfl,ht,yv,q⟩ x dx hx hdx ne;refine ⟨H,x,dx,tr,ps,js,sg,rfl,hx,fun b o e=>?_,Zf,ht,yv,fun gs H' F ad h1 h2 h3 h4=>⟨rfl,q x gs H' F ad h1 h2 h3 hx h4⟩⟩;rw [Ze (Zh e hx),Ze (Zh e hdx)];exact e
theorem Paired.getL{α β:Type}{R:α->β->Prop}{l:List α}{m:List β}{i:Nat}{b:β}(h:Paired R l m)(e:m[i]? =some b):∃a,l[i]? =some a/\R a b:=by
 induction h generalizing i with
 | nil=>cases e
 | cons r t ih=>cases i with
  | zero=>cases e;exact ⟨_,rfl,r⟩
  | succ i=>exact ih e
def Ybi:Sp:=fun vs H Q _=>∃(H0:Hp) (F:Addr->Prop) (x tr:Addr) (ad:WAd) (st:WSt),vs=[.ref x]/\WAt T H0 H F x tr ad st/\∀l H',Same H H'->H l=none->Zl H' l st.2.2->Q (.ref l) H'
theorem W2:Z2 P w K mg base CX0 1 T.av.f T.av.fd ["self"] (Ybi T):=by
 refine T.av.F.okW Zg8 fun a9 A outer s H vs Q E hr h=>?_
 ·obtain ⟨H0,F,x,tr,ad,st,rfl,hw,q⟩:=h;intro X;obtain ⟨ts,h1,h2⟩:=hw.mis;exact WSs.last (Zo (X5 (r:=Zvw K) Zku (by rfl) T.fO PyProof.Rows.boot_list (Zb (Yd (pv 0) rfl) Za))) (exR rfl ⟨x,_,ad.dx,_,_,rfl,hw.obj,T.ac,T.bc,rfl,ad.ml,_,rfl,.inl (SqL.of h1),fun l H1 s1 n1 e1=>q l H1 s1 n1 ⟨ts,e1,Paired.mapP h2 fun _ _ r=>r.mono s1⟩⟩)
def Ya2:Sp:=fun vs H Q _=>∃(H0:Hp) (F:Addr->Prop) (x tr:Addr) (ad:WAd) (st:WSt),vs=[.ref x]/\WAt T H0 H F x tr ad st/\st.1.length<64/\∀ss:List Str,ss.Perm (st.1.map Prod.fst)->PyProof.Rows.sortedS ss=true->New H (.lst (ss.map V.str)) Q
theorem Wf:Z2 P w K mg base CX0 1 T.au.f T.au.fd ["self"] (Ya2 T):=by
 refine T.au.F.okW Zje fun a9 A outer s H vs Q E hr h=>?_
 ·obtain ⟨H0,F,x,tr,ad,st,rfl,hw,hl,q⟩:=h;intro X;refine WSs.last (Zo (Zz (r:=Zig) (Zca rfl) (by rfl) T.cK PyProof.Rows.boot_sorted (Zb (Yd (pv 0) rfl) Za))) (exR rfl ⟨x,_,ad.dx,_,_,rfl,hw.obj,T.ac,T.aA,rfl,ad.td,_,st.1.map Prod.fst,rfl,.inl hw.trd,?_,by rw [List.length_map];exact hl,q⟩);have:=congrArg (List.map kV) (Zh0 (Paired.length hw.trs));rw [List.map_map,List.map_map] at this;rw [List.map_map];exact this
theorem Zc0{as:List Addr}{ts:List TrD}{i:Nat}{a:Addr}{d:TrD}(nd:(ts.map Prod.fst).Nodup)(ha:as[i]? =some a)(hd:ts[i]? =some d):Yy (trK as ts) (Z1 d.1)=some (.ref a):=by
 induction as generalizing ts i with
 | nil=>cases ha
 | cons b r ih=>cases ts with
  | nil=>cases hd
  | cons e t =>
   rw [List.map_cons,List.nodup_cons] at nd;cases i with
   | zero=>cases ha;cases hd;exact Xq rfl
   | succ i =>
    have hm:d.1∈t.map Prod.fst:=List.mem_map.mpr ⟨d,List.mem_of_getElem? (show t[i]? =some d from hd),rfl⟩;have ne:¬Z1 e.1=Z1 d.1:=fun z=>nd.1 (by rw [Y1 _ _ z];exact hm)
    exact (Xh (p:=(Z1 e.1,V.ref b)) ne).trans (ih nd.2 ha hd)
def Ydk:Sp:=fun vs H Q _=>∃(H0:Hp) (F:Addr->Prop) (x tr:Addr) (ad:WAd) (st:WSt) (i:Nat) (a:Addr) (d:TrD),vs=[.ref x,.str d.1]/\WAt T H0 H F x tr ad st/\st.1.length<64/\(st.1.map Prod.fst).Nodup/\ad.as[i]? =some a/\st.1[i]? =some d/\∀H',Same H H'->Q (.ref a) H'
theorem Xz:Z2 P w K mg base CX0 2 T.ah.f T.ah.fd ["self", "name"] (Ydk T):=by
 refine T.ah.F.okW Zfg fun a9 A outer s H vs Q E hr h=>?_
 ·obtain ⟨H0,F,x,tr,ad,st,i,a,d,rfl,hw,hl,nd,ha,hd,q⟩:=h;intro X;refine WSs.step (Zx (Zj (r:=Zbd K) (Zb4 hr) (pv 1) (Yv (pv 0) T.ac T.bd (Wf T) hr.m T.au.b .nil Z7) (by with_unfolding_all rfl)) Zq Zp) (exR rfl (exR rfl ⟨x,ad.dx,_,rfl,hw.obj,rfl,H0,F,x,tr,ad,st,rfl,hw,hl,fun ss hp hs l H1 s1 n1 e1=>.inl ⟨l,_,rfl,.inl (SqL.of e1),rfl,Wg _,_,rfl,?_⟩⟩));rw [if_pos rfl,Xp,decide_eq_true (hp.mem_iff.mpr (List.mem_map.mpr ⟨d,List.mem_of_getElem? hd,rfl⟩))];refine W5 ?_;exact WSs.last (Zo (X1 (Y8 hr) (Yd (pv 0) rfl) (pv 1) (fun _ _=>rfl))) (exR rfl ⟨x,_,ad.dx,_,_,rfl,s1.at hw.obj,T.ac,T.aA,rfl,_,rfl,ad.td,_,rfl,by rw [<-Zc0 nd ha hd];exact Wc.k (k:=Z1 d.1) (s1.at hw.trd),q H1 s1⟩)
def Zxo:Sp:=fun vs H Q _=>∃(H0:Hp) (F:Addr->Prop) (x tr:Addr) (ad:WAd) (st:WSt) (d:TrD),vs=[.ref x,.str d.1]/\WAt T H0 H F x tr ad st/\st.1.length<64/\(st.1.map Prod.fst).Nodup/\d∈st.1/\∀l H',Same H H'->H l=none->Zl H' l d.2.2->Q (.ref l) H'
theorem Zl3:Z2 P w K mg base CX0 3 T.br.f T.br.fd ["self", "name"] (Zxo T):=by
 refine T.br.F.okW Zko fun a9 A outer s H vs Q E hr h=>?_
 ·obtain ⟨H0,F,x,tr,ad,st,d,rfl,hw,hl,nd,hm,q⟩:=h;intro X;obtain ⟨i,hi⟩:=List.mem_iff_getElem?.mp hm;obtain ⟨a,ha,dx,l0,h1,⟨ts,h2,h3⟩,_⟩:=Paired.getL hw.trs hi;exact WSs.last (Zo (X5 (r:=Zvw K) Zku (by rfl) T.fO PyProof.Rows.boot_list (Zb (Yd (Y0 (pv 0) T.ac T.aK (Xz T) hr.m T.ah.b .nil Z7 (Zb (pv 1) Za)) rfl) Za))) (exR rfl ⟨x,ad.dx,_,rfl,hw.obj,rfl,_,rfl,H0,F,x,tr,ad,st,i,a,d,rfl,hw,hl,nd,ha,hi,fun H1 s1=>⟨a,_,dx,_,_,rfl,s1.at h1,T.bA,T.aC,rfl,l0,_,rfl,.inl (SqL.of (s1.at h2)),fun l H2 s2 n2 e2=>q l H2 (s1.trans s2) (s1.free n2) ⟨ts,e2,Paired.mapP h3 fun _ _ r=>r.mono (s1.trans s2)⟩⟩⟩)
def stood(ts:List TrD):List Str:=ts.flatMap fun d=>d.2.2.map Prod.fst
def Zo6(ss B3:List Str)(kvs:List (Key×V)):Prop:=kvs.length<=ss.length+B3.length/\(∀n∈ss,Yy kvs (Z1 n)=some (.bl (decide (n∈B3))))/\((∀n∈B3,n∈ss)->kvs=ss.map fun n=>(Z1 n,V.bl (decide (n∈B3))))
theorem Zyl:Zo6 ss [] (ss.map fun n=>(Z1 n,V.bl false)):=by
 refine ⟨by rw [List.length_map];exact Nat.le_refl _,fun n hn=>?_,fun _=>rfl⟩
 induction ss with
 | nil=>cases hn
 | cons m r ih =>
  rw [List.map_cons]
  by_cases e:m=n
  ·subst e;exact Xq rfl
  ·exact (Xh (p:=(Z1 m,V.bl false)) fun z=>e (Y1 _ _ z)).trans (ih ((List.mem_cons.mp hn).resolve_left fun z=>e z.symm))
theorem Zsi{as:List Addr}{ts:List TrD}{i:Nat}{kv:Key×V}(h:(trK as ts)[i]? =some kv):∃a d,as[i]? =some a/\ts[i]? =some d/\kv=(Z1 d.1,.ref a):=by
 unfold trK at h;rw [List.getElem?_map] at h;obtain ⟨⟨a,d⟩,h',rfl⟩:=Option.map_eq_some_iff.mp h;obtain ⟨h1,h2⟩:=List.getElem?_zip_eq_some.mp h';exact ⟨a,d,h1,h2,rfl⟩
theorem Zet{ts:List TrD}{i:Nat}{d:TrD}(h:ts[i]? =some d):stood (ts.take (i+1))=stood (ts.take i)++d.2.2.map Prod.fst:=by
 unfold stood;rw [List.take_add_one,h,List.flatMap_append];simp
theorem Zpq(ts:List TrD)(i:Nat):(stood (ts.take i)).length<=(stood ts).length:=by
 have h:stood ts=stood (ts.take i)++stood (ts.drop i):=by unfold stood;rw [<-List.flatMap_append,List.take_append_drop]
 rw [h,List.length_append];lia
theorem Zo6.put(h:Zo6 ss B3 kvs):Zo6 ss (B3++[m]) (Wb kvs (Z1 m) (.bl true)):=by
 refine ⟨?_,fun n hn=>?_,fun hs=>?_⟩
 ·have:=Zbm kvs (Z1 m) (.bl true);have:=h.1;rw [List.length_append,List.length_singleton];lia
 ·rw [Zwp]
  by_cases e:n=m
  ·subst e;rw [if_pos rfl,decide_eq_true (List.mem_append.mpr (.inr List.mem_cons_self))]
  ·rw [if_neg fun z=>e (Y1 _ _ z),h.2.1 n hn];congr 2;exact decide_eq_decide.mpr ⟨fun z=>List.mem_append.mpr (.inl z),fun z=>(List.mem_append.mp z).elim id fun z=>absurd (List.mem_singleton.mp z) e⟩
 ·rw [h.2.2 fun n hn=>hs n (List.mem_append.mpr (.inl hn))];have hm:m∈ss:=hs m (List.mem_append.mpr (.inr List.mem_cons_self));have M3:((ss.map fun n=>(Z1 n,V.bl (decide (n∈B3)))).any fun kv=>decide (kv.1=Z1 m))=true:=List.any_eq_true.mpr ⟨_,List.mem_map.mpr ⟨m,hm,rfl⟩,decide_eq_true rfl⟩;unfold Wb;rw [if_pos M3,List.map_map];refine List.map_congr_left fun n _=>?_
  by_cases e:n=m
  ·show (if Z1 n=Z1 m then _ else _)=_;rw [if_pos (by rw [e]),decide_eq_true (List.mem_append.mpr (.inr (List.mem_singleton.mpr e)))]
  ·show (if Z1 n=Z1 m then _ else _)=_;rw [if_neg fun z=>e (Y1 _ _ z)];congr 2;exact decide_eq_decide.mpr ⟨fun z=>List.mem_append.mpr (.inl z),fun z=>(List.mem_append.mp z).elim id fun z=>absurd (List.mem_singleton.mp z) e⟩
def Zxj:Sp:=fun vs H Q _=>∃(H0:Hp) (F:Addr->Prop) (x tr:Addr) (ad:WAd) (st:WSt) (ps:List Zc) (js:List (Zc×Zc)) (sg:List (Str×Str×Str)),vs=[.ref x]/\WAt T H0 H F x tr ad st/\Yf T H0 tr ps js sg/\Y4 ps js sg/\(stood st.1).length<=400 /\
 ∀ss D kvs H',ss.Perm (ps.map Prod.snd)->PyProof.Rows.sortedS ss=true->Zo6 ss (stood st.1) kvs->Same H H'->H D=none->H' D=some (.dK kvs)->Q (.ref D) H'
theorem X6:Z2 P w K mg base CX0 2 T.ao.f T.ao.fd ["self"] (Zxj T):=by
 refine T.ao.F.okW Zar fun a9 A outer s H vs Q E hr h=>?_
 ·obtain ⟨H0,F,x,tr,ad,st,ps,js,sg,rfl,hw,ht,yv,hz,q⟩:=h;intro X;have tr1:=ht.mono hw.same;obtain ⟨V8,po,jo,so,si,kp,ks,kj,ko,h1,_⟩:=tr1.ex;refine WSs.step (Zy (i:=1) Zar.nd (X5 (r:=Zra) (Zln rfl) (by rfl) T.ee PyProof.Rows.boot_dict (Zb (Xx (N':=["part"]) rfl (Z6.std 1 [] rfl (by trivial) (by trivial) rfl trivial rfl rfl trivial) (Ym (Yv (Yd (pv 0) rfl) T.af T.cx (Zbo T) hr.m T.aE.b .nil Z7)) (fun _ _ _ _=>(W6 (i:=0) (by show (["part"]:List Str).Nodup;decide +kernel))) (fun _ _ _ _=>Za6) (fun _ _ _ _=>(Zk (Zb (pv 0) (Zb Zi5 Za))))) Za))) (exR rfl ⟨x,_,ad.dx,_,_,rfl,hw.obj,T.ac,T.ax,rfl,tr,V8,_,rfl,h1,rfl,tr,ps,js,sg,rfl,tr1,yv,fun ss hp hs l H1 s1 n1 e1=>⟨l,rfl,⟨_,SqL.of e1⟩,fun C hC=>Xj (xs:=ss.map V.str) (fun i ys H'=>(∃ts:List Addr,ys=ts.map V.ref/\Paired (fun t (n:Str)=>H' t=some (.tup [.str n,.bl false])) ts (ss.take i))/\H' C=some (.lst ys)/\Same H1 H') ⟨⟨[],rfl,.nil⟩,Zf,Same.new hC⟩ ?_ ?_ ?_⟩⟩)
  ·rintro i ys H' _ ⟨_,_,sm⟩;exact SqL.of (sm.at e1)
  ·rintro j v ys H' hj ⟨⟨ts,rfl,d3⟩,p8,sm⟩;rw [List.getElem?_map] at hj;obtain ⟨n,hy,rfl⟩:=Option.map_eq_some_iff.mp hj;have hl:=Paired.length d3;have hsl:ss.length<=40:=by rw [hp.length_eq,List.length_map];exact yv.len
   rw [List.length_take] at hl;unfold Zam;refine ⟨Wp.set rfl,_,rfl,szA,fun t H2 s2 n2 e2=>⟨s2.at p8,?_,⟨ts++[t],?_,?_⟩,Zf,fun b o e=>?_⟩⟩
   ·rw [List.length_map];exact Zs (by lia)
   ·rw [List.map_append];rfl
   ·rw [List.take_add_one,hy];have off:∀{b:Addr} {xs:List V},H2 b=some (.tup xs)->upd H2 C (.lst (ts.map V.ref++[V.ref t])) b=some (.tup xs):=fun {b xs} z=>by
     rw [Ze fun y=>by rw [y,s2.at p8] at z;cases z];exact z
    exact Paired.append (Paired.mapP d3 fun _ _ r=>off (s2.at r)) (.cons (off e2) .nil)
   ·rw [Ze (Zh e hC)];exact s2.at (sm.at e)
  rintro ys H6 ⟨⟨ts,rfl,d3⟩,hC6,s6⟩;rw [List.length_map,List.take_length] at d3;refine ⟨C,ts,ss.map fun n=>(Z1 n,.bl false),rfl,hC6,Zqd d3 fun _ _ r=>r,?_,fun D H7 s7 n7 e7=>?_⟩
  ·rw [List.map_map];exact Zrn Y1 (hp.nodup_iff.mpr yv.net.nd)
  have O8:=s1.trans (s6.trans s7);have fD:H D=none:=s1.free (s6.free n7);have dt:D≠ad.td:=fun z=>by rw [z,hw.trd] at fD;cases fD
  have hsl:ss.length<=40:=by rw [hp.length_eq,List.length_map];exact yv.len
  refine WSs.step (Zpa (Xn PassesOwn.never rfl (Zw3 (Yd (pv 0) rfl)) (Yw (i:=2) Zar.nd) Zq)) (exR rfl ⟨x,_,ad.dx,_,_,rfl,O8.at hw.obj,T.ac,T.aA,rfl,ad.td,_,rfl,O8.at hw.trd,fun o nf=>Zue (fun i σ H'=>(∃o2 o3,σ=[some (.ref x),some (.ref D),o2,o3])/\Same (upd H ad.td (.frz o (.dK (trK ad.as st.1)))) H'/\∃kvs,H' D=some (.dK kvs)/\Zo6 ss (stood (st.1.take i)) kvs) ⟨⟨none,none,rfl⟩,O8.frz,_,by rw [Ze dt];exact e7,Zyl⟩ ?_ ?_ ?_⟩)
  ·rintro i σ H' _ ⟨_,s2,_⟩;exact s2.at Zf
  ·rintro i kv σ H2 hi ⟨⟨o2,o3,rfl⟩,s2,kvs,hD,hT⟩;obtain ⟨a,d,ha,hd,rfl⟩:=Zsi hi;obtain ⟨a',S0,dx,l,ho,⟨i8,hl,d3⟩,_⟩:=Paired.getL hw.trs hd;rw [ha] at S0;cases S0;have up:∀{b:Addr} {u:HO},H b=some u->(∀k,u ≠ .dK k)->H2 b=some u:=fun {b u} z nk=>s2.at (by rw [Ze fun y=>by rw [y,hw.trd] at z;cases z;exact nk _ rfl];exact z)
   have A1:=Zpq st.1 (i+1);rw [Zet hd,List.length_append,List.length_map] at A1;let I20:=fun (j:Nat) (σ:St) (H':Hp)=>(∃o3,σ=[some (.ref x),some (.ref D),some (.ref a),o3])/\Same (upd H ad.td (.frz o (.dK (trK ad.as st.1)))) H'/\∃kvs,H' D=some (.dK kvs)/\Zo6 ss (stood (st.1.take i)++(d.2.2.take j).map Prod.fst) kvs
   refine WSs.last (Xn PassesOwn.never rfl (Ym (Yd (pv 2) rfl)) (Yw (i:=3) Zar.nd) Zq) (exR rfl ⟨a,_,dx,_,_,rfl,up ho (fun _ z=>nomatch z),T.bA,T.aC,rfl,l,rfl,⟨_,SqL.of (up hl fun _ z=>nomatch z)⟩,X0 (K:=K) (xs:=i8.map V.ref) I20 ⟨⟨_,rfl⟩,s2,kvs,hD,by rw [List.take_zero,List.map_nil,List.append_nil];exact hT⟩ ?_ ?_ ?_⟩)
   ·rintro j σ H' _ ⟨_,s3,_⟩;exact SqL.of (s3.at (by rw [Ze fun y=>by rw [y,hw.trd] at hl;cases hl];exact hl))
   ·rintro j v σ H3 hj ⟨⟨o3,rfl⟩,s3,kv3,hD3,hT3⟩;rw [List.getElem?_map] at hj;obtain ⟨t,C3,rfl⟩:=Option.map_eq_some_iff.mp hj;obtain ⟨p,hpj,p0⟩:=Paired.get d3 C3;have hpt3:H3 t=some (.tup [.str p.1,.str p.2]):=s3.at (by rw [Ze fun y=>by unfold Zm at p0;rw [y,hw.trd] at p0;cases p0];exact p0);have h3:=hT3.1;rw [List.length_append,List.length_map,List.length_take] at h3;refine WSs.last (Wi (Y8 hr) (pv 1) (Zv (K:=K) rfl (pv 3) Zd) Zi5 rfl) (exR rfl (exR rfl (ixT hpt3 0 rfl ⟨D,_,rfl,Zdz.k (k:=Z1 p.1) hD3 (Zs (by lia)),⟨_,rfl⟩,fun b u z=>?_,_,Zf,?_⟩)))
    ·rw [Ze (Zh z (by rw [Ze dt];exact fD))];exact s3.at z
    ·rw [List.take_add_one,hpj,List.map_append,<-List.append_assoc];exact hT3.put
   ·rintro σ H3 ⟨⟨o3,rfl⟩,s3,kv3,hD3,hT3⟩;rw [List.length_map,Paired.length d3,List.take_length] at hT3;exact ⟨⟨_,_,rfl⟩,s3,kv3,hD3,by rw [Zet hd];exact hT3⟩
  ·rintro σ H2 ⟨⟨o2,o3,rfl⟩,s2,kvs,hD,hT⟩;rw [List.take_of_length_le (by unfold trK;rw [List.length_map,List.length_zip,Paired.length hw.trs,Nat.min_self];exact Nat.le_refl _)] at hT;refine ⟨ad.td,o,_,s2.at Zf,nf,WSs.last (Zo (pv 1)) ⟨_,rfl,q ss D kvs _ hp hs (hT) (s2.thaw hw.trd) fD ?_⟩⟩;rw [Ze dt];exact hD
def liQ(l:List (Str×Str))(n:Str):Option Str:=(l.find? fun p=>decide (p.1=n)).map Prod.snd
def Yl(l:List (Str×Str))(n:Str):Str:=(liQ l n).getD ""
theorem Zgc(l:List (Str×Str))(n:Str):Yy (Xw l) (Z1 n)=(liQ l n).map V.str:=by
 unfold Xw liQ
 induction l with
 | nil=>rfl
 | cons p r ih =>
  rw [List.map_cons,List.find?_cons]
  by_cases e:p.1=n
  ·rw [Xq (by rw [e]),decide_eq_true e];rfl
  ·rw [Xh (fun z=>e (Y1 _ _ z)),decide_eq_false e];exact ih
def Ybf:Sp:=fun vs H Q _=>∃(H0:Hp) (F:Addr->Prop) (x tr t:Addr) (ad:WAd) (st:WSt) (ps:List Zc) (js:List (Zc×Zc)) (sg:List (Str×Str×Str)) (k nm e:Str),vs=[.ref x,.ref t]/\WAt T H0 H F x tr ad st/\Yf T H0 tr ps js sg/\Y4 ps js sg/\Zm H t (nm,e)/\((k,nm):Zc)∈ps/\∀H',Same H H'->Q (.str (Xs k e (Yl st.2.1 nm))) H'
theorem Zbw:Z2 P w K mg base CX0 3 T.aG.f T.aG.fd ["self", "spot"] (Ybf T):=by
 refine T.aG.F.okW Zjk fun a9 A outer s H vs Q E hr h=>?_
 ·obtain ⟨H0,F,x,tr,t,ad,st,ps,js,sg,k,nm,e,rfl,hw,ht,yv,hp,hm,q⟩:=h;intro X;have tr1:=ht.mono hw.same;obtain ⟨y,C,hy,hC,⟨dy,hO⟩⟩:=tr1.part yv hm;obtain ⟨V8,po,jo,so,si,kp,ks,kj,ko,h1,_⟩:=tr1.ex;refine WSs.last (Zo (Y0 (Y0 (Yd (pv 0) rfl) T.af T.ba (Za3 T) hr.m T.ag.b .nil Z7 (Zb (Zv (K:=K) rfl (pv 1) Zd) Za)) hC.cls.1 hC.cls.2.2 (Zml T) hr.m T.aq.b .nil Z7 (Zb (Zv (K:=K) rfl (pv 1) Zd) (Zb (Zbn (Y8 hr) (Yd (pv 0) rfl) (Zv (K:=K) rfl (pv 1) Zd) Zg ⟨rfl,rfl,rfl,rfl⟩) Za)))) (exR rfl ⟨x,_,ad.dx,_,_,rfl,hw.obj,T.ac,T.ax,rfl,tr,V8,_,rfl,h1,rfl,_,rfl,(ixT hp 0 rfl ⟨tr,y,nm,rfl,hy,yv.name _ hm,fun H1 s1=>⟨y,dy,_,rfl,s1.at hO,rfl,_,rfl,(ixT (s1.at hp) 1 rfl (exR rfl ⟨x,_,ad.dx,_,_,rfl,s1.at hw.obj,T.ac,T.bt,rfl,ad.ld,rfl,.inl ⟨_,.inl (s1.at hw.lies)⟩,_,rfl,(ixT (s1.at hp) 0 rfl ⟨_,Wc.k (k:=Z1 nm) (s1.at hw.lies),k,y,C,nm,e,Yl st.2.1 nm,?_,hC,⟨dy,s1.at hO⟩,fun H2 s2=>q H2 (s1.trans s2)⟩)⟩))⟩⟩)⟩);rw [Zgc];unfold Yl;cases liQ st.2.1 nm <;>rfl
def Xd(st:WSt)(k nm e:Str):Str:=if nm∈stood st.1 then "crash" else if Xs k e (Yl st.2.1 nm) = "" /\¬(k = "gate" \/k = "stop") then "off" else ""
def Yby:Sp:=fun vs H Q _=>∃(H0:Hp) (F:Addr->Prop) (x tr t:Addr) (ad:WAd) (st:WSt) (ps:List Zc) (js:List (Zc×Zc)) (sg:List (Str×Str×Str)) (k nm e:Str),vs=[.ref x,.ref t]/\WAt T H0 H F x tr ad st/\Yf T H0 tr ps js sg/\Y4 ps js sg/\(stood st.1).length<=400/\Zm H t (nm,e)/\((k,nm):Zc)∈ps/\∀H',Same H H'->Q (.str (Xd st k nm e)) H'
theorem Zqx{ss B3:List Str}{kvs:List (Key×V)}{ps:List Zc}{k nm:Str}(h:Zo6 ss B3 kvs)(hp:ss.Perm (ps.map Prod.snd))(hm:((k,nm):Zc)∈ps):Yy kvs (Z1 nm)=some (.bl (decide (nm∈B3))):=h.2.1 nm (hp.mem_iff.mpr (List.mem_map.mpr ⟨_,hm,rfl⟩))
theorem Zgt:Z2 P w K mg base CX0 4 T.aJ.f T.aJ.fd ["self", "spot"] (Yby T):=by
 refine T.aJ.F.okW Zgw fun a9 A outer s H vs Q E hr h=>?_
 ·obtain ⟨H0,F,x,tr,t,ad,st,ps,js,sg,k,nm,e,rfl,hw,ht,yv,hz,hp,hm,q⟩:=h;intro X;refine WSs.step (Zx (Xl (X1 (Y8 hr) (Yv (pv 0) T.ac T.aR (X6 T) hr.m T.ao.b .nil Z7) (Zv (K:=K) rfl (pv 1) Zd) (fun _ _=>rfl))) Zq Zp) (exR rfl ⟨x,ad.dx,_,rfl,hw.obj,rfl,H0,F,x,tr,ad,st,ps,js,sg,rfl,hw,ht,yv,hz,fun ss D kvs H1 O1 _ hT s1 n1 e1=>(exR rfl (ixT (s1.at hp) 0 rfl ⟨D,_,rfl,by rw [<-Zqx hT O1 hm];exact Wc.k (k:=Z1 nm) e1,_,rfl,Yn (fun z=>?_) (fun z=>?_)⟩))⟩)
  ·have z:nm∈stood st.1:=of_decide_eq_true z;have:=q H1 s1;unfold Xd at this;rw [if_pos z] at this;exact WSs.last (Zo Zg) this
  ·have z:nm∉stood st.1:=fun y=>z (decide_eq_true y)
   unfold Xd at q;rw [if_neg z] at q;have o0:=hw.mono s1;refine WSs.step (Zx (PW.pt (Zdk (Zj (r:=Y7 K) (Xc hr) (Y0 (pv 0) T.ac T.cy (Zbw T) hr.m T.aG.b .nil Z7 (Zb (pv 1) Za)) Zg (Zr _)) (Zbe (W1 (Xl (Zz (r:=Zjq K) Wh (by rfl) T.ay PyProof.Rows.boot_isinstance (Zb (Y0 (Yd (pv 0) rfl) T.af T.ba (Za3 T) hr.m T.ag.b .nil Z7 (Zb (Zv (K:=K) rfl (pv 1) Zd) Za)) (Zb (Zhk (v:=.ref T.aP) (by rfl) T.gR rfl) Za)))))))) Zq Zp) (exR rfl ⟨x,ad.dx,_,rfl,o0.obj,rfl,_,rfl,H0,F,x,tr,t,ad,st,ps,js,sg,k,nm,e,rfl,o0,ht,yv,s1.at hp,hm,fun H2 s2=>.inl ⟨rfl,_,rfl,Yn (fun y=>?_) (fun y=>?_)⟩⟩)
   ·have y:Xs k e (Yl st.2.1 nm) = "" :=V.str.inj (of_decide_eq_true y);have i3:=o0.mono s2;have tr2:=ht.mono i3.same;obtain ⟨py,C,hy,hC,hO⟩:=tr2.part yv hm;obtain ⟨V8,po,jo,so,si,kp,ks,kj,ko,h1,_⟩:=tr2.ex;refine (exR rfl ⟨x,_,ad.dx,_,_,rfl,i3.obj,T.ac,T.ax,rfl,tr,V8,_,rfl,h1,rfl,_,rfl,(ixT (s2.at (s1.at hp)) 0 rfl ⟨tr,py,nm,rfl,hy,yv.name _ hm,fun H3 s3=>?_⟩)⟩);obtain ⟨ty,hty,hkt⟩:=hC.stop (Zdn.mono s3 hO);refine ⟨_,_,_,ty,rfl,hty,.inr ⟨_,rfl,hkt⟩,_,rfl,?_⟩
    by_cases g:k = "gate" \/k = "stop"
    ·rw [decide_eq_true g];rw [if_neg fun e=>e.2 g] at q;exact W5 (WSs.last (Zo Zg) (q H3 (s1.trans (s2.trans s3))))
    ·rw [decide_eq_false g];rw [if_pos ⟨y,g⟩] at q;exact Ze3 (WSs.last (Zo Zg) (q H3 (s1.trans (s2.trans s3))))
   ·have y:¬Xs k e (Yl st.2.1 nm) = "" :=fun e=>y (decide_eq_true (by rw [e]))
    rw [if_neg fun e=>y e.1] at q;exact WSs.last (Zo Zg) (q H2 (s1.trans s2))
theorem Zl.offB(h:Zl H l ps)(lb:l≠b)(hb:H b=some u)(nt:∀xs,u ≠ .tup xs):Zl (upd H b o) l ps:=by
 obtain ⟨ts,h1,h2⟩:=h;refine ⟨ts,by rw [Ze lb];exact h1,Paired.mapP h2 fun t p r=>?_⟩;unfold Zm at r ⊢;rw [Ze fun z=>by rw [z,hb] at r;cases r;exact nt _ rfl];exact r
theorem Wz.offB{F:Addr->Prop}(h:Wz U F H a d)(ab:a≠b)(fb:F b)(hb:H b=some u)(nt:∀xs,u ≠ .tup xs):Wz U F (upd H b o) a d:=by
 obtain ⟨dx,l,h1,h2,h3⟩:=h;exact ⟨dx,l,by rw [Ze ab];exact h1,h2.offB (fun z=>h3 (z ▸ fb)) hb nt,h3⟩
theorem Wz.ins{F:Addr->Prop}(h:Wz U F H a d)(hb:H b=some u)(ni:∀C dx fs,u ≠ .ins C dx fs):a≠b:=fun z=>by
 obtain ⟨dx,l,h1,_⟩:=h;rw [z,hb] at h1;cases h1;exact ni _ _ _ rfl
theorem Wx{F:Addr->Prop}(h:∀b,F b->∃o,H b=some o):∀b,F b->∃o,upd H c u b=some o:=fun b f=>by
 by_cases e:b=c
 ·exact ⟨u,by rw [e];exact Zf⟩
 ·obtain ⟨o,z⟩:=h b f;exact ⟨o,by rw [Ze e];exact z⟩
theorem WAt.lie{F:Addr->Prop}(h:WAt U H0 H F x tr ad st)(l':List (Str×Str)):WAt U H0 (upd H ad.ld (.dK (Xw l'))) F x tr ad (st.1,l',st.2.2):=by
 obtain ⟨ms,hm,_⟩:=id h.mis;have nt:∀xs,HO.dK (Xw st.2.1) ≠ .tup xs:=fun _ z=>nomatch z
 have xl:x≠ad.ld:=fun z=>h.nx (by rw [z];exact h.fl)
 exact ⟨by rw [Ze xl];exact h.obj,Zf,by rw [Ze h.ne.symm];exact h.trd,Paired.mapP h.trs fun a d r=>r.offB (r.ins h.lies fun _ _ _ z=>nomatch z) h.fl h.lies nt,h.mis.offB (fun z=>by rw [z] at hm;rw [h.lies] at hm;cases hm) h.lies nt,h.fl,h.ft,h.fm,h.ne,h.fa,h.nd,h.nx,h.free,fun b o e=>by rw [Ze (Zh e (h.free _ h.fl))];exact h.same.at e,Wx h.live⟩
theorem WAt.mish{F:Addr->Prop}(h:WAt U H0 H F x tr ad st)(ht:Zm H t p):∃ts:List Addr,H ad.ml=some (.lst (ts.map V.ref))/\ts.length=st.2.2.length/\WAt U H0 (upd H ad.ml (.lst (ts.map V.ref++[V.ref t]))) F x tr ad (st.1,st.2.1,st.2.2++[p]):=by
 obtain ⟨ts,hm,hp⟩:=id h.mis;have nt:∀xs,HO.lst (ts.map V.ref) ≠ .tup xs:=fun _ z=>nomatch z
 have off:∀{b:Addr} {q:Zc},Zm H b q->Zm (upd H ad.ml (.lst (ts.map V.ref++[V.ref t]))) b q:=fun {b q} z=>by
  unfold Zm at z ⊢;rw [Ze fun y=>by rw [y,hm] at z;cases z];exact z
 have xm:x≠ad.ml:=fun z=>h.nx (by rw [z];exact h.fm)
 have lm:ad.ld≠ad.ml:=fun z=>by have:=h.lies;rw [z,hm] at this;cases this
 have tm:ad.td≠ad.ml:=fun z=>by have:=h.trd;rw [z,hm] at this;cases this
 exact ⟨ts,hm,Paired.length hp,by rw [Ze xm];exact h.obj,by rw [Ze lm];exact h.lies,by rw [Ze tm];exact h.trd,Paired.mapP h.trs fun a d r=>r.offB (r.ins hm fun _ _ _ z=>nomatch z) h.fm hm nt,⟨ts++[t],by rw [Zf,List.map_append];rfl,Paired.append (Paired.mapP hp fun _ _ r=>off r) (.cons (off ht) .nil)⟩,h.fl,h.ft,h.fm,h.ne,h.fa,h.nd,h.nx,h.free,fun b o e=>by rw [Ze (Zh e (h.free _ h.fm))];exact h.same.at e,Wx h.live⟩
def Off(F:Addr->Prop)(H H':Hp):Prop:=∀b o,¬F b->H b=some o->H' b=some o
theorem Off.refl{F:Addr->Prop}:Off F H H:=fun _ _ _ e=>e
theorem Ws{F:Addr->Prop}(s:Same H H'):Off F H H':=fun _ _ _ e=>s.at e
theorem Off.trans{F:Addr->Prop}(a:Off F H H1)(b:Off F H1 H2):Off F H H2:=fun c o n e=>b c o n (a c o n e)
theorem Off.upd{F:Addr->Prop}(f:F b):Off F H (upd H b o):=fun c u n e=>by
 have cb:c≠b:=fun z=>n (by rw [z];exact f)
 rw [Ze cb];exact e
def We(ad:WAd)(b:Addr):Prop:=b=ad.ld\/b=ad.td\/b=ad.ml\/b∈ad.as
def Zic(l:List (Str×Str))(n v:Str):List (Str×Str):=l.map fun p=>if p.1=n then (p.1,v) else p
theorem Zr6(h:n∈l.map Prod.fst):∃v,liQ l n=some v:=by
 unfold liQ;obtain ⟨p,hp,e⟩:=List.mem_map.mp h;cases z:l.find? fun p=>decide (p.1=n) with
 | none=>exact absurd (decide_eq_true e) (List.find?_eq_none.mp z p hp)
 | some q=>exact ⟨_,rfl⟩
theorem Zst(h:n∈l.map Prod.fst):Wb (Xw l) (Z1 n) (.str v)=Xw (Zic l n v):=by
 obtain ⟨p,hp,e⟩:=List.mem_map.mp h;have M3:((Xw l).any fun kv=>decide (kv.1=Z1 n))=true:=List.any_eq_true.mpr ⟨(Z1 p.1,.str p.2),List.mem_map.mpr ⟨p,hp,rfl⟩,decide_eq_true (by rw [e])⟩;unfold Wb;rw [if_pos M3];unfold Xw Zic;rw [List.map_map,List.map_map];refine List.map_congr_left fun q _=>?_
 by_cases z:q.1=n
 ·show (if Z1 q.1=Z1 n then _ else _)=_;rw [if_pos (by rw [z])];simp [z]
 ·show (if Z1 q.1=Z1 n then _ else _)=_;rw [if_neg fun y=>z (Y1 _ _ y)];simp [z]
def Zcj(st:WSt)(n v:Str):WSt:=(st.1,Zic st.2.1 n v,if v≠Yl st.2.1 n/\n∈stood st.1 then st.2.2++[(("split",n):Zc)] else st.2.2)
def Yav:Sp:=fun vs H Q _=>∃(H0:Hp) (F:Addr->Prop) (x tr:Addr) (ad:WAd) (st:WSt) (ps:List Zc) (js:List (Zc×Zc)) (sg:List (Str×Str×Str)) (n v:Str),vs=[.ref x,.str n,.str v]/\WAt T H0 H F x tr ad st/\Yf T H0 tr ps js sg/\Y4 ps js sg/\(stood st.1).length<=400/\st.2.2.length<=400/\st.2.1.length<=400/\(("points",n):Zc)∈ps/\n∈st.2.1.map Prod.fst/\(v = "left" \/v = "right")/\∀H',Off (We ad) H H'->WAt T H0 H' F x tr ad (Zcj st n v)->Q .non H'
theorem Zmb:Z2 P w K mg base CX0 6 T.bE.f T.bE.fd ["self", "points", "lie"] (Yav T):=by
 refine T.bE.F.okW Zmv fun a9 A outer s H vs Q E hr h=>?_
 ·obtain ⟨H0,F,x,tr,ad,st,ps,js,sg,n,v,rfl,hw,ht,yv,hz,hy,hl,hm,hn,hv,q⟩:=h;intro X;refine WSs.step (Yi (Ye (Zmm T) hr T.ff (Zb (Yd (pv 0) rfl) (Zb (pv 1) (Zb (pv 2) Za))))) (exR rfl ⟨x,_,ad.dx,_,_,rfl,hw.obj,T.ac,T.ax,rfl,_,rfl,_,rfl,tr,n,v,ps,js,sg,rfl,ht.mono hw.same,yv,hm,hv,fun H1 s1=>?_⟩);have o0:=hw.mono s1;obtain ⟨l0,B9⟩:∃l0,liQ st.2.1 n=some l0:=Zr6 hn;have hlo:Yl st.2.1 n=l0:=by unfold Yl;rw [B9];rfl
  have F4:Yy (Xw st.2.1) (Z1 n)=some (.str l0):=by rw [Zgc,B9];rfl
  let I21:=fun (σ:St) (H2:Hp)=>σ=[some (.ref x),some (.str n),some (.str v)]/\Off (We ad) H1 H2/\WAt T H0 H2 F x tr ad (st.1,st.2.1,(Zcj st n v).2.2)
  refine WSs.cut I21 ?_ ?_
  ·refine WS.of (Zx (PW.pt (Zdk (Zj (r:=Ze7 K) (Zhg hr) (pv 2) (X1 (Y8 hr) (Yd (pv 0) rfl) (pv 1) (fun _ _=>rfl)) (Zr _)) (Zbe (Xl (X1 (Y8 hr) (Yv (pv 0) T.ac T.aR (X6 T) hr.m T.ao.b .nil Z7) (pv 1) (fun _ _=>rfl)))))) Zq Zp) (exR rfl (exR rfl ⟨x,_,ad.dx,_,_,rfl,o0.obj,T.ac,T.bt,rfl,_,rfl,ad.ld,_,rfl,by rw [<-F4];exact Wc.k (k:=Z1 n) o0.lies,.inl ⟨rfl,_,rfl,Yn (fun z=>?_) (fun z=>?_)⟩⟩))
   ·have z:v≠l0:=by simpa using z
    refine (exR rfl ⟨x,ad.dx,_,rfl,o0.obj,rfl,H0,F,x,tr,ad,st,ps,js,sg,rfl,o0,ht,yv,hz,fun ss D kvs H2 O1 _ hT s2 n2 e2=>(exR rfl ⟨D,_,rfl,by rw [<-Zqx hT O1 hm];exact Wc.k (k:=Z1 n) e2,_,rfl,Yn (fun y=>?_) (fun y=>?_)⟩)⟩)
    ·have y:n∈stood st.1:=of_decide_eq_true y;have i3:=o0.mono s2;refine WSs.last (Yi (Zab PySem.F.plainAttrs_list PySem.F.slot_list_append PySem.F.type_list_append Yx (Yd (pv 0) rfl) (Zb (Zk (Zb Zg (Zb (pv 1) Za))) Za))) (exR rfl ⟨x,_,ad.dx,_,_,rfl,i3.obj,T.ac,T.bc,rfl,.inl ⟨rfl,_,SqL.of i3.mis.choose_spec.1⟩,_,rfl,szA,fun t H3 s3 n3 e3=>?_⟩);have k8:=i3.mono s3;obtain ⟨ts,d3,d4,w9⟩:=k8.mish (show Zm H3 t ("split",n) from e3);refine ⟨ad.ml,_,_,rfl,rfl,d3,by rw [List.length_map];exact Zs (by lia),rfl,((Ws s2).trans (Ws s3)).trans (Off.upd (.inr (.inr (.inl rfl)))),?_⟩;unfold Zcj;rw [hlo,if_pos ⟨z,y⟩];exact w9
    ·have y:n∉stood st.1:=fun e=>y (decide_eq_true e)
     refine ⟨rfl,(Ws s2),?_⟩;unfold Zcj;rw [if_neg fun e=>y e.2];exact o0.mono s2
   ·have z:v=l0:=by simpa using z
    refine ⟨rfl,Off.refl,?_⟩;unfold Zcj;rw [hlo,if_neg fun e=>e.1 z];exact o0
  ·rintro σ H2 ⟨rfl,o2,i3⟩;refine WSs.last (Wi (Y8 hr) (Yd (pv 0) rfl) (pv 1) (pv 2) rfl) (exR rfl (exR rfl ⟨x,_,ad.dx,_,_,rfl,i3.obj,T.ac,T.bt,rfl,_,rfl,ad.ld,_,rfl,Zdz.k (k:=Z1 n) i3.lies (Zs (by unfold Xw;rw [List.length_map];show st.2.1.length<=1000;lia)),?_⟩));show Q .non (upd H2 ad.ld (.dK (Wb (Xw st.2.1) (Z1 n) (.str v))));rw [Zst hn];exact q _ (((Ws s1).trans o2).trans (Off.upd (.inl rfl))) (i3.lie _)
def Wv(st:WSt)(nm:Str)(n:Nat)(g:Str):WSt:=if g∈stood st.1 then (st.1,st.2.1,st.2.2++[(("crash",g):Zc)]) else (st.1++[(nm,n,[((g, ""):Zc)])],st.2.1,st.2.2)
theorem Wz.more{F F':Addr->Prop}(h:Wz U F H a d)(m:∀b,F' b->F b\/H b=none):Wz U F' H a d:=by
 obtain ⟨dx,l,h1,⟨ts,h2,h3⟩,h4⟩:=h;exact ⟨dx,l,h1,⟨ts,h2,h3⟩,fun z=>(m l z).elim h4 fun y=>by rw [y] at h2;cases h2⟩
theorem Zl8(h:as.length=ts.length)(n:nm∉ts.map Prod.fst):Yy (trK as ts) (Z1 nm)=none:=by
 cases z:Yy (trK as ts) (Z1 nm) with
 | none=>rfl
 | some v =>
  have:((trK as ts).find? fun kv=>decide (kv.1=Z1 nm)).isSome:=by
   unfold Yy at z;cases y:(trK as ts).find? fun kv=>decide (kv.1=Z1 nm) with
   | none=>rw [y] at z;cases z
   | some _=>rfl
  obtain ⟨kv,hm,e⟩:=List.find?_isSome.mp this;have hk:kv.1∈(trK as ts).map Prod.fst:=List.mem_map.mpr ⟨kv,hm,rfl⟩;rw [Zh0 h] at hk;obtain ⟨d,hd,e2⟩:=List.mem_map.mp hk;exact absurd (List.mem_map.mpr ⟨d,hd,Y1 _ _ (e2.trans (of_decide_eq_true e))⟩) n
theorem Zr3(h:as.length=ts.length)(n:nm∉ts.map Prod.fst):Wb (trK as ts) (Z1 nm) (.ref a)=trK (as++[a]) (ts++[(nm,d)]):=by
 unfold Wb;rw [Zck,Zl8 h n];unfold trK;rw [List.zip_append h,List.map_append]
 rfl
def Zz6:Sp:=fun vs H Q _=>∃(H0:Hp) (F:Addr->Prop) (x tr:Addr) (ad:WAd) (st:WSt) (ps:List Zc) (js:List (Zc×Zc)) (sg:List (Str×Str×Str)) (nm g:Str) (n:Nat),vs=[.ref x,.str nm,.int (n:Int),.str g]/\WAt T H0 H F x tr ad st/\Yf T H0 tr ps js sg/\Y4 ps js sg/\(stood st.1).length<=400/\st.2.2.length<=400/\st.1.length<=400/\W9 nm/\nm∉st.1.map Prod.fst/\(("gate",g):Zc)∈ps/\1<=n/\n<=4 /\
 ∀(H':Hp) (F':Addr->Prop) (x5:WAd),(∀b,F b->F' b)->(∀b,F' b->F b\/H b=none)->(∀b,We x5 b->We ad b\/H b=none)->Off (We ad) H H'->WAt T H0 H' F' x tr x5 (Wv st nm n g)->Q .non H'
theorem Zgj:Z2 P w K mg base CX0 5 T.bf.f T.bf.fd ["self", "name", "long", "gate"] (Zz6 T):=by
 refine T.bf.F.okW Zmr fun a9 A outer s H vs Q E hr h=>?_
 ·obtain ⟨H0,F,x,tr,ad,st,ps,js,sg,nm,g,n,rfl,hw,ht,yv,hz,hy,hl,U3,i5,hg,h1,h4,q⟩:=h;intro X;have d4:=Paired.length hw.trs;refine WSs.step (Yi (Ye (Zcf T) hr T.cJ (Zb (pv 1) (Zb (Yd (pv 0) rfl) Za)))) (exR rfl (exR rfl ⟨x,_,ad.dx,_,_,rfl,hw.obj,T.ac,T.aA,rfl,nm,ad.td,_,rfl,U3,hw.trd,Zl8 d4 i5,fun H1 s1=>?_⟩));have o0:=hw.mono s1;refine WSs.step (Yi (Ye (Zlv T) hr T.eF (Zb (Yd (pv 0) rfl) (Zb (pv 3) Za)))) (exR rfl ⟨x,_,ad.dx,_,_,rfl,o0.obj,T.ac,T.ax,rfl,_,rfl,tr,g,ps,js,sg,rfl,ht.mono o0.same,yv,hg,fun H2 s2=>?_⟩);have i3:=o0.mono s2;refine WSs.step (Yi (Ye (Zij T) hr T.dL (Zb (pv 2) Za))) (exR rfl ⟨n,rfl,h1,h4,?_⟩);refine WSs.last (Zx (Xl (X1 (Y8 hr) (Yv (pv 0) T.ac T.aR (X6 T) hr.m T.ao.b .nil Z7) (pv 3) (fun _ _=>rfl))) Zq Zq) (exR rfl ⟨x,ad.dx,_,rfl,i3.obj,rfl,H0,F,x,tr,ad,st,ps,js,sg,rfl,i3,ht,yv,hz,fun ss D kvs H3 O1 _ hT s3 n3 e3=>(exR rfl ⟨D,_,rfl,by rw [<-Zqx hT O1 hg];exact Wc.k (k:=Z1 g) e3,_,rfl,Yn (fun y=>?_) (fun y=>?_)⟩)⟩)
  ·have y:g∈stood st.1:=of_decide_eq_true y;have k8:=i3.mono s3;refine WSs.last (Yi (Zab PySem.F.plainAttrs_list PySem.F.slot_list_append PySem.F.type_list_append Yx (Yd (pv 0) rfl) (Zb (Zk (Zb Zg (Zb (pv 3) Za))) Za))) (exR rfl ⟨x,_,ad.dx,_,_,rfl,k8.obj,T.ac,T.bc,rfl,.inl ⟨rfl,_,SqL.of k8.mis.choose_spec.1⟩,_,rfl,szA,fun t H4 s4 n4 e4=>?_⟩);obtain ⟨ts,d3,P1,L4⟩:=(k8.mono s4).mish (show Zm H4 t ("crash",g) from e4);refine ⟨ad.ml,_,_,rfl,rfl,d3,by rw [List.length_map];exact Zs (by lia),q _ F ad (fun _ z=>z) (fun _ z=>.inl z) (fun _ z=>.inl z) ((Ws (s1.trans (s2.trans (s3.trans s4)))).trans (Off.upd (.inr (.inr (.inl rfl))))) ?_⟩;unfold Wv;rw [if_pos y];exact L4
  ·have y:g∉stood st.1:=fun e=>y (decide_eq_true e)
   have k8:=i3.mono s3;refine WSs.last (Wi (Y8 hr) (Yd (pv 0) rfl) (pv 1) (Zad (Zpz T) T.gM (Zh4 T) hr.m rfl T.gY T.aL.b .nil Z7 (Zu1 T) (Zb (pv 1) (Zb (pv 2) (Zb (pv 3) Za)))) rfl) (exR rfl (exR rfl (exR rfl ⟨nm,n,g,rfl,fun a dx l H4 s4 na nl la ea el=>(exR rfl ⟨x,_,ad.dx,_,_,rfl,s4.at k8.obj,T.ac,T.aA,rfl,_,rfl,ad.td,_,rfl,Zdz.k (k:=Z1 nm) (s4.at k8.trd) ?_,?_⟩)⟩)))
   ·unfold trK;rw [List.length_map,List.length_zip];exact Zs (by lia)
   ·rw [Zr3 (d:=(n,[((g, ""):Zc)])) d4 i5];have g9:=s1.trans (s2.trans s3);have w9:=k8.mono s4;have xt:x≠ad.td:=fun z=>hw.nx (by rw [z];exact hw.ft)
    have Q1:a≠ad.td:=fun z=>by rw [z,k8.trd] at na;cases na
    have lt:l≠ad.td:=fun z=>by rw [z,k8.trd] at nl;cases nl
    have mt:ad.ml≠ad.td:=fun z=>by
     obtain ⟨ts,hm,_⟩:=hw.mis;rw [z,hw.trd] at hm;cases hm
    have nt:∀xs,HO.dK (trK ad.as st.1) ≠ .tup xs:=fun _ z=>nomatch z
    have nF:∀b,H3 b=none->¬F b:=fun b z f=>by
     obtain ⟨o,y⟩:=k8.live b f;rw [z] at y;cases y
    have more:∀b,(F b\/b=a)->F b\/H3 b=none:=fun b z=>z.imp id fun e=>by rw [e];exact na
    refine q _ (fun b=>F b\/b=a) ⟨ad.dx,ad.ld,ad.td,ad.ml,ad.as++[a]⟩ (fun _ z=>.inl z) (fun b z=>z.imp id fun e=>by rw [e];exact g9.free na) (fun b z=>by
     rcases z with z|z|z|z
     ·exact .inl (.inl z)
     ·exact .inl (.inr (.inl z))
     ·exact .inl (.inr (.inr (.inl z)))
     ·rcases List.mem_append.mp z with z|z
      ·exact .inl (.inr (.inr (.inr z)))
      ·exact .inr (by rw [List.mem_singleton.mp z];exact g9.free na)) ((Ws (g9.trans s4)).trans (Off.upd (.inr (.inl rfl)))) ?_
    unfold Wv;rw [if_neg y];refine ⟨by rw [Ze xt];exact w9.obj,by rw [Ze hw.ne];exact w9.lies,Zf,?_,w9.mis.offB mt w9.trd nt,.inl hw.fl,.inl hw.ft,.inl hw.fm,hw.ne,?_,?_,?_,?_,?_,?_⟩
    ·refine Paired.append (Paired.mapP k8.trs fun a' d r=>((r.more more).mono s4).offB (r.ins k8.trd fun _ _ _ z=>nomatch z) (.inl hw.ft) w9.trd nt) (.cons ⟨dx,l,by rw [Ze Q1];exact ea,el.offB lt w9.trd nt,?_⟩ .nil);rintro (z|z)
     ·exact nF l nl z
     ·exact la z
    ·intro b hb;rcases List.mem_append.mp hb with z|z
     ·exact .inl (hw.fa b z)
     ·exact .inr (List.mem_singleton.mp z)
    ·refine List.nodup_append.mpr ⟨hw.nd,List.pairwise_singleton _ _,fun b hb c hc e=>?_⟩;rw [e,List.mem_singleton.mp hc] at hb;exact nF a na (hw.fa a hb)
    ·rintro (z|z)
     ·exact hw.nx z
     ·rw [<-z,k8.obj] at na;cases na
    ·rintro b (z|z)
     ·exact hw.free b z
     ·rw [z];exact k8.same.free na
    ·intro b o e;rw [Ze (Zh e (hw.free _ hw.ft))];exact w9.same.at e
    ·refine Wx fun b f=>?_
     rcases f with f|f
     ·exact w9.live b f
     ·exact ⟨_,by rw [f];exact ea⟩
def Znb(n:Nat)(l:List Zc):List Zc:=l.drop (l.length-n)
theorem Zp8(xs:List V)(n:Nat)(h:1<=n):Zhr xs (some (-(n:Int))) none=xs.drop (xs.length-n):=by
 unfold Zhr;rw [HT.sIx_none];have:HT.sIx xs.length 0 (some (-(n:Int)))=xs.length-n:=by
  show (if (-(n:Int))<0 then (-(n:Int)+(xs.length:Int)).toNat else _)=_;rw [if_pos (by lia)];lia
 rw [this,List.take_of_length_le (by rw [List.length_drop];exact Nat.le_refl _)]
def Y9(st:WSt)(i:Nat)(d:TrD)(k nm e:Str):Str×WSt:=if Xd st k nm e ≠ "" then (Xd st k nm e,(st.1,st.2.1,st.2.2++[((Xd st k nm e,nm):Zc)])) else ("went",(st.1.set i (d.1,d.2.1,Znb d.2.1 (d.2.2++[(nm,e)])),st.2.1,st.2.2))
theorem Zrk{α β:Type}{R R':α->β->Prop}{as:List α}{ts:List β}{a:α}{d:β}(h:Paired R as ts)(nd:as.Nodup)(ha:as[i]? =some a)(hn:R' a d)(ho:∀b c,b≠a->R b c->R' b c):Paired R' as (ts.set i d):=by
 induction h generalizing i with
 | nil=>cases ha
 | cons r t ih =>
  rw [List.nodup_cons] at nd;cases i with
  | zero =>
   cases ha;refine .cons hn ?_;clear ih r
   induction t with
   | nil=>exact .nil
   | cons r2 t2 ih2 =>
    rw [List.mem_cons,not_or,List.nodup_cons] at nd;exact .cons (ho _ _ (fun z=>nd.1.1 z.symm) r2) (ih2 ⟨nd.1.2,nd.2.2⟩)
  | succ i =>
   rw [List.getElem?_cons_succ] at ha;have hm:=List.mem_of_getElem? ha;exact .cons (ho _ _ (fun z=>nd.1 (by rw [z];exact hm)) r) (ih nd.2 ha)
theorem Zxb(hd:ts[i]? =some d)(e:d'.1=d.1):trK as (ts.set i d')=trK as ts:=by
 unfold trK
 induction as generalizing ts i with
 | nil=>rfl
 | cons a r ih=>cases ts with
  | nil=>rfl
  | cons c t=>cases i with
   | zero=>cases hd;simp [e]
   | succ i =>
    rw [List.set_cons_succ,List.zip_cons_cons,List.zip_cons_cons,List.map_cons,List.map_cons];exact congrArg _ (ih (ts:=t) (i:=i) hd)
theorem WAt.train{F:Addr->Prop}(h:WAt U H0 H F x tr ad st)(ha:ad.as[i]? =some a)(hd:st.1[i]? =some d) (ho:H a=some (.ins U.bJ dx [("name",.str d.1),("long",.int (d.2.1:Int)),("stands",.ref l0)])) (hl:Zl H l sp) (nl:¬F l):WAt U H0 (upd H a (.ins U.bJ dx [("name",.str d.1),("long",.int (d.2.1:Int)),("stands",.ref l)])) F x tr ad (st.1.set i (d.1,d.2.1,sp),st.2.1,st.2.2):=by
 have fa:F a:=h.fa a (List.mem_of_getElem? ha);have xa:x≠a:=fun z=>h.nx (by rw [z];exact fa)
 have la:ad.ld≠a:=fun z=>by rw [<-z,h.lies] at ho;cases ho
 have ta:ad.td≠a:=fun z=>by rw [<-z,h.trd] at ho;cases ho
 have ma:ad.ml≠a:=fun z=>by
  obtain ⟨ts,hm,_⟩:=h.mis;rw [<-z,hm] at ho;cases ho
 have nt:∀xs,HO.ins U.bJ dx [("name",.str d.1),("long",.int (d.2.1:Int)),("stands",.ref l0)] ≠ .tup xs:=fun _ z=>nomatch z
 have lna:l≠a:=fun z=>nl (by rw [z];exact fa)
 refine ⟨by rw [Ze xa];exact h.obj,by rw [Ze la];exact h.lies,?_,Zrk h.trs h.nd ha ⟨dx,l,Zf,hl.offB lna ho nt,nl⟩ fun b c n r=>r.offB n fa ho nt,h.mis.offB ma ho nt,h.fl,h.ft,h.fm,h.ne,h.fa,h.nd,h.nx,h.free,fun b o e=>?_,Wx h.live⟩
 ·rw [Ze ta,Zxb hd (d':=(d.1,d.2.1,sp)) rfl];exact h.trd
 ·rw [Ze (Zh e (h.free _ fa))];exact h.same.at e
def Zwe:Sp:=fun vs H Q _=>∃(H0:Hp) (F:Addr->Prop) (x tr a t:Addr) (ad:WAd) (st:WSt) (ps:List Zc) (js:List (Zc×Zc)) (sg:List (Str×Str×Str)) (i:Nat) (d:TrD) (k nm e:Str),vs=[.ref x,.ref a,.ref t]/\WAt T H0 H F x tr ad st/\Yf T H0 tr ps js sg/\Y4 ps js sg/\(stood st.1).length<=400/\st.2.2.length<=400/\ad.as[i]? =some a/\st.1[i]? =some d/\1<=d.2.1/\d.2.2.length<=100/\Zm H t (nm,e)/\((k,nm):Zc)∈ps /\
 ∀H',Off (We ad) H H'->WAt T H0 H' F x tr ad (Y9 st i d k nm e).2->Q (.str (Y9 st i d k nm e).1) H'
theorem Zgk:Z2 P w K mg base CX0 5 T.be.f T.be.fd ["self", "train", "spot"] (Zwe T):=by
 refine T.be.F.okW Zgr fun a9 A outer s H vs Q E hr h=>?_
 ·obtain ⟨H0,F,x,tr,a,t,ad,st,ps,js,sg,i,d,k,nm,e,rfl,hw,ht,yv,hz,hy,ha,hd,h1,Q4,hp,hm,q⟩:=h;intro X;refine WSs.step (Zy (i:=3) Zgr.nd (Y0 (pv 0) T.ac T.di (Zgt T) hr.m T.aJ.b .nil Z7 (Zb (pv 2) Za))) (exR rfl ⟨x,ad.dx,_,rfl,hw.obj,rfl,_,rfl,H0,F,x,tr,t,ad,st,ps,js,sg,k,nm,e,rfl,hw,ht,yv,hz,hp,hm,fun H1 s1=>?_⟩);have o0:=hw.mono s1;unfold Y9 at q;refine WSs.step (Zx (Zj (r:=Ze7 K) (Zhg hr) (pv 3) Zg (Zr _)) Zq Zp) (exR rfl (.inl ⟨rfl,_,rfl,Yn (fun z=>?_) (fun z=>?_)⟩))
  ·have z:Xd st k nm e ≠ "" :=by simpa using z
   rw [if_pos z] at q;refine WSs.step (Yi (Zab PySem.F.plainAttrs_list PySem.F.slot_list_append PySem.F.type_list_append Yx (Yd (pv 0) rfl) (Zb (Zk (Zb (pv 3) (Zb (Zv (K:=K) rfl (pv 2) Zd) Za))) Za))) (exR rfl ⟨x,_,ad.dx,_,_,rfl,o0.obj,T.ac,T.bc,rfl,.inl ⟨rfl,_,SqL.of o0.mis.choose_spec.1⟩,_,rfl,_,rfl,(ixT (s1.at hp) 0 rfl ⟨szA,fun t2 H2 s2 n2 e2=>?_⟩)⟩);obtain ⟨ts,d3,P1,k8⟩:=(o0.mono s2).mish (show Zm H2 t2 (Xd st k nm e,nm) from e2);refine ⟨ad.ml,_,_,rfl,rfl,d3,by rw [List.length_map];exact Zs (by lia),?_⟩;exact WSs.last (Zo (pv 3)) (exR rfl (q _ ((Ws (s1.trans s2)).trans (Off.upd (.inr (.inr (.inl rfl))))) k8))
  ·have z:¬Xd st k nm e ≠ "" :=by simpa using z
   rw [if_neg z] at q;obtain ⟨a',S0,dx,l0,ho,⟨ts,B9,d3⟩,nF⟩:=Paired.getL o0.trs hd;rw [ha] at S0;cases S0;have d4:=Paired.length d3;refine WSs.step (Zav (pv 1) (Zas (r:=Zmo K) Zot (Zu W3 (Yd (pv 1) rfl) (Zt (Zb (pv 2) Za))) (Zax (Znc Zin (Yd (pv 1) rfl))) Zb6) rfl) (exR rfl ⟨a,_,dx,_,_,rfl,ho,T.bA,T.aC,rfl,_,rfl,szA,fun l1 H2 s2 n2 e2=>.inr (.inr ⟨l0,l1,_,_,rfl,rfl,s2.at B9,e2,by rw [List.length_map];exact sz (by simp;lia),fun l2 H3 s3 n3 e3=>(exR rfl ⟨a,_,dx,_,_,rfl,s3.at (s2.at ho),T.bA,T.dG,rfl,_,rfl,_,rfl,.inr (.inl ⟨l2,_,rfl,SqL.of e3,fun l3 H4 s4 n4 e4=>(exR rfl ⟨a,_,dx,[("name",.str d.1),("long",.int (d.2.1:Int)),("stands",.ref l0)],rfl,s4.at (s3.at (s2.at ho)),T.bA,T.aC,by simp,?_⟩)⟩)⟩)⟩)⟩);have s24:=s2.trans (s3.trans s4);have w9:=o0.mono s24;have p0:Zm H4 t (nm,e):=(s1.trans s24).at hp;have i9:Paired (Zm H4) (ts++[t]) (d.2.2++[(nm,e)]):=Paired.append (Paired.mapP d3 fun _ _ r=>r.mono s24) (.cons p0 .nil);have e4':H4 l3=some (.lst (((ts++[t]).drop ((d.2.2++[(nm,e)]).length-d.2.1)).map V.ref)):=by
    rw [e4,show ts.map V.ref++[V.ref t]=(ts++[t]).map V.ref by rw [List.map_append];rfl,Zp8 _ _ h1,List.map_drop,List.length_map,Paired.length i9]
   have nl3:¬F l3:=fun f=>by
    obtain ⟨o,y⟩:=(o0.mono (s2.trans s3)).live l3 f;rw [n4] at y;cases y
   have L4:=w9.train ha hd (s24.at ho) ⟨_,e4',Zf6 _ i9⟩ nl3;exact WSs.last (Zo Zg) (q _ ((Ws (s1.trans s24)).trans (Off.upd (.inr (.inr (.inr (List.mem_of_getElem? ha)))))) L4)
def Zu4(st:WSt)(kd:Str->Str)(p:Zc):Zc:=(p.1,Xs (kd p.1) p.2 (Yl st.2.1 p.1))
def Zfm(st:WSt)(i:Nat)(d:TrD)(kd:Str->Str):WSt:=(st.1.set i (d.1,d.2.1,d.2.2.reverse.map (Zu4 st kd)),st.2.1,st.2.2)
def Zx8:Sp:=fun vs H Q _=>∃(H0:Hp) (F:Addr->Prop) (x tr:Addr) (ad:WAd) (st:WSt) (ps:List Zc) (js:List (Zc×Zc)) (sg:List (Str×Str×Str)) (i:Nat) (d:TrD) (kd:Str->Str),vs=[.ref x,.str d.1]/\WAt T H0 H F x tr ad st/\Yf T H0 tr ps js sg/\Y4 ps js sg/\st.1.length<64/\(st.1.map Prod.fst).Nodup/\st.1[i]? =some d/\d.2.2.length<=100/\(∀p∈d.2.2,((kd p.1,p.1):Zc)∈ps) /\
 ∀H',Off (We ad) H H'->WAt T H0 H' F x tr ad (Zfm st i d kd)->Q .non H'
theorem Zli:Z2 P w K mg base CX0 4 T.bo.f T.bo.fd ["self", "name"] (Zx8 T):=by
 refine T.bo.F.okW Zfh fun a9 A outer s H vs Q E hr h=>?_
 ·obtain ⟨H0,F,x,tr,ad,st,ps,js,sg,i,d,kd,rfl,hw,ht,yv,hl,nd,hd,Q4,hk,q⟩:=h;intro X;obtain ⟨a,ha,dx,l0,ho,⟨ts,B9,d3⟩,nF⟩:=Paired.getL hw.trs hd;have d4:=Paired.length d3;refine WSs.step (Zy (i:=2) Zfh.nd (Y0 (pv 0) T.ac T.aK (Xz T) hr.m T.ah.b .nil Z7 (Zb (pv 1) Za))) (exR rfl ⟨x,ad.dx,_,rfl,hw.obj,rfl,_,rfl,H0,F,x,tr,ad,st,i,a,d,rfl,hw,hl,nd,ha,hd,fun H1 s1=>?_⟩);have o0:=hw.mono s1;refine WSs.last (Zav (pv 2) (Xx (N':=["spot", "self"]) rfl (Z6.std 1 [0] rfl (by trivial) (by trivial) rfl ⟨rfl,trivial⟩ rfl rfl ⟨(exR rfl ⟨rfl,rfl⟩),trivial⟩) (Yax rfl T.gu (Zb (Yd (pv 2) rfl) Za)) (fun _ _ _ _=>(W6 (i:=0) (by show (["spot", "self"]:List Str).Nodup;decide +kernel))) (fun _ _ _ _=>Za6) (fun _ _ _ _=>(Zk (Zb (Zv (K:=K) rfl (pv 0) Zd) (Zb (Y0 (pv 1) T.ac T.cy (Zbw T) hr.m T.aG.b .nil Z7 (Zb (pv 0) Za)) Za))))) rfl) (exR rfl ⟨a,_,dx,_,_,rfl,s1.at ho,T.bA,T.aC,rfl,l0,_,rfl,SqL.of (s1.at B9),fun D hD=>Zv3 (K:=K) (xs:=ts.map V.ref) (fun j ys H'=>(∃us:List Addr,ys=us.map V.ref/\Paired (Zm H') us ((d.2.2.reverse.take j).map (Zu4 st kd)))/\H' D=some (.lst ys)/\Same H1 H') ⟨⟨[],rfl,.nil⟩,Zf,Same.new hD⟩ ?_ ?_ ?_⟩)
  ·rintro j ys H' _ ⟨_,_,sm⟩;exact SqL.of (sm.at (s1.at B9))
  ·rintro j v ys H2 hj ⟨⟨us,rfl,j0⟩,A4,s2⟩;rw [<-List.map_reverse,List.getElem?_map] at hj;obtain ⟨t,C3,rfl⟩:=Option.map_eq_some_iff.mp hj;obtain ⟨⟨pn,pe⟩,hq,p0⟩:=Paired.get (Zl1 d3) C3;have hul:=Paired.length j0;rw [List.length_map,List.length_take,List.length_reverse] at hul;have i3:=o0.mono s2;have F9:((kd pn,pn):Zc)∈ps:=hk (pn,pe) (List.mem_reverse.mp (List.mem_of_getElem? hq));refine ⟨Wp.set rfl,_,rfl,(ixT (s2.at (s1.at p0)) 0 rfl ⟨_,rfl,x,ad.dx,_,rfl,i3.obj,rfl,_,rfl,H0,F,x,tr,t,ad,st,ps,js,sg,kd pn,pn,pe,rfl,i3,ht,yv,s2.at (s1.at p0),F9,fun H3 s3=>⟨szA,fun t2 H4 s4 n4 e4=>⟨(s3.trans s4).at A4,by rw [List.length_map];exact Zs (by lia),⟨us++[t2],by rw [List.map_append];rfl,?_⟩,Zf,fun b o z=>?_⟩⟩⟩)⟩
   ·rw [List.take_add_one,hq,List.map_append];have hD4:=(s3.trans s4).at A4;have off:∀{b:Addr} {p:Zc},Zm H4 b p->Zm (upd H4 D (.lst (us.map V.ref++[V.ref t2]))) b p:=fun {b p} z=>by
     unfold Zm at z ⊢;rw [Ze fun y=>by rw [y,hD4] at z;cases z];exact z
    exact Paired.append (Paired.mapP j0 fun _ _ r=>off (r.mono (s3.trans s4))) (.cons (off e4) .nil)
   ·rw [Ze (Zh z hD)];exact (s3.trans s4).at (s2.at z)
  ·rintro ys H2 ⟨⟨us,rfl,j0⟩,A4,s2⟩;rw [List.length_map,d4,<-List.length_reverse,List.take_length] at j0;refine (exR rfl ⟨a,_,dx,[("name",.str d.1),("long",.int (d.2.1:Int)),("stands",.ref l0)],rfl,s2.at (s1.at ho),T.bA,T.aC,by simp,?_⟩);have nD:¬F D:=fun f=>by
    obtain ⟨o,y⟩:=o0.live D f;rw [hD] at y;cases y
   exact q _ ((Ws (s1.trans s2)).trans (Off.upd (.inr (.inr (.inr (List.mem_of_getElem? ha)))))) ((o0.mono s2).train ha hd (s2.at (s1.at ho)) ⟨us,A4,j0⟩ nD)
theorem Zpb:¬W9 "" :=fun z=>absurd z.1 (by trivial)
theorem Znn{α β:Type}{R:α->β->Prop}{l:List α}{m:List β}{b:β}(h:Paired R l (m++[b])):∃l0 a,l=l0++[a]/\R a b:=by
 induction m generalizing l with
 | nil =>
  cases h with
  | cons r t=>cases t;exact ⟨[],_,rfl,r⟩
 | cons c m ih =>
  cases h with
  | cons r t =>
   obtain ⟨l0,a,e,ra⟩:=ih t;exact ⟨_ ::l0,a,by rw [e];rfl,ra⟩
theorem Zik(k e lie:Str) (h:Xs k e lie ≠ ""):Xs k e lie∈Yt k:=by
 unfold Xs at h ⊢
 by_cases hl:lie∈Zcs k
 ·rw [if_pos hl] at h ⊢;unfold Zip Yt at *;unfold Zcs at hl
  by_cases h1:k = "points"
  ·rw [if_pos h1] at hl h ⊢;rw [if_pos h1];simp only [Zcw] at h ⊢;simp only [List.mem_cons,List.not_mem_nil,or_false] at hl;split
   ·rcases hl with rfl|rfl <;>simp
   ·split
    ·simp
    ·rename_i a b;rw [if_neg a,if_neg b] at h;exact absurd rfl h
  ·rw [if_neg h1] at h ⊢;rw [if_neg h1]
   by_cases h2:k = "cross"
   ·rw [if_pos h2] at h ⊢;rw [if_pos h2];simp only [Zcw] at h ⊢
    repeat' split
    all_goals first | simp | skip
    all_goals simp_all
   ·rw [if_neg h2] at h ⊢;rw [if_neg h2]
    by_cases h3:k = "plain"
    ·rw [if_pos h3] at h ⊢;rw [if_pos h3];simp only [Zcw] at h ⊢
     repeat' split
     all_goals first | simp | skip
     all_goals simp_all
    ·rw [if_neg h3] at h ⊢;rw [if_neg h3];simp only [Zcw] at h ⊢
     repeat' split
     all_goals first | simp | skip
     all_goals simp_all
 ·rw [if_neg hl] at h;exact absurd rfl h
theorem Zsh(h:(a,b)∈qJ js):(b,a)∈qJ js:=by
 unfold qJ at h ⊢;obtain ⟨j,hj,hm⟩:=List.mem_flatMap.mp h;refine List.mem_flatMap.mpr ⟨j,hj,?_⟩;simp only [List.mem_cons,List.not_mem_nil,or_false,Prod.mk.injEq] at hm ⊢;rcases hm with ⟨rfl,rfl⟩|⟨rfl,rfl⟩
 ·exact .inr ⟨rfl,rfl⟩
 ·exact .inl ⟨rfl,rfl⟩
theorem Y4.part(yv:Y4 ps js sg)(h:(a,b)∈qJ js):∃k,((k,b.1):Zc)∈ps:=by
 have hm:b∈Xg js:=by rw [<-Zan];exact List.mem_map.mpr ⟨_,Zsh h,rfl⟩
 obtain ⟨p,hp,hq⟩:=List.mem_flatMap.mp (yv.net.flat.mem_iff.mp hm);obtain ⟨e,_,rfl⟩:=List.mem_map.mp hq;exact ⟨p.1,hp⟩
theorem Zsv(h:(s,e)∈qS sg):s∈sg.map Prod.fst:=by
 obtain ⟨g,hg,z⟩:=List.mem_map.mp h;exact List.mem_map.mpr ⟨g,hg,congrArg Prod.fst z⟩
def Zox(P:Program)(w:World)(K:Frag)(mg:Str->Option Value)(base:Heap)(k:Nat)(f:Addr)(H:Hp)(sg:List (Str×Str×Str))(R:Str->Hp->Hp->Prop)(b:Str->Bool):Prop:=FnV K H f/\∀(nm:Str) (H1:Hp) (Q:VK),nm∈sg.map Prod.fst->Same H H1->(∀H2,R nm H1 H2->Q (.bl (b nm)) H2)->Zr0 P w K mg base k f H1 [.str nm] Q
structure GoQ(T:Tx K mg)(H0 H:Hp)(F:Addr->Prop)(x tr:Addr)(ad:WAd)(st:WSt)(ps:List Zc)(js:List (Zc×Zc))(sg:List (Str×Str×Str))(i:Nat)(d:TrD)(nm d6:Str)(R:Str->Hp->Hp->Prop)(b:Str->Bool)(Q:VK):Prop where
 fin:d6 = "" ->∀H',Same H H'->Q (.str "end") H'
 stop:d6 ≠ "" ->∀sig:Str,sig ≠ "" ->((sig,(nm,d6)):Str×Zc)∈qS sg->b sig=false->∀H1 H2,Same H H1->R sig H1 H2->Q (.str "stop") H2
 pass:d6 ≠ "" ->∀sig:Str,sig ≠ "" ->((sig,(nm,d6)):Str×Zc)∈qS sg->b sig=true->∀b9 e2 k2:Str,((nm,d6),(b9,e2))∈qJ js->((k2,b9):Zc)∈ps->∀H1 H2 H3,Same H H1->R sig H1 H2->Off (We ad) H2 H3->WAt T H0 H3 F x tr ad (Y9 st i d k2 b9 e2).2->Q (.str (Y9 st i d k2 b9 e2).1) H3
 on:d6 ≠ "" ->((nm,d6):Zc)∉sg.map Prod.snd->∀b9 e2 k2:Str,((nm,d6),(b9,e2))∈qJ js->((k2,b9):Zc)∈ps->∀H3,Off (We ad) H H3->WAt T H0 H3 F x tr ad (Y9 st i d k2 b9 e2).2->Q (.str (Y9 st i d k2 b9 e2).1) H3
def Ydd(P:Program)(w:World)(base:Heap)(T:Tx K mg):Sp:=fun vs H Q _=>∃(H0:Hp) (F:Addr->Prop) (x tr f:Addr) (ad:WAd) (st:WSt) (ps:List Zc) (js:List (Zc×Zc)) (sg:List (Str×Str×Str)) (i:Nat) (d:TrD) (k nm e:Str) (S4:List Zc) (R:Str->Hp->Hp->Prop) (b:Str->Bool),vs=[.ref x,.str d.1,.ref f]/\WAt T H0 H F x tr ad st/\Yf T H0 tr ps js sg/\Y4 ps js sg/\(stood st.1).length<=400/\st.2.2.length<=400/\st.1.length<64/\(st.1.map Prod.fst).Nodup/\st.1[i]? =some d/\1<=d.2.1/\d.2.2.length<=100/\d.2.2=S4++[(nm,e)]/\((k,nm):Zc)∈ps/\Zox P w K mg base 5 f H sg R b /\
 (∀s H1 H2,R s H1 H2->WAt T H0 H1 F x tr ad st->WAt T H0 H2 F x tr ad st/\∀t p,Zm H1 t p->Zm H2 t p)/\GoQ T H0 H F x tr ad st ps js sg i d nm (Xs k e (Yl st.2.1 nm)) R b Q
theorem Zqm:Z2 P w K mg base CX0 6 T.cp.f T.cp.fd ["self", "name", "shows"] (Ydd P w base T):=by
 refine T.cp.F.okW Zbj fun a9 A outer s H vs Q E hr h=>?_
 ·obtain ⟨H0,F,x,tr,f,ad,st,ps,js,sg,i,d,k,nm,e,S4,R,b,rfl,hw,ht,yv,hz,hy,hl,nd,hd,h1,Q4,E1,hm,hf,hR,q⟩:=h;intro X;obtain ⟨a,ha,dx,l0,ho,⟨ts,B9,d3⟩,nF⟩:=Paired.getL hw.trs hd;refine WSs.step (Zy (i:=3) Zbj.nd (Y0 (pv 0) T.ac T.aK (Xz T) hr.m T.ah.b .nil Z7 (Zb (pv 1) Za))) (exR rfl ⟨x,ad.dx,_,rfl,hw.obj,rfl,_,rfl,H0,F,x,tr,ad,st,i,a,d,rfl,hw,hl,nd,ha,hd,fun H1 s1=>?_⟩);have o0:=hw.mono s1;obtain ⟨t,htt,p0⟩:∃t,atI (ts.map V.ref) (-1)=some (.ref t)/\Zm H t (nm,e):=by
   rw [E1] at d3;obtain ⟨t0,t,rfl,r⟩:=Znn d3;exact ⟨t,by rw [List.map_append];exact Zpu _ _,r⟩
  refine WSs.step (Zy (i:=4) Zbj.nd (Zv (K:=K) rfl (Yd (pv 3) rfl) (Znc Zin Zd))) (exR rfl ⟨a,_,dx,_,_,rfl,s1.at ho,T.bA,T.aC,rfl,_,rfl,.inl ⟨l0,_,_,.ref t,rfl,rfl,SqL.of (s1.at B9),htt,?_⟩⟩);have hp1:Zm H1 t (nm,e):=s1.at p0;refine WSs.step (Zy (i:=5) Zbj.nd (Zk (Zb (Zv (K:=K) rfl (pv 4) Zd) (Zb (Y0 (pv 0) T.ac T.cy (Zbw T) hr.m T.aG.b .nil Z7 (Zb (pv 4) Za)) Za)))) (exR rfl (ixT hp1 0 rfl (exR rfl ⟨x,ad.dx,_,rfl,o0.obj,rfl,_,rfl,H0,F,x,tr,t,ad,st,ps,js,sg,k,nm,e,rfl,o0,ht,yv,hp1,hm,fun H2 s2=>⟨szA,fun te H3 s3 n3 e3=>?_⟩⟩)));generalize hled:Xs k e (Yl st.2.1 nm)=d6 at q e3 ⊢;have g9:=s1.trans (s2.trans s3);have k8:=hw.mono g9;have K6:Zm H3 te (nm,d6):=e3;refine WSs.step (Zx (Zj (r:=Y7 K) (Xc hr) (Zv (K:=K) rfl (pv 5) Zd) Zg (Zr _)) Zq Zp) (exR rfl (ixT K6 1 rfl (.inl ⟨rfl,_,rfl,Yn (fun z=>?_) (fun z=>?_)⟩)))
  ·exact WSs.last (Zo Zg) (q.fin (V.str.inj (of_decide_eq_true z)) H3 g9)
  have m6:d6 ≠ "" :=fun y=>z (decide_eq_true (by rw [y]))
  have tr3:=ht.mono k8.same;obtain ⟨V8,po,jo,so,si,kp,ks,kj,ko,T2,_⟩:=id ht.ex;have ht1:=k8.same.at T2;refine WSs.step (Zy (i:=6) Zbj.nd (Y0 (Yd (pv 0) rfl) T.af T.cY (Zgf T) hr.m T.aF.b .nil Z7 (Zb (pv 5) Za))) (exR rfl ⟨x,_,ad.dx,_,_,rfl,k8.obj,T.ac,T.ax,rfl,tr,V8,_,rfl,ht1,rfl,_,rfl,tr,te,(nm,d6),ps,js,sg,rfl,tr3,yv,K6,fun sig hs=>?_⟩);have U1:((nm,d6):Zc)∈Y5 ps:=List.mem_flatMap.mpr ⟨(k,nm),hm,List.mem_map.mpr ⟨d6,hled ▸ Zik k e _ (hled ▸ m6),rfl⟩⟩;have last:∀{H5:Hp} {Q5:VK},WAt T H0 H5 F x tr ad st->Zm H5 te (nm,d6)->(∀b9 e2 k2:Str,((nm,d6),(b9,e2))∈qJ js->((k2,b9):Zc)∈ps->∀H6,Off (We ad) H5 H6->WAt T H0 H6 F x tr ad (Y9 st i d k2 b9 e2).2->Q5 (.str (Y9 st i d k2 b9 e2).1) H6)->∀t' e',(((nm,d6),e'):Zc×Zc)∈qJ js->Zm H5 t' e'->Zwe T [.ref x,.ref a,.ref t'] H5 Q5 E0:=by
   intro H5 Q5 L4 hp5 q5 t' e' hq V7;obtain ⟨k2,E2⟩:=yv.part hq;exact ⟨H0,F,x,tr,a,t',ad,st,ps,js,sg,i,d,k2,e'.1,e'.2,rfl,L4,ht,yv,hz,hy,ha,hd,h1,Q4,V7,E2,fun H6 o6 A7=>q5 e'.1 e'.2 k2 hq E2 H6 o6 A7⟩
  refine WSs.step (Zx (PW.pt (Zdk (Zj (r:=Ze7 K) (Zhg hr) (pv 6) Zg (Zr _)) (Zbe (W1 (Xl (Zpf (k:=_) hr (pv 2) (Zb (pv 6) Za))))))) Zq Zp) (exR rfl (.inl ⟨rfl,_,rfl,Yn (fun z2=>?_) (fun z2=>?_)⟩))
  ·have z2:sig ≠ "" :=by simpa using z2
   have hq:(sig,(nm,d6))∈qS sg:=(hs.resolve_right fun y=>z2 y.1).1;refine (exR rfl ⟨f,rfl,hf.1.mono g9,_,rfl,hf.1.mono g9,hf.2 sig H3 _ (Zsv hq) g9 fun H4 r4=>(exR rfl ?_)⟩);obtain ⟨w9,hp4⟩:=hR sig H3 H4 r4 k8;cases hb:b sig with
   | false=>exact Ze3 (WSs.last (Zo Zg) (q.stop m6 sig z2 hq hb H3 H4 g9 r4))
   | true =>
    refine W5 ?_;exact WSs.last (Zo (Y0 (pv 0) T.ac T.dq (Zgk T) hr.m T.be.b .nil Z7 (Zb (pv 3) (Zb (Y0 (Yd (pv 0) rfl) T.af T.cR (Zd4 T) hr.m T.aH.b .nil Z7 (Zb (pv 5) Za)) Za)))) (exR rfl ⟨x,ad.dx,_,rfl,w9.obj,rfl,_,rfl,_,rfl,x,_,ad.dx,_,_,rfl,w9.obj,T.ac,T.ax,rfl,tr,V8,_,rfl,w9.same.at T2,rfl,_,rfl,tr,te,(nm,d6),ps,js,sg,rfl,ht.mono w9.same,yv,hp4 te _ K6,.inl ⟨U1,last w9 (hp4 te _ K6) fun b9 e2 k2 j1 j2 H6 o6 A7=>q.pass m6 sig z2 hq hb b9 e2 k2 j1 j2 H3 H4 H6 g9 r4 o6 A7⟩⟩)
  ·have z2:sig = "" :=by simpa using z2
   have M9:((nm,d6):Zc)∉sg.map Prod.snd:=by
    rcases hs with ⟨y,hn,_⟩|⟨_,y⟩
    ·rw [z2] at hn;exact absurd hn Zpb
    ·exact y
   exact WSs.last (Zo (Y0 (pv 0) T.ac T.dq (Zgk T) hr.m T.be.b .nil Z7 (Zb (pv 3) (Zb (Y0 (Yd (pv 0) rfl) T.af T.cR (Zd4 T) hr.m T.aH.b .nil Z7 (Zb (pv 5) Za)) Za)))) (exR rfl ⟨x,ad.dx,_,rfl,k8.obj,rfl,_,rfl,_,rfl,x,_,ad.dx,_,_,rfl,k8.obj,T.ac,T.ax,rfl,tr,V8,_,rfl,ht1,rfl,_,rfl,tr,te,(nm,d6),ps,js,sg,rfl,tr3,yv,K6,.inl ⟨U1,last k8 K6 fun b9 e2 k2 j1 j2 H6 o6 A7=>q.on m6 M9 b9 e2 k2 j1 j2 H6 ((Ws g9).trans o6) A7⟩⟩)
theorem Zo8{κ:Type}[DecidableEq κ]{l:List (κ×V)}{k:κ}(h:k∉l.map (·.1)):Yy l k=none:=by
 cases e:Yy l k with
 | none=>rfl
 | some v=>exact absurd (Zx3 e) h
theorem Znd:∀(l C1:List (Key×V)),((C1++l).map (·.1)).Nodup->Zfu C1 l=C1++l
 | [],C1,_=>by rw [List.append_nil];rfl
 | p ::l,C1,h=>by
  have hn:Yy C1 p.1=none:=Zo8 fun m=>by
   rw [List.map_append,List.nodup_append] at h;exact h.2.2 _ m _ List.mem_cons_self rfl
  show Zfu (Wb C1 p.1 p.2) l=_;rw [Zhx _ hn,Znd l _ (by rw [List.append_assoc];exact h),List.append_assoc]
  rfl
def Ycu(K:Frag):Sp:=fun vs H Q _=>∃k e lie:Str,vs=[.str k,.str e,.str lie]/\lie∈Zcs k/\∀H',Same H H'->Q (.str (Xs k e lie)) H'
theorem Zhq(e:Str)(hd:H d=none)(nd:(l.map Prod.fst).Nodup):Wc (upd (upd H d (.dK [])) d (.dK (Zfu [] (Xw l)))) d (.str e) ((liQ l e).map V.str):=by
 have hk:((Xw l).map Prod.fst).Nodup:=by
  unfold Xw;rw [List.map_map];have:=Zrn Y1 nd;rw [List.map_map] at this;exact this
 rw [Znd (Xw l) [] (by simpa using hk),<-Zgc];exact Wc.k (k:=Z1 e) Zf
theorem Ztp(e:Str):Yl [("a", "b"),("b", "a"),("c", "d"),("d", "c")] e=Zcw e [("a", "b"),("c", "d")]:=by
 unfold Yl liQ;simp only [Zcw,List.find?_cons,List.find?_nil]
 by_cases h1:e = "a"
 ·subst h1;rfl
 by_cases h2:e = "b"
 ·subst h2;rfl
 by_cases h3:e = "c"
 ·subst h3;rfl
 by_cases h4:e = "d"
 ·subst h4;rfl
 rw [decide_eq_false (fun z=>h1 z.symm),decide_eq_false (fun z=>h2 z.symm),decide_eq_false (fun z=>h3 z.symm),decide_eq_false (fun z=>h4 z.symm),if_neg h1,if_neg h2,if_neg h3,if_neg h4]
 rfl
theorem Zs7(e:Str):Yl [("a", "b"),("b", "a")] e=Zcw e [("a", "b")]:=by
 unfold Yl liQ;simp only [Zcw,List.find?_cons,List.find?_nil]
 by_cases h1:e = "a"
 ·subst h1;rfl
 by_cases h2:e = "b"
 ·subst h2;rfl
 rw [decide_eq_false (fun z=>h1 z.symm),decide_eq_false (fun z=>h2 z.symm),if_neg h1,if_neg h2]
 rfl
theorem Zv2(e:Str):Yl [("", "a")] e=Zcw e [("", "a")]:=by
 unfold Yl liQ;simp only [Zcw,List.find?_cons,List.find?_nil]
 by_cases h1:e = ""
 ·subst h1;rfl
 rw [decide_eq_false (fun z=>h1 z.symm),if_neg h1]
 by_cases h2:e = "a"
 ·rw [if_pos h2];rfl
 ·rw [if_neg h2];rfl
theorem Zry(e lie:Str):Yl [("stem",lie),(lie, "stem")] e=Zcw e [("stem",lie)]:=by
 unfold Yl liQ;simp only [Zcw,List.find?_cons,List.find?_nil]
 by_cases h1:e = "stem"
 ·rw [decide_eq_true h1.symm,if_pos h1];rfl
 rw [decide_eq_false (fun z=>h1 z.symm),if_neg h1]
 by_cases h2:e=lie
 ·rw [decide_eq_true h2.symm,if_pos h2];rfl
 ·rw [decide_eq_false (fun z=>h2 z.symm),if_neg h2];rfl
theorem Zct(o:Option Str):(o.map V.str).getD (.str "")=V.str (o.getD ""):=by cases o <;>rfl
theorem Zdo:Z2 P w K mg base CX0 1 T.cj.f T.cj.fd ["_law_kind_here", "_law_end", "_law_lie"] (Ycu K):=by
 refine T.cj.F.okW Zmt fun a9 A outer s H vs Q E hr h=>?_
 ·obtain ⟨k,e,lie,rfl,hl,q⟩:=h;intro X;have se:∀{a b:Str},decide (V.str a=V.str b)=true->a=b:=fun z=>V.str.inj (of_decide_eq_true z)
  have sn:∀{a b:Str},¬decide (V.str a=V.str b)=true->a≠b:=fun z y=>z (decide_eq_true (by rw [y]))
  have nw:∀{d:Addr} {o:HO},H d=none->Same H (upd (upd H d (.dK [])) d o):=fun {d o} hd b u z=>by rw [Ze (Zh z hd),Ze (Zh z hd)];exact z
  unfold Xs at q;rw [if_pos hl] at q;unfold Zip at q;unfold Zcs at hl;refine WSs.step (Zx (Zj (r:=Y7 K) (Xc hr) (pv 0) Zg (Zr _)) Zq Zp) (exR rfl (.inl ⟨rfl,_,rfl,Yn (fun z=>?_) (fun z=>?_)⟩))
  ·have z:=se z;rw [if_pos z] at q hl;refine WSs.last (Zo (Zbn (Y8 hr) (Zjy (Zaw Zg (pv 2) (Zaw (pv 2) Zg Zj0)) rfl rfl (by simp) (by show 2<=15;decide)) (pv 1) Zg ⟨rfl,rfl,rfl,rfl⟩)) fun d hd=>(exR rfl (exR rfl ⟨Zf,Xw [("stem",lie),(lie, "stem")],rfl,(by show 2<=15;decide),d,rfl,.inl ⟨_,.inl Zf⟩,_,rfl,_,Zhq e hd ?_,?_⟩))
   ·simp only [List.mem_cons,List.not_mem_nil,or_false] at hl;rcases hl with rfl|rfl <;>decide +kernel
   ·rw [Zct,show (liQ [("stem",lie),(lie, "stem")] e).getD "" =Zcw e [("stem",lie)] from Zry e lie];exact q _ (nw hd)
  have z:=sn z;rw [if_neg z] at q hl;refine WSs.step (Zx (Zj (r:=Y7 K) (Xc hr) (pv 0) Zg (Zr _)) Zq Zp) (exR rfl (.inl ⟨rfl,_,rfl,Yn (fun z2=>?_) (fun z2=>?_)⟩))
  ·have z2:=se z2;rw [if_pos z2] at q;refine WSs.last (Zo (Zbn (Y8 hr) (Zjy (Zaw Zg Zg (Zaw Zg Zg (Zaw Zg Zg (Zaw Zg Zg Zj0)))) rfl rfl (by simp) (by show 4<=15;decide)) (pv 1) Zg ⟨rfl,rfl,rfl,rfl⟩)) fun d hd=>⟨Zf,Xw [("a", "b"),("b", "a"),("c", "d"),("d", "c")],rfl,(by show 4<=15;decide),d,rfl,.inl ⟨_,.inl Zf⟩,_,rfl,_,Zhq e hd (by trivial),?_⟩
   rw [Zct,show (liQ [("a", "b"),("b", "a"),("c", "d"),("d", "c")] e).getD "" =Zcw e [("a", "b"),("c", "d")] from Ztp e];exact q _ (nw hd)
  have z2:=sn z2;rw [if_neg z2] at q;refine WSs.step (Zx (Zj (r:=Y7 K) (Xc hr) (pv 0) Zg (Zr _)) Zq Zp) (exR rfl (.inl ⟨rfl,_,rfl,Yn (fun z3=>?_) (fun z3=>?_)⟩))
  ·have z3:=se z3;rw [if_pos z3] at q;refine WSs.last (Zo (Zbn (Y8 hr) (Zjy (Zaw Zg Zg (Zaw Zg Zg Zj0)) rfl rfl (by simp) (by show 2<=15;decide)) (pv 1) Zg ⟨rfl,rfl,rfl,rfl⟩)) fun d hd=>⟨Zf,Xw [("a", "b"),("b", "a")],rfl,(by show 2<=15;decide),d,rfl,.inl ⟨_,.inl Zf⟩,_,rfl,_,Zhq e hd (by trivial),?_⟩
   rw [Zct,show (liQ [("a", "b"),("b", "a")] e).getD "" =Zcw e [("a", "b")] from Zs7 e];exact q _ (nw hd)
  have z3:=sn z3;rw [if_neg z3] at q;refine WSs.last (Zo (Zbn (Y8 hr) (Zux Zg Zg) (pv 1) Zg ⟨rfl,rfl,rfl,rfl⟩)) fun d hd=>⟨Zf,Xw [("", "a")],rfl,(by show 1<=15;decide),d,rfl,.inl ⟨_,.inl Zf⟩,_,rfl,_,Zhq e hd (by trivial),?_⟩
  rw [Zct,show (liQ [("", "a")] e).getD "" =Zcw e [("", "a")] from Zv2 e];exact q _ (nw hd)
theorem imP(h:Zm H' u e):Im K H' 1 (trP e) (.ref u):=Im.tup (n:=0) (SqT.of h) (.cons (.str _) (.cons (.str _) .nil))
def Yc9(K:Frag):Sp:=fun vs H Q _=>∃(jl t:Addr) (js:List (Zc×Zc)) (e:Zc),vs=[.ref jl,.ref t]/\Yq H jl js/\Zm H t e/\e∈Xg js/\∀t' e',((e,e'):Zc×Zc)∈qJ js->Zm H t' e'->Q (.ref t') H
theorem Zl9:Z2 P w K mg base CX0 1 T.bU.f T.bU.fd ["_law_joins", "_law_end"] (Yc9 K):=by
 refine T.bU.F.okW Zcr fun a9 A outer s H vs Q E hr h=>?_
 ·obtain ⟨jl,t,js,e,rfl,⟨tj,hj,hjs⟩,ht,hm,q⟩:=h;intro X;let I22:=fun (i:Nat) (σ:St) (H':Hp)=>(∃o2 o3,σ=[some (.ref jl),some (.ref t),o2,o3])/\H'=H/\∀j∈js.take i,j.1≠e/\j.2≠e
  refine WSs.step (Xn PassesOwn.never rfl (Ym (pv 0)) (Wr rfl (Zw (Yw (i:=2) Zcr.nd) (Zw (Yw (i:=3) Zcr.nd) Xb))) Zq) (exR rfl ⟨jl,rfl,⟨_,SqL.of hj⟩,X0 (xs:=tj.map V.ref) I22 ⟨⟨none,none,rfl⟩,rfl,fun _ z=>nomatch z⟩ ?_ ?_ ?_⟩)
  ·rintro i σ H' _ ⟨_,rfl,_⟩;exact SqL.of hj
  ·rintro i v σ H' hi ⟨⟨o2,o3,rfl⟩,rfl,hn⟩;rw [List.getElem?_map] at hi;obtain ⟨tp,V6,rfl⟩:=Option.map_eq_some_iff.mp hi;obtain ⟨⟨j1,j2⟩,hq,t1,t2,h1,h2,h3⟩:=Paired.get hjs V6;have J6:=List.mem_of_getElem? hq;refine ⟨tp,_,rfl,SqT.of h1,rfl,_,_,rfl,_,_,rfl,rfl,?_⟩;refine WSs.step (Zx (Zj (r:=Y7 K) (Xc hr) (pv 2) (pv 1) (Zr _)) Zq Zp) (exR rfl (exR rfl (.inr (.inl ⟨1,trP j1,trP e,by decide,.inl ⟨_,_,rfl,rfl⟩,imP h2,imP ht,_,rfl,Yn (fun z=>?_) (fun z=>?_)⟩))))
   ·have z:j1=e:=Zj4 (of_decide_eq_true z);subst z;exact WSs.last (Zo (pv 3)) (exR rfl (q t2 j2 (List.mem_flatMap.mpr ⟨_,J6,List.mem_cons_self⟩) h3))
   have z:j1≠e:=fun y=>z (decide_eq_true (by rw [y]))
   refine WSs.last (Zx (Zj (r:=Y7 K) (Xc hr) (pv 3) (pv 1) (Zr _)) Zq Zp) (exR rfl (exR rfl (.inr (.inl ⟨1,trP j2,trP e,by decide,.inl ⟨_,_,rfl,rfl⟩,imP h3,imP ht,_,rfl,Yn (fun y=>?_) (fun y=>?_)⟩))))
   ·have y:j2=e:=Zj4 (of_decide_eq_true y);subst y;exact WSs.last (Zo (pv 2)) (exR rfl (q t1 j1 (List.mem_flatMap.mpr ⟨_,J6,List.mem_cons_of_mem _ List.mem_cons_self⟩) h2))
   have y:j2≠e:=fun x=>y (decide_eq_true (by rw [x]))
   refine ⟨⟨_,_,rfl⟩,rfl,fun j hj'=>?_⟩;rw [List.take_add_one,hq] at hj';rcases List.mem_append.mp hj' with x|x
   ·exact hn j x
   ·rw [List.mem_singleton.mp x];exact ⟨z,y⟩
  ·rintro σ H' ⟨_,rfl,hn⟩;rw [List.length_map,Paired.length hjs,List.take_length] at hn;rw [<-Zan] at hm;obtain ⟨⟨a,b⟩,L8,rfl⟩:=List.mem_map.mp hm;obtain ⟨j,hj',hx⟩:=List.mem_flatMap.mp L8;simp only [List.mem_cons,List.not_mem_nil,or_false,Prod.mk.injEq] at hx;rcases hx with ⟨x,_⟩|⟨x,_⟩
   ·exact absurd x.symm (hn j hj').1
   ·exact absurd x.symm (hn j hj').2
def Yci(K:Frag):Sp:=fun vs H Q _=>∃(sl t:Addr) (sg:List (Str×Str×Str)) (e:Zc),vs=[.ref sl,.ref t]/\Za7 H sl sg/\Zm H t e/\(∀nm H',Same H H'->((nm,e):Str×Zc)∈qS sg->Q (.str nm) H')/\(∀H',Same H H'->e∉sg.map Prod.snd->Q (.str "") H')
theorem Zkz:Z2 P w K mg base CX0 1 T.bV.f T.bV.fd ["_law_signals", "_law_end"] (Yci K):=by
 refine T.bV.F.okW Zah fun a9 A outer s H vs Q E hr h=>?_
 ·obtain ⟨sl,t,sg,e,rfl,⟨gs,hg,Q0⟩,ht,q1,q2⟩:=h;intro X;let I23:=fun (i:Nat) (σ:St) (H':Hp)=>(∃o2 o3 o4,σ=[some (.ref sl),some (.ref t),o2,o3,o4])/\Same H H'/\∀g∈sg.take i,g.2≠e
  refine WSs.step (Xn PassesOwn.never rfl (Ym (pv 0)) (Wr rfl (Zw (Yw (i:=2) Zah.nd) (Zw (Yw (i:=3) Zah.nd) (Zw (Yw (i:=4) Zah.nd) Xb)))) Zq) (exR rfl ⟨sl,rfl,⟨_,SqL.of hg⟩,X0 (xs:=gs.map V.ref) I23 ⟨⟨none,none,none,rfl⟩,Same.refl _,fun _ z=>nomatch z⟩ ?_ ?_ ?_⟩)
  ·rintro i σ H' _ ⟨_,sm,_⟩;exact SqL.of (sm.at hg)
  ·rintro i v σ H' hi ⟨⟨o2,o3,o4,rfl⟩,sm,hn⟩;rw [List.getElem?_map] at hi;obtain ⟨tp,V6,rfl⟩:=Option.map_eq_some_iff.mp hi;obtain ⟨⟨n,p1,p2⟩,hq,h1⟩:=Paired.get Q0 V6;have J6:=List.mem_of_getElem? hq;refine ⟨tp,_,rfl,SqT.of (sm.at h1),rfl,_,_,rfl,_,_,rfl,_,_,rfl,rfl,?_⟩;refine WSs.last (Zx (Zj (r:=Y7 K) (Xc hr) (Zk (Zb (pv 3) (Zb (pv 4) Za))) (pv 1) (Zr _)) Zq Zp) (exR rfl (exR rfl ⟨szA,fun t2 H2 s2 n2 e2=>(exR rfl (.inr (.inl ⟨1,trP (p1,p2),trP e,by decide,.inl ⟨_,_,rfl,rfl⟩,imP e2,imP ((sm.trans s2).at ht),_,rfl,Yn (fun z=>?_) (fun z=>?_)⟩)))⟩))
   ·have z:(p1,p2)=e:=Zj4 (of_decide_eq_true z);exact WSs.last (Zo (pv 2)) (exR rfl (q1 n H2 (sm.trans s2) (List.mem_map.mpr ⟨(n,p1,p2),J6,by rw [<-z]⟩)))
   have z:(p1,p2)≠e:=fun y=>z (decide_eq_true (by rw [y]))
   refine ⟨⟨_,_,_,rfl⟩,sm.trans s2,fun g hg'=>?_⟩;rw [List.take_add_one,hq] at hg';rcases List.mem_append.mp hg' with x|x
   ·exact hn g x
   ·rw [List.mem_singleton.mp x];exact z
  ·rintro σ H' ⟨⟨o2,o3,o4,rfl⟩,sm,hn⟩;rw [List.length_map,Paired.length Q0,List.take_length] at hn;exact WSs.last (Zo Zg) (q2 H' sm fun z=>by
    obtain ⟨g,hg',y⟩:=List.mem_map.mp z;exact hn g hg' y)
def Zc3(nm:Str)(ps:List Zc):List Str:=(ps.filter fun p=>decide (p.2=nm)).map Prod.fst
def Yc0(K:Frag):Sp:=fun vs H Q _=>∃(yd pl jl sl:Addr) (ps:List Zc) (k nm:Str),vs=[.ref yd,.str nm]/\H yd=some (.tup [.ref pl,.ref jl,.ref sl])/\Zl H pl ps/\ps.length<=100/\(ps.map Prod.snd).Nodup/\((k,nm):Zc)∈ps/\∀H',Same H H'->Q (.str k) H'
theorem Zpn(nd:(ps.map Prod.snd).Nodup)(hm:((k,nm):Zc)∈ps):∃r,Zc3 nm ps=k ::r:=by
 unfold Zc3;cases z:ps.filter fun p=>decide (p.2=nm) with
 | nil=>exact absurd (List.mem_filter.mpr ⟨hm,decide_eq_true rfl⟩) (by rw [z];exact fun y=>nomatch y)
 | cons p r =>
  have hp:p∈ps.filter fun p=>decide (p.2=nm):=by rw [z];exact List.mem_cons_self
  obtain ⟨h1,h2⟩:=List.mem_filter.mp hp;rw [Zo9 nd h1 hm (of_decide_eq_true h2)];exact ⟨_,rfl⟩
theorem Zek:Z2 P w K mg base CX0 1 T.cE.f T.cE.fd ["_law_yard", "_law_name"] (Yc0 K):=by
 refine T.cE.F.okW Zon fun a9 A outer s H vs Q E hr h=>?_
 ·obtain ⟨yd,pl,jl,sl,ps,k,nm,rfl,hy,⟨ts,i4,d3⟩,hz,nd,hm,q⟩:=h;intro X;refine WSs.last (Zo (Zv (K:=K) rfl (Xx (N':=["_law_kind_here", "_law_one", "_law_name"]) rfl (Z6.std 2 [1] rfl (by trivial) (by trivial) rfl ⟨rfl,trivial⟩ rfl rfl ⟨(exR rfl ⟨rfl,rfl⟩),trivial⟩) (Ym (Zv (K:=K) rfl (pv 0) Zd)) (fun _ _ _ _=>(Zc4 (K:=K) (n:=2) rfl rfl (Zw (W6 (i:=0) (by show (["_law_kind_here", "_law_one", "_law_name"]:List Str).Nodup;decide +kernel)) (Zw (W6 (i:=1) (by show (["_law_kind_here", "_law_one", "_law_name"]:List Str).Nodup;decide +kernel)) Xb)))) (fun _ _ _ _=>(Zdu (Zj (r:=Y7 K) (Xc hr) (pv 1) (pv 2) (Zr _)))) (fun _ _ _ _=>(pv 0))) Zd)) (exR rfl (ixT hy 0 rfl ⟨pl,rfl,⟨_,SqL.of i4⟩,fun D hD=>Xj (xs:=ts.map V.ref) (fun i ys H'=>ys=(Zc3 nm (ps.take i)).map V.str/\H' D=some (.lst ys)/\Same H H') ⟨rfl,Zf,Same.new hD⟩ ?_ ?_ ?_⟩))
  ·rintro i ys H' _ ⟨_,_,sm⟩;exact SqL.of (sm.at i4)
  ·rintro j v ys H' hj ⟨rfl,p8,sm⟩;rw [List.getElem?_map] at hj;obtain ⟨t,C3,rfl⟩:=Option.map_eq_some_iff.mp hj;obtain ⟨⟨k',n'⟩,hq,p0⟩:=Paired.get d3 C3;have Q6:Zc3 nm (ps.take (j+1))=Zc3 nm (ps.take j)++if n'=nm then [k'] else []:=by
    unfold Zc3;rw [List.take_add_one,hq,List.filter_append,List.map_append,show (some ((k',n'):Zc)).toList=[(k',n')] from rfl,List.filter_cons]
    by_cases z:n'=nm
    ·rw [if_pos (decide_eq_true z),if_pos z];rfl
    ·rw [if_neg (by simpa using z),if_neg z];rfl
   have B0:(Zc3 nm (ps.take j)).length<=100:=by
    unfold Zc3;have:=List.length_filter_le (fun p:Zc=>decide (p.2=nm)) (ps.take j);rw [List.length_map];rw [List.length_take] at this;lia
   unfold Zam;refine ⟨t,_,rfl,SqT.of (sm.at p0),rfl,_,_,rfl,_,_,rfl,rfl,(Wp.set rfl).trans (Wp.set rfl),_,rfl,_,rfl,.inl ⟨rfl,_,rfl,Yn (fun z=>?_) (fun z=>?_)⟩⟩
   ·have z:n'=nm:=V.str.inj (of_decide_eq_true z);rw [Q6,if_pos z];refine (exR rfl ⟨p8,by rw [List.length_map];exact Zs (by lia),by rw [List.map_append];rfl,Zf,fun b o y=>?_⟩);rw [Ze (Zh y hD)];exact sm.at y
   ·have z:n'≠nm:=fun y=>z (decide_eq_true (by rw [y]))
    rw [Q6,if_neg z,List.append_nil];exact ⟨rfl,p8,sm⟩
  ·rintro ys H6 ⟨rfl,B1,s6⟩;rw [List.length_map,Paired.length d3,List.take_length] at B1;obtain ⟨r,e⟩:=Zpn nd hm;rw [e] at B1;exact .inl ⟨D,_,0,.str k,rfl,rfl,SqL.of B1,Yh (j:=0) rfl,q H6 s6⟩
structure LAd where
 d0:Addr
 d1:Addr
 m:Addr
 ts:List Addr
def Zhv(G:Addr->Prop)(H:Hp)(t:Addr)(d:TrD):Prop:=∃l,H t=some (.tup [.int (d.2.1:Int),.ref l])/\Zl H l d.2.2/\¬G l
structure LAt(H:Hp)(G:Addr->Prop)(sl:Addr)(ad:LAd)(st:WSt):Prop where
 obj:H sl=some (.lst [.ref ad.d0,.ref ad.d1,.ref ad.m])
 trd:H ad.d0=some (.dK (trK ad.ts st.1))
 recs:Paired (Zhv G H) ad.ts st.1
 lies:H ad.d1=some (.dK (Xw st.2.1))
 mis:Zl H ad.m st.2.2
 g0:G ad.d0
 g1:G ad.d1
 gm:G ad.m
 ne:ad.d0≠ad.d1
 nx:¬G sl
 live:∀b,G b->∃o,H b=some o
theorem Zhv.mono{G:Addr->Prop}(e:Same H H')(h:Zhv G H t d):Zhv G H' t d:=by
 obtain ⟨l,h1,h2,h3⟩:=h;exact ⟨l,e.at h1,h2.mono e,h3⟩
theorem LAt.mono{G:Addr->Prop}(e:Same H H')(h:LAt H G sl ad st):LAt H' G sl ad st :=
 ⟨e.at h.obj,e.at h.trd,Paired.mapP h.recs fun _ _ r=>r.mono e,e.at h.lies,h.mis.mono e,h.g0,h.g1,h.gm,h.ne,h.nx,fun b f=>let ⟨o,z⟩:=h.live b f;⟨o,e.at z⟩⟩
theorem Zl.offF{F:Addr->Prop}(o:Off F H H')(h:Zl H l ps)(nl:¬F l)(nt:∀t xs,H t=some (.tup xs)->¬F t):Zl H' l ps:=by
 obtain ⟨ts,h1,h2⟩:=h;exact ⟨ts,o _ _ nl h1,Paired.mapP h2 fun t p r=>o _ _ (nt t _ r) r⟩
def Zx5(K:Frag):Sp:=fun vs H Q _=>∃(G:Addr->Prop) (sl:Addr) (ad:LAd) (st:WSt),vs=[.ref sl]/\LAt H G sl ad st/\(st.1.map Prod.fst).Nodup/\(stood st.1).length<=400/\∀l H',Same H H'->H l=none->H' l=some (.lst ((stood st.1).map V.str))->Q (.ref l) H'
theorem Zbf:Z2 P w K mg base CX0 1 T.ck.f T.ck.fd ["_law_state"] (Zx5 K):=by
 refine T.ck.F.okW Zbb fun a9 A outer s H vs Q E hr h=>?_
 ·obtain ⟨G,sl,ad,st,rfl,hs,nd,hz,q⟩:=h;intro X;have sd:sl≠ad.d0:=fun z=>hs.nx (by rw [z];exact hs.g0)
  refine WSs.step (Zy (i:=1) Zbb.nd (Zt Za)) ⟨szA,fun l0 H1 s1 n1 e1=>?_⟩;have l0d:l0≠ad.d0:=fun z=>by rw [z,hs.trd] at n1;cases n1
  refine WSs.step (Zpa (Xn PassesOwn.never rfl (Zw6 (Zv (K:=K) rfl (pv 0) Zd)) (Yw (i:=2) Zbb.nd) Zq)) (exR rfl (.inl ⟨sl,_,0,_,rfl,rfl,SqL.of (s1.at hs.obj),Yh (j:=0) rfl,ad.d0,_,rfl,s1.at hs.trd,fun o nf=>Zuo (fun i σ H'=>∃lf,(∃o2,σ=[some (.ref sl),some (.ref lf),o2])/\lf≠ad.d0/\H lf=none/\Same (upd H ad.d0 (.frz o (.dK (trK ad.ts st.1)))) H'/\H' lf=some (.lst ((stood (st.1.take i)).map V.str))) ⟨l0,⟨none,rfl⟩,l0d,n1,s1.frz,by rw [Ze l0d];exact e1⟩ ?_ ?_ ?_⟩))
  ·rintro i σ H' _ ⟨_,_,_,_,s2,_⟩;exact s2.at Zf
  ·rintro i kv σ H2 hi ⟨lf,⟨o2,rfl⟩,lfd,nlf,s2,A5⟩;obtain ⟨t,d,C3,hd,rfl⟩:=Zsi hi;obtain ⟨t',V7,l,h1,⟨us,h2,h3⟩,_⟩:=Paired.getL hs.recs hd;rw [C3] at V7;cases V7;have up:∀{b:Addr} {u:HO},H b=some u->(∀k,u ≠ .dK k)->H2 b=some u:=fun {b u} z nk=>s2.at (by rw [Ze fun y=>by rw [y,hs.trd] at z;cases z;exact nk _ rfl];exact z)
   have A1:=Zpq st.1 (i+1);rw [Zet hd,List.length_append,List.length_map] at A1;refine WSs.last (Zy (i:=1) Zbb.nd (Zu W3 (pv 1) (Xx (N':=["_law_part_here", "_law_end"]) rfl (Z6.std 2 [] rfl (by trivial) (by trivial) rfl trivial rfl rfl trivial) (Ym (Zv (K:=K) rfl (X1 (Y8 hr) (Zv (K:=K) rfl (pv 0) Zd) (pv 2) (fun _ _=>rfl)) Zd)) (fun _ _ _ _=>(Zc4 (K:=K) (n:=2) rfl rfl (Zw (W6 (i:=0) (by show (["_law_part_here", "_law_end"]:List Str).Nodup;decide +kernel)) (Zw (W6 (i:=1) (by show (["_law_part_here", "_law_end"]:List Str).Nodup;decide +kernel)) Xb)))) (fun _ _ _ _=>Za6) (fun _ _ _ _=>(pv 0))))) (exR rfl (exR rfl (.inl ⟨sl,_,0,_,rfl,rfl,SqL.of (up hs.obj fun _ z=>nomatch z),Yh (j:=0) rfl,_,rfl,ad.d0,_,rfl,by rw [<-Zc0 nd C3 hd];exact .inl ⟨_,Z1 d.1,.inr ⟨o,s2.at Zf⟩,rfl,rfl⟩,(ixT (up h1 fun _ z=>nomatch z) 1 rfl ⟨l,rfl,⟨_,SqL.of (up h2 fun _ z=>nomatch z)⟩,fun D hD=>Xj (xs:=us.map V.ref) (fun j ys H'=>ys=((d.2.2.take j).map Prod.fst).map V.str/\H' D=some (.lst ys)/\Same H2 H') ⟨rfl,Zf,Same.new hD⟩ ?_ ?_ ?_⟩)⟩)))
   ·rintro j ys H' _ ⟨_,_,sm⟩;exact SqL.of (sm.at (up h2 fun _ z=>nomatch z))
   ·rintro j v ys H' hj ⟨rfl,p8,sm⟩;rw [List.getElem?_map] at hj;obtain ⟨u,hu,rfl⟩:=Option.map_eq_some_iff.mp hj;obtain ⟨p,hq,p0⟩:=Paired.get h3 hu;unfold Zam;refine ⟨u,_,rfl,SqT.of (sm.at (up p0 fun _ z=>nomatch z)),rfl,_,_,rfl,_,_,rfl,rfl,(Wp.set rfl).trans (Wp.set rfl),_,rfl,p8,?_,?_,Zf,fun b o' y=>?_⟩
    ·rw [List.length_map,List.length_map,List.length_take];exact Zs (by lia)
    ·rw [List.take_add_one,hq,List.map_append,List.map_append];rfl
    ·rw [Ze (Zh y hD)];exact sm.at y
   ·rintro ys H6 ⟨rfl,B1,s6⟩;rw [List.length_map,Paired.length h3,List.take_length] at B1;refine .inr (.inr ⟨lf,D,_,_,rfl,rfl,s6.at A5,B1,?_,fun l2 H7 s7 n7 e7=>⟨l2,⟨_,rfl⟩,?_,?_,s2.trans (s6.trans s7),?_⟩⟩)
    ·rw [List.length_map,List.length_map,List.length_map];exact sz (by lia)
    ·exact fun z=>by rw [z,s6.at (s2.at Zf)] at n7;cases n7
    ·have:=s2.free (s6.free n7)
     by_cases z:l2=ad.d0
     ·rw [z,Zf] at this;cases this
     ·rw [Ze z] at this;exact this
    ·rw [e7,Zet hd,List.map_append]
  ·rintro σ H2 ⟨lf,⟨o2,rfl⟩,lfd,nlf,s2,A5⟩;rw [List.take_of_length_le (by unfold trK;rw [List.length_map,List.length_zip,Paired.length hs.recs,Nat.min_self];exact Nat.le_refl _)] at A5;refine ⟨ad.d0,o,_,s2.at Zf,nf,WSs.last (Zo (pv 1)) ⟨_,rfl,q lf _ (s2.thaw hs.trd) nlf ?_⟩⟩;rw [Ze lfd];exact A5
theorem Zhv.offB{G:Addr->Prop}(h:Zhv G H t d)(gb:G b)(hb:H b=some u)(nt:∀xs,u ≠ .tup xs):Zhv G (upd H b o) t d:=by
 obtain ⟨l,h1,h2,h3⟩:=h;have tb:t≠b:=fun z=>by rw [z,hb] at h1;cases h1;exact nt _ rfl
 have lb:l≠b:=fun z=>h3 (by rw [z];exact gb)
 exact ⟨l,by rw [Ze tb];exact h1,h2.offB lb hb nt,h3⟩
theorem LAt.mish{G:Addr->Prop}(h:LAt H G sl ad st)(ht:Zm H t p):∃ts:List Addr,H ad.m=some (.lst (ts.map V.ref))/\ts.length=st.2.2.length/\LAt (upd H ad.m (.lst (ts.map V.ref++[V.ref t]))) G sl ad (st.1,st.2.1,st.2.2++[p]):=by
 obtain ⟨ts,hm,hp⟩:=id h.mis;have nt:∀xs,HO.lst (ts.map V.ref) ≠ .tup xs:=fun _ z=>nomatch z
 have off:∀{b:Addr} {q:Zc},Zm H b q->Zm (upd H ad.m (.lst (ts.map V.ref++[V.ref t]))) b q:=fun {b q} z=>by
  unfold Zm at z ⊢;rw [Ze fun y=>by rw [y,hm] at z;cases z];exact z
 have xm:sl≠ad.m:=fun z=>h.nx (by rw [z];exact h.gm)
 have dm:ad.d0≠ad.m:=fun z=>by have:=h.trd;rw [z,hm] at this;cases this
 have em:ad.d1≠ad.m:=fun z=>by have:=h.lies;rw [z,hm] at this;cases this
 exact ⟨ts,hm,Paired.length hp,by rw [Ze xm];exact h.obj,by rw [Ze dm];exact h.trd,Paired.mapP h.recs fun _ _ r=>r.offB h.gm hm nt,by rw [Ze em];exact h.lies,⟨ts++[t],by rw [Zf,List.map_append];rfl,Paired.append (Paired.mapP hp fun _ _ r=>off r) (.cons (off ht) .nil)⟩,h.g0,h.g1,h.gm,h.ne,h.nx,Wx h.live⟩
theorem Zx6(hl:ts.length=l.length)(nd:(l.map Prod.fst).Nodup)(hd:l[i]? =some d)(e:d'.1=d.1):Wb (trK ts l) (Z1 d.1) (.ref a)=trK (ts.set i a) (l.set i d'):=by
 have M3:((trK ts l).any fun kv=>decide (kv.1=Z1 d.1))=true:=by
  have hm:Z1 d.1∈(trK ts l).map Prod.fst:=by rw [Zh0 hl];exact List.mem_map.mpr ⟨d,List.mem_of_getElem? hd,rfl⟩
  obtain ⟨kv,h1,h2⟩:=List.mem_map.mp hm;exact List.any_eq_true.mpr ⟨kv,h1,decide_eq_true h2⟩
 unfold Wb;rw [if_pos M3];clear M3;unfold trK
 induction ts generalizing l i with
 | nil=>rfl
 | cons t r ih=>cases l with
  | nil=>cases hl
  | cons c m =>
   rw [List.map_cons,List.nodup_cons] at nd;cases i with
   | zero =>
    cases hd;rw [List.set_cons_zero,List.set_cons_zero,List.zip_cons_cons,List.zip_cons_cons,List.map_cons,List.map_cons,List.map_cons,if_pos rfl,e];congr 1;rw [List.map_map];refine List.map_congr_left fun q hq=>?_
    have hq2:q.2∈m:=(List.of_mem_zip hq).2;show (if Z1 q.2.1=Z1 d.1 then _ else _)=_;rw [if_neg fun z=>nd.1 (List.mem_map.mpr ⟨q.2,hq2,Y1 _ _ z⟩)]
   | succ i =>
    have hm:d.1∈m.map Prod.fst:=List.mem_map.mpr ⟨d,List.mem_of_getElem? (show m[i]? =some d from hd),rfl⟩;rw [List.set_cons_succ,List.set_cons_succ,List.zip_cons_cons,List.zip_cons_cons,List.map_cons,List.map_cons,List.map_cons,if_neg fun z=>nd.1 (by have:=Y1 _ _ z;simp only at this;rw [this];exact hm)];congr 1;exact ih (Nat.succ.inj hl) nd.2 hd
theorem Zs8{α β:Type}{R:α->β->Prop}{as:List α}{ts:List β}{a:α}{d:β}(h:Paired R as ts)(hn:R a d):Paired R (as.set i a) (ts.set i d):=by
 induction h generalizing i with
 | nil=>exact .nil
 | cons r t ih=>cases i with
  | zero=>exact .cons hn t
  | succ i=>exact .cons r ih
theorem LAt.train{G:Addr->Prop}(h:LAt H G sl ad st)(nd:(st.1.map Prod.fst).Nodup)(hd:st.1[i]? =some d)(ht:H t=some (.tup [.int (d.2.1:Int),.ref l]))(hl:Zl H l sp)(nl:¬G l):LAt (upd H ad.d0 (.dK (Wb (trK ad.ts st.1) (Z1 d.1) (.ref t)))) G sl ⟨ad.d0,ad.d1,ad.m,ad.ts.set i t⟩ (st.1.set i (d.1,d.2.1,sp),st.2.1,st.2.2):=by
 obtain ⟨ms,hm,_⟩:=id h.mis;have nt:∀xs,HO.dK (trK ad.ts st.1) ≠ .tup xs:=fun _ z=>nomatch z
 have xd:sl≠ad.d0:=fun z=>h.nx (by rw [z];exact h.g0)
 have md:ad.m≠ad.d0:=fun z=>by rw [z] at hm;rw [h.trd] at hm;cases hm
 have new:Zhv G H t (d.1,d.2.1,sp):=⟨l,ht,hl,nl⟩
 exact ⟨by rw [Ze xd];exact h.obj,by rw [Zf,Zx6 (d':=(d.1,d.2.1,sp)) (Paired.length h.recs) nd hd rfl],Zs8 (Paired.mapP h.recs fun _ _ r=>r.offB h.g0 h.trd nt) (new.offB h.g0 h.trd nt),by rw [Ze h.ne.symm];exact h.lies,h.mis.offB md h.trd nt,h.g0,h.g1,h.gm,h.ne,h.nx,Wx h.live⟩
def Zay(ad:LAd)(b:Addr):Prop:=b=ad.d0\/b=ad.d1\/b=ad.m
def Zqw(H:Hp)(yd:Addr)(ps:List Zc)(js:List (Zc×Zc))(sg:List (Str×Str×Str)):Prop:=∃pl jl gl,H yd=some (.tup [.ref pl,.ref jl,.ref gl])/\Zl H pl ps/\Yq H jl js/\Za7 H gl sg
theorem Zqw.mono(e:Same H H')(h:Zqw H yd ps js sg):Zqw H' yd ps js sg:=by
 obtain ⟨pl,jl,gl,h1,h2,h3,h4⟩:=h;exact ⟨pl,jl,gl,e.at h1,h2.mono e,h3.mono e,h4.mono e⟩
theorem LAt.get{G:Addr->Prop}(h:LAt H G sl ad st)(e:Str):Wc H ad.d1 (.str e) ((liQ st.2.1 e).map V.str):=by
 rw [<-Zgc];exact Wc.k (k:=Z1 e) h.lies
structure Ycd(H:Hp)(G:Addr->Prop)(sl:Addr)(ad:LAd)(st:WSt)(ps:List Zc)(js:List (Zc×Zc))(sg:List (Str×Str×Str))(i:Nat)(d:TrD)(nm d6:Str)(R:Str->Hp->Hp->Prop)(b:Str->Bool)(Q:VK):Prop where
 fin:d6 = "" ->∀H',Same H H'->Q (.str "end") H'
 stop:d6 ≠ "" ->∀sig:Str,sig ≠ "" ->((sig,(nm,d6)):Str×Zc)∈qS sg->b sig=false->∀H1 H2,Same H H1->R sig H1 H2->Q (.str "stop") H2
 pass:d6 ≠ "" ->∀sig:Str,sig ≠ "" ->((sig,(nm,d6)):Str×Zc)∈qS sg->b sig=true->∀b9 e2 k2:Str,((nm,d6),(b9,e2))∈qJ js->((k2,b9):Zc)∈ps->∀H1 H2 H3 ts,Same H H1->R sig H1 H2->Off (Zay ad) H2 H3->LAt H3 G sl ⟨ad.d0,ad.d1,ad.m,ts⟩ (Y9 st i d k2 b9 e2).2->Q (.str (Y9 st i d k2 b9 e2).1) H3
 on:d6 ≠ "" ->((nm,d6):Zc)∉sg.map Prod.snd->∀b9 e2 k2:Str,((nm,d6),(b9,e2))∈qJ js->((k2,b9):Zc)∈ps->∀H3 ts,Off (Zay ad) H H3->LAt H3 G sl ⟨ad.d0,ad.d1,ad.m,ts⟩ (Y9 st i d k2 b9 e2).2->Q (.str (Y9 st i d k2 b9 e2).1) H3
def Zzr(P:Program)(w:World)(K:Frag)(mg:Str->Option Value)(base:Heap):Sp:=fun vs H Q _=>∃(H0:Hp) (G:Addr->Prop) (yd sl f:Addr) (ad:LAd) (st:WSt) (ps:List Zc) (js:List (Zc×Zc)) (sg:List (Str×Str×Str)) (i:Nat) (d:TrD) (k nm e:Str) (S4:List Zc) (R:Str->Hp->Hp->Prop) (b:Str->Bool),vs=[.ref yd,.ref sl,.str d.1,.ref f]/\LAt H G sl ad st/\Same H0 H/\Zqw H0 yd ps js sg/\Y4 ps js sg/\ps.length<=100/\(stood st.1).length<=400/\st.2.2.length<=400/\st.1.length<64/\(st.1.map Prod.fst).Nodup/\st.1[i]? =some d/\1<=d.2.1/\d.2.2.length<=100/\d.2.2=S4++[(nm,e)]/\((k,nm):Zc)∈ps/\(∀p∈ps,Yl st.2.1 p.2∈Zcs p.1)/\Zox P w K mg base 5 f H sg R b /\
 (∀s H1 H2,R s H1 H2->LAt H1 G sl ad st->Same H0 H1->LAt H2 G sl ad st/\Same H0 H2/\∀t xs,H1 t=some (.tup xs)->H2 t=some (.tup xs))/\Ycd H G sl ad st ps js sg i d nm (Xs k e (Yl st.2.1 nm)) R b Q
theorem Zo3:Z2 P w K mg base CX0 6 T.bB.f T.bB.fd ["_law_yard", "_law_state", "_law_name", "_law_passes"] (Zzr P w K mg base):=by
 refine T.bB.F.okW Xr fun a9 A outer s H vs Q E hr h=>?_
 ·obtain ⟨H0,G,yd,sl,f,ad,st,ps,js,sg,i,d,k,nm,e,S4,R,b,rfl,hs,sH0,hy0,yv,hp100,hz,hy,h64,nd,hd,h1,Q4,E1,hm,S5,hf,hR,q⟩:=h;intro X;obtain ⟨t,C3,l,S2,⟨us,B9,j0⟩,ngl⟩:=Paired.getL hs.recs hd;have ul:=Paired.length j0;refine WSs.step (Zkn (X1 (Y8 hr) (Zv (K:=K) rfl (pv 1) Zd) (pv 2) (fun _ _=>rfl)) (Wr rfl (Zw (Yw (i:=4) Xr.nd) (Zw (Yw (i:=5) Xr.nd) Xb)))) (exR rfl (.inl ⟨sl,_,0,_,rfl,rfl,SqL.of hs.obj,Yh (j:=0) rfl,_,rfl,ad.d0,_,rfl,by rw [<-Zc0 nd C3 hd];exact Wc.k (k:=Z1 d.1) hs.trd,t,_,rfl,SqT.of S2,rfl,_,_,rfl,_,_,rfl,rfl,?_⟩));obtain ⟨te,K7,p0⟩:∃te,atI (us.map V.ref) (-1)=some (.ref te)/\Zm H te (nm,e):=by
   rw [E1] at j0;obtain ⟨t0,te,rfl,r⟩:=Znn j0;exact ⟨te,by rw [List.map_append];exact Zpu _ _,r⟩
  refine WSs.step (Zkn (Zv (K:=K) rfl (pv 5) (Znc Zin Zd)) (Wr rfl (Zw (Yw (i:=6) Xr.nd) (Zw (Yw (i:=7) Xr.nd) Xb)))) (exR rfl (exR rfl (.inl ⟨l,_,_,.ref te,rfl,rfl,SqL.of B9,K7,te,_,rfl,SqT.of p0,rfl,_,_,rfl,_,_,rfl,rfl,?_⟩)));have hyd:=hy0.mono sH0;obtain ⟨pl,jl,gl,y1,y2,y3,y4⟩:=id hyd;refine WSs.step (Zy (i:=8) Xr.nd (Ye (Zdo T) hr T.cO (Zb (Ye (Zek T) hr T.cU (Zb (pv 0) (Zb (pv 6) Za))) (Zb (pv 7) (Zb (Zbn (Y8 hr) (Zv (K:=K) rfl (pv 1) Zd) (pv 6) Zg ⟨rfl,rfl,rfl,rfl⟩) Za))))) (exR rfl (exR rfl ⟨yd,pl,jl,gl,ps,k,nm,rfl,y1,y2,hp100,yv.net.nd,hm,fun H1 s1=>(exR rfl (exR rfl (.inl ⟨sl,_,1,_,rfl,rfl,SqL.of (s1.at hs.obj),Yh (j:=1) rfl,ad.d1,rfl,.inl ⟨_,.inl (s1.at hs.lies)⟩,_,rfl,_,(hs.mono s1).get nm,k,e,Yl st.2.1 nm,by rw [Zct];rfl,S5 _ hm,fun H2 s2=>?_⟩)))⟩));have u8:=s1.trans s2;generalize hled:Xs k e (Yl st.2.1 nm)=d6 at q ⊢;refine WSs.step (Zx (Zj (r:=Y7 K) (Xc hr) (pv 8) Zg (Zr _)) Zq Zp) (exR rfl (.inl ⟨rfl,_,rfl,Yn (fun z=>?_) (fun z=>?_)⟩))
  ·exact WSs.last (Zo Zg) (q.fin (V.str.inj (of_decide_eq_true z)) H2 u8)
  have m6:d6 ≠ "" :=fun y=>z (decide_eq_true (by rw [y]))
  have U1:((nm,d6):Zc)∈Y5 ps:=List.mem_flatMap.mpr ⟨(k,nm),hm,List.mem_map.mpr ⟨d6,hled ▸ Zik k e _ (hled ▸ m6),rfl⟩⟩;let I24:=fun (σ:St) (H':Hp)=>∃sig:Str,σ=[some (.ref yd),some (.ref sl),some (.str d.1),some (.ref f),some (.int (d.2.1:Int)),some (.ref l),some (.str nm),some (.str e),some (.str d6),some (.str sig),none,none]/\Same H H'/\((sig ≠ "" /\((sig,(nm,d6)):Str×Zc)∈qS sg)\/(sig = "" /\((nm,d6):Zc)∉sg.map Prod.snd))
  refine WSs.cut I24 ?_ ?_
  ·refine WS.of (Zy (i:=9) Xr.nd (Ye (Zkz T) hr T.eL (Zb (Zv (K:=K) rfl (pv 0) Zd) (Zb (Zk (Zb (pv 6) (Zb (pv 8) Za))) Za)))) (exR rfl (ixT (u8.at y1) 2 rfl (exR rfl (exR rfl ⟨szA,fun t3 H3 s3 n3 e3=>⟨gl,t3,sg,(nm,d6),rfl,y4.mono (u8.trans s3),e3,fun sig H4 s4 hq=>⟨sig,rfl,u8.trans (s3.trans s4),.inl ⟨fun z=>?_,hq⟩⟩,fun H4 s4 hq=>⟨"",rfl,u8.trans (s3.trans s4),.inr ⟨rfl,hq⟩⟩⟩⟩))));obtain ⟨g,hg,hge⟩:=List.mem_map.mp hq;have hn:=yv.sigs.name g hg;rw [show g.1 = "" by rw [<-z];exact congrArg Prod.fst hge] at hn;exact Zpb hn
  rintro σ H3 ⟨sig,rfl,s3,hsig⟩;have hs3:=hs.mono s3;have hyd3:=sH0.trans s3;let I25:=fun (σ:St) (H':Hp)=>σ=[some (.ref yd),some (.ref sl),some (.str d.1),some (.ref f),some (.int (d.2.1:Int)),some (.ref l),some (.str nm),some (.str e),some (.str d6),some (.str sig),none,none]/\LAt H' G sl ad st/\Same H0 H'/\(∀t xs,H t=some (.tup xs)->H' t=some (.tup xs))/\∀b9 e2 k2:Str,((nm,d6),(b9,e2))∈qJ js->((k2,b9):Zc)∈ps->∀H6 ts,Off (Zay ad) H' H6->LAt H6 G sl ⟨ad.d0,ad.d1,ad.m,ts⟩ (Y9 st i d k2 b9 e2).2->Q (.str (Y9 st i d k2 b9 e2).1) H6
  refine WSs.cut I25 ?_ ?_
  ·refine WS.of (Zx (PW.pt (Zdk (Zj (r:=Ze7 K) (Zhg hr) (pv 9) Zg (Zr _)) (Zbe (W1 (Xl (Zpf (k:=_) hr (pv 3) (Zb (pv 9) Za))))))) Zq Zp) (exR rfl (.inl ⟨rfl,_,rfl,Yn (fun z2=>?_) (fun z2=>?_)⟩))
   ·have z2:sig ≠ "" :=by simpa using z2
    have hq:(sig,(nm,d6))∈qS sg:=(hsig.resolve_right fun y=>z2 y.1).2;refine (exR rfl ⟨f,rfl,hf.1.mono s3,_,rfl,hf.1.mono s3,hf.2 sig H3 _ (Zsv hq) s3 fun H4 r4=>(exR rfl ?_)⟩);obtain ⟨hs4,hyd4,ht4⟩:=hR sig H3 H4 r4 hs3 hyd3;cases hb:b sig with
    | false=>exact Ze3 (WSs.last (Zo Zg) (q.stop m6 sig z2 hq hb H3 H4 s3 r4))
    | true=>exact W5 ⟨rfl,hs4,hyd4,fun t xs z=>ht4 t xs (s3.at z),fun b9 e2 k2 j1 j2 H6 ts o6 A7=>q.pass m6 sig z2 hq hb b9 e2 k2 j1 j2 H3 H4 H6 ts s3 r4 o6 A7⟩
   ·have z2:sig = "" :=by simpa using z2
    have M9:((nm,d6):Zc)∉sg.map Prod.snd:=(hsig.resolve_left fun y=>y.1 z2).2;exact ⟨rfl,hs3,hyd3,fun t xs z=>s3.at z,fun b9 e2 k2 j1 j2 H6 ts o6 A7=>q.on m6 M9 b9 e2 k2 j1 j2 H6 ts ((Ws s3).trans o6) A7⟩
  rintro σ H5 ⟨rfl,hs5,hyd5,ht5,q5⟩;clear q hyd3 hs3 hyd y1 y2 y3 y4;obtain ⟨pl,jl,gl,y1,y2,y3,y4⟩:=hy0.mono hyd5;have hrec5:Zl H5 l d.2.2/\¬G l:=by
   obtain ⟨t',V7,l',z1,z2,z3⟩:=Paired.getL hs5.recs hd;rw [C3] at V7;cases V7;rw [ht5 _ _ S2] at z1;cases z1;exact ⟨z2,z3⟩
  have hto5:=ht5 _ _ S2;have O6:((nm,d6):Zc)∈Xg js:=yv.net.flat.mem_iff.mpr U1;refine WSs.step (Zy (i:=10) Xr.nd (Ye (Zl9 T) hr T.eK (Zb (Zv (K:=K) rfl (pv 0) Zd) (Zb (Zk (Zb (pv 6) (Zb (pv 8) Za))) Za)))) (exR rfl (ixT y1 1 rfl (exR rfl (exR rfl ⟨szA,fun t6 H6 s6 n6 e6=>⟨jl,t6,js,(nm,d6),rfl,y3.mono s6,e6,O6,fun t2 e2' hq2 C7=>?_⟩⟩))));obtain ⟨b9,e2⟩:=e2';obtain ⟨k2,E2⟩:=yv.part hq2;have hs6:=hs5.mono s6;refine WSs.step (Zx (Zj (r:=Zjt K) (Zk5 hr) (Zv (K:=K) rfl (pv 10) Zd) (Ye (Zbf T) hr T.cm (Zb (pv 1) Za)) (by with_unfolding_all rfl)) Zq Zp) (exR rfl (ixT C7 0 rfl (exR rfl ⟨G,sl,ad,st,rfl,hs6,nd,hz,fun lf H7 s7 n7 e7=>.inl ⟨lf,_,rfl,.inl (SqL.of e7),rfl,Wg _,_,rfl,Yn (fun z7=>?_) (fun z7=>?_)⟩⟩)))
  ·have z7:b9∈stood st.1:=by rw [show (if false=true then !inV (V.str b9) ((stood st.1).map V.str) else inV (V.str b9) ((stood st.1).map V.str))=_ from Xp b9 (stood st.1)] at z7;exact of_decide_eq_true z7
   have hs7:=hs6.mono s7;have hmv:Y9 st i d k2 b9 e2=(("crash" :Str),(st.1,st.2.1,st.2.2++[(("crash",b9):Zc)])):=by
    unfold Y9 Xd;rw [if_pos z7,if_pos (by decide)]
   refine WSs.step (Yi (Zab PySem.F.plainAttrs_list PySem.F.slot_list_append PySem.F.type_list_append Yx (Zv (K:=K) rfl (pv 1) Zd) (Zb (Zk (Zb Zg (Zb (Zv (K:=K) rfl (pv 10) Zd) Za))) Za))) (exR rfl (.inl ⟨sl,_,2,_,rfl,rfl,SqL.of hs7.obj,Yh (j:=2) rfl,.inl ⟨rfl,_,SqL.of hs7.mis.choose_spec.1⟩,_,rfl,(ixT (s7.at C7) 0 rfl ⟨szA,fun t8 H8 s8 n8 e8=>?_⟩)⟩));obtain ⟨ts,d3,P1,N3⟩:=(hs7.mono s8).mish (show Zm H8 t8 ("crash",b9) from e8);refine ⟨ad.m,_,_,rfl,rfl,d3,by rw [List.length_map];exact Zs (by lia),?_⟩;have q6:=q5 b9 e2 k2 hq2 E2 _ ad.ts ((Ws (s6.trans (s7.trans s8))).trans (Off.upd (.inr (.inr rfl)))) (by rw [hmv];exact N3);rw [hmv] at q6;exact WSs.last (Zo Zg) q6
  have z7:b9∉stood st.1:=fun y=>z7 (by show inV (V.str b9) ((stood st.1).map V.str)=true;rw [Xp];exact decide_eq_true y)
  have hs7:=hs6.mono s7;have s67:=s6.trans s7;refine WSs.step (Zy (i:=11) Xr.nd (Ye (Zek T) hr T.cU (Zb (pv 0) (Zb (Zv (K:=K) rfl (pv 10) Zd) Za)))) (exR rfl (exR rfl (ixT (s7.at C7) 0 rfl ⟨yd,pl,jl,gl,ps,k2,b9,rfl,s67.at y1,y2.mono s67,hp100,yv.net.nd,E2,fun H8 s8=>?_⟩)));have ht8:Zm H8 t2 (b9,e2):=s8.at (s7.at C7);have hs8:=hs7.mono s8;let I26:=fun (σ:St) (H':Hp)=>σ=[some (.ref yd),some (.ref sl),some (.str d.1),some (.ref f),some (.int (d.2.1:Int)),some (.ref l),some (.str nm),some (.str e),some (.str d6),some (.str sig),some (.ref t2),some (.str k2)]/\Same H8 H'/\Xd st k2 b9 e2 = ""
  refine WSs.cut I26 ?_ ?_
  ·refine WS.of (Zx (PW.pt (Zdk (Zj (r:=Y7 K) (Xc hr) (Ye (Zdo T) hr T.cO (Zb (pv 11) (Zb (Zv (K:=K) rfl (pv 10) Zd) (Zb (Zbn (Y8 hr) (Zv (K:=K) rfl (pv 1) Zd) (Zv (K:=K) rfl (pv 10) Zd) Zg ⟨rfl,rfl,rfl,rfl⟩) Za)))) Zg (Zr _)) (Zbe (Zj (r:=Zbd K) (Zb4 hr) (pv 11) (Zk (Zb Zg (Zb Zg Za))) (by with_unfolding_all rfl))))) Zq Zp) (exR rfl (exR rfl (ixT ht8 1 rfl (exR rfl (.inl ⟨sl,_,1,_,rfl,rfl,SqL.of hs8.obj,Yh (j:=1) rfl,ad.d1,rfl,.inl ⟨_,.inl hs8.lies⟩,_,rfl,(ixT ht8 0 rfl ⟨_,hs8.get b9,k2,e2,Yl st.2.1 b9,by rw [Zct];rfl,S5 _ E2,fun H9 s9=>.inl ⟨rfl,_,rfl,Yn (fun z9=>?_) (fun z9=>?_)⟩⟩)⟩)))))
   ·have z9:Xs k2 e2 (Yl st.2.1 b9) = "" :=V.str.inj (of_decide_eq_true z9);refine (exR rfl ⟨szA,fun tt HA sA nA eA=>.inl ⟨tt,_,rfl,.inr (SqT.of eA),rfl,rfl,_,rfl,Yn (fun zA=>?_) (fun zA=>?_)⟩⟩)
    ·have zA:¬(k2 = "gate" \/k2 = "stop"):=by
      rw [show (if true=true then !inV (V.str k2) [V.str "stop",V.str "gate"] else inV (V.str k2) [V.str "stop",V.str "gate"])=_ from congrArg (!·) (Xp k2 ["stop", "gate"])] at zA;simp only [List.mem_cons,List.not_mem_nil,or_false,Bool.not_eq_true',decide_eq_false_iff_not] at zA;exact fun y=>zA y.symm
     have hmi:Xd st k2 b9 e2 = "off" :=by
      unfold Xd;rw [if_neg z7,if_pos ⟨z9,zA⟩]
     have hmv:Y9 st i d k2 b9 e2=(("off" :Str),(st.1,st.2.1,st.2.2++[(("off",b9):Zc)])):=by
      unfold Y9;rw [hmi,if_pos (by decide)]
     have s8A:=s9.trans sA;have hsA:=hs8.mono s8A;refine WSs.step (Yi (Zab PySem.F.plainAttrs_list PySem.F.slot_list_append PySem.F.type_list_append Yx (Zv (K:=K) rfl (pv 1) Zd) (Zb (Zk (Zb Zg (Zb (Zv (K:=K) rfl (pv 10) Zd) Za))) Za))) (exR rfl (.inl ⟨sl,_,2,_,rfl,rfl,SqL.of hsA.obj,Yh (j:=2) rfl,.inl ⟨rfl,_,SqL.of hsA.mis.choose_spec.1⟩,_,rfl,(ixT (s8A.at ht8) 0 rfl ⟨szA,fun tB HB sB nB eB=>?_⟩)⟩));obtain ⟨ts,d3,P1,hsC⟩:=(hsA.mono sB).mish (show Zm HB tB ("off",b9) from eB);refine ⟨ad.m,_,_,rfl,rfl,d3,by rw [List.length_map];exact Zs (by lia),?_⟩;have q6:=q5 b9 e2 k2 hq2 E2 _ ad.ts ((Ws (s67.trans (s8.trans (s8A.trans sB)))).trans (Off.upd (.inr (.inr rfl)))) (by rw [hmv];exact hsC);rw [hmv] at q6;exact WSs.last (Zo Zg) q6
    ·have zA:k2 = "gate" \/k2 = "stop" :=by
      rw [show (if true=true then !inV (V.str k2) [V.str "stop",V.str "gate"] else inV (V.str k2) [V.str "stop",V.str "gate"])=_ from congrArg (!·) (Xp k2 ["stop", "gate"])] at zA;simp only [List.mem_cons,List.not_mem_nil,or_false,Bool.not_eq_true',decide_eq_false_iff_not,Classical.not_not] at zA;exact zA.symm
     refine ⟨rfl,s9.trans sA,?_⟩;unfold Xd;rw [if_neg z7,if_neg fun y=>y.2 zA]
   ·have z9:Xs k2 e2 (Yl st.2.1 b9) ≠ "" :=fun y=>z9 (decide_eq_true (by rw [y]))
    refine ⟨rfl,s9,?_⟩;unfold Xd;rw [if_neg z7,if_neg fun y=>z9 y.1]
  rintro σ H9 ⟨rfl,s9,hmi⟩;have s59:=s67.trans (s8.trans s9);have N3:=hs5.mono s59;obtain ⟨us9,hl9,hus9⟩:=hrec5.1.mono s59;have ul9:=Paired.length hus9;have ht9:Zm H9 t2 (b9,e2):=s9.at ht8;refine WSs.step (Wi (Y8 hr) (Zv (K:=K) rfl (pv 1) Zd) (pv 2) (Zk (Zb (pv 4) (Zb (Zas (r:=Zmo K) Zot (Zu W3 (pv 5) (Zt (Zb (pv 10) Za))) (Zax (Znc Zin (pv 4))) Zb6) Za))) rfl) (exR rfl (exR rfl (exR rfl ⟨szA,fun l1 HA sA nA eA=>.inr (.inr ⟨l,l1,_,_,rfl,rfl,sA.at hl9,eA,by rw [List.length_map];exact sz (by simp;lia),fun l2 HB sB nB eB=>(exR rfl (exR rfl (exR rfl (.inr (.inl ⟨l2,_,rfl,SqL.of eB,fun l3 HC sC nC eC=>⟨szA,fun tt HD sD nD eD=>(exR rfl (.inl ⟨sl,_,0,_,rfl,rfl,SqL.of ((sA.trans (sB.trans (sC.trans sD))).at N3.obj),Yh (j:=0) rfl,_,rfl,ad.d0,_,rfl,Zdz.k (k:=Z1 d.1) ((sA.trans (sB.trans (sC.trans sD))).at N3.trd) ?_,?_⟩))⟩⟩)))))⟩)⟩)))
  ·unfold trK;rw [List.length_map,List.length_zip];exact Zs (by lia)
  have s9D:=sA.trans (sB.trans (sC.trans sD));have hsD:=N3.mono s9D;have i9:Paired (Zm HD) (us9++[t2]) (d.2.2++[(b9,e2)]):=Paired.append (Paired.mapP hus9 fun _ _ r=>r.mono s9D) (.cons (s9D.at ht9) .nil);have eC':HC l3=some (.lst (((us9++[t2]).drop ((d.2.2++[(b9,e2)]).length-d.2.1)).map V.ref)):=by
   rw [eC,show us9.map V.ref++[V.ref t2]=(us9++[t2]).map V.ref by rw [List.map_append];rfl,Zp8 _ _ h1,List.map_drop,List.length_map,Paired.length i9]
  have nl3:¬G l3:=fun z=>by
   obtain ⟨o,y⟩:=(N3.mono (sA.trans sB)).live l3 z;rw [nC] at y;cases y
  have hsE:=hsD.train nd hd eD (sp:=Znb d.2.1 (d.2.2++[(b9,e2)])) ⟨_,sD.at eC',Zf6 _ i9⟩ nl3;have hmv:Y9 st i d k2 b9 e2=(("went" :Str),(st.1.set i (d.1,d.2.1,Znb d.2.1 (d.2.2++[(b9,e2)])),st.2.1,st.2.2)):=by
   unfold Y9;rw [if_neg fun z=>z hmi]
  have q6:=q5 b9 e2 k2 hq2 E2 _ (ad.ts.set i tt) ((Ws (s59.trans s9D)).trans (Off.upd (.inl rfl))) (by rw [hmv];exact hsE);rw [hmv] at q6;exact WSs.last (Zo Zg) q6
theorem Zpk(hl:ts.length=l.length)(nd:(l.map Prod.fst).Nodup)(hd:l[i]? =some d):Zfd (trK ts l) (Z1 d.1)=trK (ts.eraseIdx i) (l.eraseIdx i):=by
 unfold Zfd trK
 induction ts generalizing l i with
 | nil=>rfl
 | cons t r ih=>cases l with
  | nil=>cases hl
  | cons c m =>
   rw [List.map_cons,List.nodup_cons] at nd;cases i with
   | zero =>
    cases hd;rw [List.zip_cons_cons,List.map_cons,List.filter_cons,if_neg (by simp),List.eraseIdx_cons_zero,List.eraseIdx_cons_zero];refine List.filter_eq_self.mpr fun q hq=>?_
    obtain ⟨p,hp,rfl⟩:=List.mem_map.mp hq;simpa using fun z:Z1 p.2.1=Z1 d.1=>nd.1 (List.mem_map.mpr ⟨p.2,(List.of_mem_zip hp).2,Y1 _ _ z⟩)
   | succ i =>
    have hm:d.1∈m.map Prod.fst:=List.mem_map.mpr ⟨d,List.mem_of_getElem? (show m[i]? =some d from hd),rfl⟩;rw [List.zip_cons_cons,List.map_cons,List.filter_cons,if_pos (by simpa using fun z:Z1 c.1=Z1 d.1=>nd.1 (by rw [Y1 _ _ z];exact hm)),List.eraseIdx_cons_succ,List.eraseIdx_cons_succ,List.zip_cons_cons,List.map_cons];congr 1;exact ih (Nat.succ.inj hl) nd.2 hd
theorem Zkq{α β:Type}{R:α->β->Prop}{as:List α}{ts:List β}(h:Paired R as ts):Paired R (as.eraseIdx i) (ts.eraseIdx i):=by
 induction h generalizing i with
 | nil=>exact .nil
 | cons r t ih=>cases i with
  | zero=>exact t
  | succ i=>exact .cons r ih
theorem WAt.leave{F:Addr->Prop}(h:WAt U H0 H F x tr ad st)(nd:(st.1.map Prod.fst).Nodup)(hd:st.1[i]? =some d):WAt U H0 (upd H ad.td (.dK (Zfd (trK ad.as st.1) (Z1 d.1)))) F x tr ⟨ad.dx,ad.ld,ad.td,ad.ml,ad.as.eraseIdx i⟩ (st.1.eraseIdx i,st.2.1,st.2.2):=by
 obtain ⟨ms,hm,_⟩:=id h.mis;have nt:∀xs,HO.dK (trK ad.as st.1) ≠ .tup xs:=fun _ z=>nomatch z
 have xt:x≠ad.td:=fun z=>h.nx (by rw [z];exact h.ft)
 exact ⟨by rw [Ze xt];exact h.obj,by rw [Ze h.ne];exact h.lies,by rw [Zf,Zpk (Paired.length h.trs) nd hd],Zkq (Paired.mapP h.trs fun a d r=>r.offB (r.ins h.trd fun _ _ _ z=>nomatch z) h.ft h.trd nt),h.mis.offB (fun z=>by rw [z] at hm;rw [h.trd] at hm;cases hm) h.trd nt,h.fl,h.ft,h.fm,h.ne,fun a z=>h.fa a (List.mem_of_mem_eraseIdx z),h.nd.eraseIdx _,h.nx,h.free,fun b o e=>by rw [Ze (Zh e (h.free _ h.ft))];exact h.same.at e,Wx h.live⟩
def Zyf:Sp:=fun vs H Q _=>∃(H0:Hp) (F:Addr->Prop) (x tr:Addr) (ad:WAd) (st:WSt) (i:Nat) (d:TrD),vs=[.ref x,.str d.1]/\WAt T H0 H F x tr ad st/\st.1.length<64/\(st.1.map Prod.fst).Nodup/\st.1[i]? =some d /\
 ∀H',Off (We ad) H H'->WAt T H0 H' F x tr ⟨ad.dx,ad.ld,ad.td,ad.ml,ad.as.eraseIdx i⟩ (st.1.eraseIdx i,st.2.1,st.2.2)->Q .non H'
theorem Zla:Z2 P w K mg base CX0 3 T.bq.f T.bq.fd ["self", "name"] (Zyf T):=by
 refine T.bq.F.okW Zld fun a9 A outer s H vs Q E hr h=>?_
 ·obtain ⟨H0,F,x,tr,ad,st,i,d,rfl,hw,hl,nd,hd,q⟩:=h;intro X;obtain ⟨a,ha,dx,l0,ho,_,_⟩:=Paired.getL hw.trs hd;refine WSs.last (Yi (Zp9 (Yd (pv 0) rfl) (Yd (Y0 (pv 0) T.ac T.aK (Xz T) hr.m T.ah.b .nil Z7 (Zb (pv 1) Za)) rfl) ⟨rfl,rfl,rfl,rfl⟩)) (exR rfl ⟨x,_,ad.dx,_,_,rfl,hw.obj,T.ac,T.aA,rfl,ad.td,rfl,.inl ⟨_,.inl hw.trd⟩,_,rfl,x,ad.dx,_,rfl,hw.obj,rfl,_,rfl,H0,F,x,tr,ad,st,i,a,d,rfl,hw,hl,nd,ha,hd,fun H1 s1=>⟨a,_,dx,_,_,rfl,s1.at ho,T.bA,T.dF,rfl,_,Z1 d.1,.ref a,s1.at hw.trd,rfl,Zc0 nd ha hd,?_⟩⟩);exact q _ ((Ws s1).trans (Off.upd (.inr (.inl rfl)))) ((hw.mono s1).leave nd hd)
def Zyj:Sp:=fun vs H Q _=>∃(H0:Hp) (F:Addr->Prop) (x tr:Addr) (ad:WAd) (st:WSt),vs=[.ref x]/\WAt T H0 H F x tr ad st/\∀D H',Same H H'->H D=none->H' D=some (.dK (Xw st.2.1))->Q (.ref D) H'
theorem Zde:Z2 P w K mg base CX0 1 T.aO.f T.aO.fd ["self"] (Zyj T):=by
 refine T.aO.F.okW Zmw fun a9 A outer s H vs Q E hr h=>?_
 ·obtain ⟨H0,F,x,tr,ad,st,rfl,hw,q⟩:=h;intro X;exact WSs.last (Zo (X5 (r:=Zy0) Zrc (by rfl) T.ee PyProof.Rows.boot_dict (Zb (Yd (pv 0) rfl) Za))) (exR rfl ⟨x,_,ad.dx,_,_,rfl,hw.obj,T.ac,T.bt,rfl,ad.ld,_,rfl,.inl hw.lies,fun D H1 s1 n1 e1=>q D H1 s1 n1 e1⟩)
def Zu3(K:Frag):Sp:=fun vs H Q _=>∃(H0:Hp) (G:Addr->Prop) (yd sl:Addr) (ad:LAd) (st:WSt) (ps:List Zc) (js:List (Zc×Zc)) (sg:List (Str×Str×Str)) (i:Nat) (d:TrD) (kd:Str->Str),vs=[.ref yd,.ref sl,.str d.1]/\LAt H G sl ad st/\Same H0 H/\Zqw H0 yd ps js sg/\Y4 ps js sg/\st.1.length<64/\(st.1.map Prod.fst).Nodup/\st.1[i]? =some d/\d.2.2.length<=100/\(∀p∈d.2.2,((kd p.1,p.1):Zc)∈ps)/\(∀p∈ps,Yl st.2.1 p.2∈Zcs p.1) /\
 ∀H' ts,Off (Zay ad) H H'->LAt H' G sl ⟨ad.d0,ad.d1,ad.m,ts⟩ (Zfm st i d kd)->Q .non H'
theorem Zl5:Z2 P w K mg base CX0 2 T.bW.f T.bW.fd ["_law_yard", "_law_state", "_law_name"] (Zu3 K):=by
 refine T.bW.F.okW X9 fun a9 A outer s H vs Q E hr h=>?_
 ·obtain ⟨H0,G,yd,sl,ad,st,ps,js,sg,i,d,kd,rfl,hs,sH0,hy0,yv,h64,nd,hd,Q4,hk,S5,q⟩:=h;intro X;obtain ⟨t,C3,l,S2,⟨us,B9,j0⟩,ngl⟩:=Paired.getL hs.recs hd;have ul:=Paired.length j0;have V5:=yv.len;refine WSs.step (Zkn (X1 (Y8 hr) (Zv (K:=K) rfl (pv 1) Zd) (pv 2) (fun _ _=>rfl)) (Wr rfl (Zw (Yw (i:=3) X9.nd) (Zw (Yw (i:=4) X9.nd) Xb)))) (exR rfl (.inl ⟨sl,_,0,_,rfl,rfl,SqL.of hs.obj,Yh (j:=0) rfl,_,rfl,ad.d0,_,rfl,by rw [<-Zc0 nd C3 hd];exact Wc.k (k:=Z1 d.1) hs.trd,t,_,rfl,SqT.of S2,rfl,_,_,rfl,_,_,rfl,rfl,?_⟩));refine WSs.step (Zy (i:=5) X9.nd (Zt Za)) ⟨szA,fun lf H1 s1 n1 e1=>?_⟩;obtain ⟨pl,jl,gl,y1,y2,y3,y4⟩:=id hy0;have nGf:¬G lf:=fun z=>by
   obtain ⟨o,e⟩:=hs.live lf z;rw [n1] at e;cases e
  let I27:=fun (σ:St) (H':Hp)=>(∃o6 o7,σ=[some (.ref yd),some (.ref sl),some (.str d.1),some (.int (d.2.1:Int)),some (.ref l),some (.ref lf),o6,o7])/\Same H H'/\Zl H' lf (d.2.2.reverse.map (Zu4 st kd))
  refine WSs.cut I27 ?_ ?_
  ·refine WS.of (Xn PassesOwn.never rfl (Ym (Zuu (ops:=fun l r=>[l,r]) (pv 4) (Zax (Znc Zin Zd)) (fun _ _=>by with_unfolding_all rfl))) (Wr rfl (Zw (Yw (i:=6) X9.nd) (Zw (Yw (i:=7) X9.nd) Xb))) Zq) (exR rfl (exR rfl (exR rfl ⟨l,_,rfl,rfl,SqL.of (s1.at B9),fun lr H2 s2 n2 e2=>⟨lr,rfl,⟨_,SqL.of e2⟩,X0 (K:=K) (xs:=(us.map V.ref).reverse) (fun r σ H'=>(∃o6 o7,σ=[some (.ref yd),some (.ref sl),some (.str d.1),some (.int (d.2.1:Int)),some (.ref l),some (.ref lf),o6,o7])/\Same H H'/\H' lr=some (.lst (us.map V.ref).reverse)/\lr≠lf/\∃vs:List Addr,H' lf=some (.lst (vs.map V.ref))/\Paired (Zm H') vs ((d.2.2.reverse.take r).map (Zu4 st kd))) ⟨⟨_,_,rfl⟩,s1.trans s2,e2,(fun z=>by rw [z,e1] at n2;cases n2),[],s2.at e1,.nil⟩ ?_ ?_ ?_⟩⟩)))
   ·rintro r σ H' _ ⟨_,_,z,_⟩;exact SqL.of z
   ·rintro r v σ H3 hv ⟨⟨o6,o7,rfl⟩,s3,hlr,ne,vs,A5,L0⟩;rw [<-List.map_reverse,List.getElem?_map] at hv;obtain ⟨u,hu,rfl⟩:=Option.map_eq_some_iff.mp hv;obtain ⟨⟨pn,pe⟩,hq,p0⟩:=Paired.get (Zl1 j0) hu;have hvl:=Paired.length L0;rw [List.length_map,List.length_take,List.length_reverse] at hvl;have F9:((kd pn,pn):Zc)∈ps:=hk (pn,pe) (List.mem_reverse.mp (List.mem_of_getElem? hq));have g3:=sH0.trans s3;refine ⟨u,_,rfl,SqT.of (s3.at p0),rfl,_,_,rfl,_,_,rfl,rfl,?_⟩;refine WSs.last (Yi (Zab PySem.F.plainAttrs_list PySem.F.slot_list_append PySem.F.type_list_append Yx (pv 5) (Zb (Zk (Zb (pv 6) (Zb (Ye (Zdo T) hr T.cO (Zb (Ye (Zek T) hr T.cU (Zb (pv 0) (Zb (pv 6) Za))) (Zb (pv 7) (Zb (Zbn (Y8 hr) (Zv (K:=K) rfl (pv 1) Zd) (pv 6) Zg ⟨rfl,rfl,rfl,rfl⟩) Za)))) Za))) Za))) (exR rfl ⟨.inl ⟨rfl,_,SqL.of A5⟩,_,rfl,_,rfl,_,rfl,yd,pl,jl,gl,ps,kd pn,pn,rfl,g3.at y1,y2.mono g3,by lia,yv.net.nd,F9,fun H4 s4=>(exR rfl (exR rfl (.inl ⟨sl,_,1,_,rfl,rfl,SqL.of ((s3.trans s4).at hs.obj),Yh (j:=1) rfl,ad.d1,rfl,.inl ⟨_,.inl ((s3.trans s4).at hs.lies)⟩,_,rfl,_,(hs.mono (s3.trans s4)).get pn,kd pn,pe,Yl st.2.1 pn,by rw [Zct];rfl,S5 _ F9,fun H5 s5=>⟨szA,fun t6 H6 s6 n6 e6=>⟨lf,_,_,rfl,rfl,(s4.trans (s5.trans s6)).at A5,by rw [List.length_map];exact Zs (by lia),⟨_,_,rfl⟩,fun b o z=>?_,?_,ne,vs++[t6],?_,?_⟩⟩⟩)))⟩)
    ·rw [Ze (Zh z n1)];exact (s3.trans (s4.trans (s5.trans s6))).at z
    ·rw [Ze ne];exact (s4.trans (s5.trans s6)).at hlr
    ·rw [Zf,List.map_append];rfl
    ·have hlf6:=(s4.trans (s5.trans s6)).at A5;have off:∀{b:Addr} {p:Zc},Zm H6 b p->Zm (upd H6 lf (.lst (vs.map V.ref++[V.ref t6]))) b p:=fun {b p} z=>by
      unfold Zm at z ⊢;rw [Ze fun y=>by rw [y,hlf6] at z;cases z];exact z
     rw [List.take_add_one,hq,List.map_append];exact Paired.append (Paired.mapP L0 fun _ _ r=>off (r.mono (s4.trans (s5.trans s6)))) (.cons (off e6) .nil)
   ·rintro σ H3 ⟨h1,s3,_,_,vs,A5,L0⟩;rw [List.length_reverse,List.length_map,ul,<-List.length_reverse,List.take_length] at L0;exact ⟨h1,s3,vs,A5,L0⟩
  rintro σ H2 ⟨⟨o6,o7,rfl⟩,s2,hpf⟩;refine WSs.last (Wi (Y8 hr) (Zv (K:=K) rfl (pv 1) Zd) (pv 2) (Zk (Zb (pv 3) (Zb (pv 5) Za))) rfl) (exR rfl (exR rfl ⟨szA,fun tt H3 s3 n3 e3=>(exR rfl (.inl ⟨sl,_,0,_,rfl,rfl,SqL.of ((s2.trans s3).at hs.obj),Yh (j:=0) rfl,_,rfl,ad.d0,_,rfl,Zdz.k (k:=Z1 d.1) ((s2.trans s3).at hs.trd) ?_,?_⟩))⟩))
  ·unfold trK;rw [List.length_map,List.length_zip];exact Zs (by lia)
  exact q _ (ad.ts.set i tt) ((Ws (s2.trans s3)).trans (Off.upd (.inl rfl))) ((hs.mono (s2.trans s3)).train nd hd e3 (hpf.mono s3) nGf)
theorem Paired.memL{α β:Type}{R:α->β->Prop}{l:List α}{m:List β}{a:α}(h:Paired R l m)(e:a∈l):∃b,R a b:=by
 obtain ⟨i,hi⟩:=List.mem_iff_getElem?.mp e;obtain ⟨b,_,r⟩:=Paired.get h hi;exact ⟨b,r⟩
theorem WAt.nt{F:Addr->Prop}(h:WAt U H0 H F x tr ad st)(e:H b=some (.tup xs)):¬We ad b:=by
 rintro (z|z|z|z)
 ·rw [z,h.lies] at e;cases e
 ·rw [z,h.trd] at e;cases e
 ·obtain ⟨ts,hm,_⟩:=h.mis;rw [z,hm] at e;cases e
 ·obtain ⟨d,dx,l,h1,_⟩:=Paired.memL h.trs z;rw [h1] at e;cases e
theorem WAt.inF{F:Addr->Prop}(h:WAt U H0 H F x tr ad st)(e:We ad b):F b:=by
 rcases e with z|z|z|z
 ·rw [z];exact h.fl
 ·rw [z];exact h.ft
 ·rw [z];exact h.fm
 ·exact h.fa b z
theorem LAt.nt{G:Addr->Prop}(h:LAt H G sl ad st)(e:Zay ad b):(∃xs,H b=some (.lst xs))\/∃kvs,H b=some (.dK kvs):=by
 rcases e with z|z|z
 ·exact .inr ⟨_,by rw [z];exact h.trd⟩
 ·exact .inr ⟨_,by rw [z];exact h.lies⟩
 ·obtain ⟨ts,hm,_⟩:=h.mis;exact .inl ⟨_,by rw [z];exact hm⟩
theorem LAt.inG{G:Addr->Prop}(h:LAt H G sl ad st)(e:Zay ad b):G b:=by
 rcases e with z|z|z
 ·rw [z];exact h.g0
 ·rw [z];exact h.g1
 ·rw [z];exact h.gm
theorem Zl.offW{W:Addr->Prop}(o:Off W H H')(h:Zl H l ps)(nl:¬W l)(nt:∀t xs,H t=some (.tup xs)->¬W t):Zl H' l ps:=h.offF o nl nt
theorem WAt.off{F W:Addr->Prop}(h:WAt U H0 H F x tr ad st)(o:Off W H H')(sub:∀b,W b->F b)(ap:∀b,W b->¬We ad b)(nt:∀b,W b->(∃xs,H b=some (.lst xs))\/∃kvs,H b=some (.dK kvs))(lv:∀b,W b->∃o,H' b=some o):WAt U H0 H' F x tr ad st:=by
 have tup:∀t xs,H t=some (.tup xs)->¬W t:=fun t xs e w=>by
  rcases nt t w with ⟨_,z⟩|⟨_,z⟩ <;>(rw [e] at z;cases z)
 refine ⟨o _ _ (fun w=>h.nx (sub x w)) h.obj,o _ _ (fun w=>ap _ w (.inl rfl)) h.lies,o _ _ (fun w=>ap _ w (.inr (.inl rfl))) h.trd,Paired.mapP h.trs fun a d r=>?_,h.mis.offW o (fun w=>ap _ w (.inr (.inr (.inl rfl)))) tup,h.fl,h.ft,h.fm,h.ne,h.fa,h.nd,h.nx,h.free,fun b u e=>o _ _ (fun w=>?_) (h.same.at e),fun b f=>?_⟩
 ·obtain ⟨dx,l,h1,h2,h3⟩:=r;refine ⟨dx,l,o _ _ (fun w=>?_) h1,h2.offW o (fun w=>h3 (sub l w)) tup,h3⟩;rcases nt a w with ⟨_,z⟩|⟨_,z⟩ <;>(rw [h1] at z;cases z)
 ·have:=h.free b (sub b w);rw [e] at this;cases this
 ·by_cases w:W b
  ·exact lv b w
  ·obtain ⟨u,e⟩:=h.live b f;exact ⟨u,o _ _ w e⟩
theorem LAt.off{G W:Addr->Prop}(h:LAt H G sl ad st)(o:Off W H H')(sub:∀b,W b->G b)(ap:∀b,W b->¬Zay ad b)(tup:∀t xs,H t=some (.tup xs)->¬W t)(lv:∀b,W b->∃o,H' b=some o):LAt H' G sl ad st:=by
 refine ⟨o _ _ (fun w=>h.nx (sub _ w)) h.obj,o _ _ (fun w=>ap _ w (.inl rfl)) h.trd,Paired.mapP h.recs fun t d r=>?_,o _ _ (fun w=>ap _ w (.inr (.inl rfl))) h.lies,h.mis.offW o (fun w=>ap _ w (.inr (.inr rfl))) tup,h.g0,h.g1,h.gm,h.ne,h.nx,fun b f=>?_⟩
 ·obtain ⟨l,h1,h2,h3⟩:=r;exact ⟨l,o _ _ (tup _ _ h1) h1,h2.offW o (fun w=>h3 (sub l w)) tup,h3⟩
 ·by_cases w:W b
  ·exact lv b w
  ·obtain ⟨u,e⟩:=h.live b f;exact ⟨u,o _ _ w e⟩
theorem WAt.grow{F F':Addr->Prop}(h:WAt U H0 H F x tr ad st)(s:Same H H')(m:∀b,F b->F' b)(n:∀b,F' b->F b\/(H b=none/\∃o,H' b=some o)):WAt U H0 H' F' x tr ad st:=by
 have h':=h.mono s;refine ⟨h'.obj,h'.lies,h'.trd,Paired.mapP h.trs fun _ _ r=>(r.more fun b z=>(n b z).imp id And.left).mono s,h'.mis,m _ h.fl,m _ h.ft,m _ h.fm,h.ne,fun a z=>m _ (h.fa a z),h.nd,fun z=>?_,fun b z=>?_,h'.same,fun b z=>?_⟩
 ·rcases n x z with y|y
  ·exact h.nx y
  ·rw [h.obj] at y;cases y.1
 ·rcases n b z with y|y
  ·exact h.free b y
  ·exact h.same.free y.1
 ·rcases n b z with y|y
  ·exact h'.live b y
  ·exact y.2
theorem LAt.grow{G G':Addr->Prop}(h:LAt H G sl ad st)(s:Same H H')(m:∀b,G b->G' b)(n:∀b,G' b->G b\/(H b=none/\∃o,H' b=some o)):LAt H' G' sl ad st:=by
 have h':=h.mono s;refine ⟨h'.obj,h'.trd,Paired.mapP h.recs fun t d r=>?_,h'.lies,h'.mis,m _ h.g0,m _ h.g1,m _ h.gm,h.ne,fun z=>?_,fun b z=>?_⟩
 ·obtain ⟨l,h1,⟨us,h2,h2'⟩,h3⟩:=r;refine ⟨l,s.at h1,⟨us,s.at h2,Paired.mapP h2' fun _ _ r=>r.mono s⟩,fun z=>?_⟩;rcases n l z with y|y
  ·exact h3 y
  ·rw [h2] at y;cases y.1
 ·rcases n sl z with y|y
  ·exact h.nx y
  ·rw [h.obj] at y;cases y.1
 ·rcases n b z with y|y
  ·exact h'.live b y
  ·exact y.2
inductive Zex(bb:Str->Bool)(ts:List TrD)(ll:List (Str×Str))(ms:List Zc)(ps:List Zc)(js:List (Zc×Zc))(sg:List (Str×Str×Str))(i:Nat)(d:TrD)(nm d6:Str):Str->List Str->List TrD->List Zc->Prop
 | fin:d6 = "" ->Zex bb ts ll ms ps js sg i d nm d6 "end" [] ts ms
 | stop (sig:Str):d6 ≠ "" ->((sig,(nm,d6)):Str×Zc)∈qS sg->bb sig=false->Zex bb ts ll ms ps js sg i d nm d6 "stop" [sig] ts ms
 | pass (sig b9 e2 k2:Str):d6 ≠ "" ->((sig,(nm,d6)):Str×Zc)∈qS sg->bb sig=true->((nm,d6),(b9,e2))∈qJ js->((k2,b9):Zc)∈ps->Zex bb ts ll ms ps js sg i d nm d6 (Y9 (ts,ll,ms) i d k2 b9 e2).1 [sig] (Y9 (ts,ll,ms) i d k2 b9 e2).2.1 (Y9 (ts,ll,ms) i d k2 b9 e2).2.2.2
 | on (b9 e2 k2:Str):d6 ≠ "" ->((nm,d6):Zc)∉sg.map Prod.snd->((nm,d6),(b9,e2))∈qJ js->((k2,b9):Zc)∈ps->Zex bb ts ll ms ps js sg i d nm d6 (Y9 (ts,ll,ms) i d k2 b9 e2).1 [] (Y9 (ts,ll,ms) i d k2 b9 e2).2.1 (Y9 (ts,ll,ms) i d k2 b9 e2).2.2.2
theorem Zf4(ts:List TrD)(ll:List (Str×Str))(ms:List Zc)(i:Nat)(d:TrD)(k nm e:Str):(Y9 (ts,ll,ms) i d k nm e).2=((Y9 (ts,ll,ms) i d k nm e).2.1,ll,(Y9 (ts,ll,ms) i d k nm e).2.2.2):=by
 unfold Y9;split <;>rfl
theorem Zna(ts:List TrD)(ms:List Zc)(i:Nat)(d:TrD)(k nm e:Str)(h:∀n,Yl ll n=Yl lw n):(Y9 (ts,ll,ms) i d k nm e).1=(Y9 (ts,lw,ms) i d k nm e).1/\(Y9 (ts,ll,ms) i d k nm e).2.1=(Y9 (ts,lw,ms) i d k nm e).2.1/\(Y9 (ts,ll,ms) i d k nm e).2.2.2=(Y9 (ts,lw,ms) i d k nm e).2.2.2:=by
 have:Xd (ts,ll,ms) k nm e=Xd (ts,lw,ms) k nm e:=by unfold Xd;simp only [h]
 unfold Y9;rw [this];split <;>exact ⟨rfl,rfl,rfl⟩
theorem Zvt{α β:Type}{l:List (α×β)}{a:α}{b c:β}(nd:(l.map Prod.fst).Nodup)(h1:(a,b)∈l)(h2:(a,c)∈l):b=c:=by
 induction l with
 | nil=>cases h1
 | cons p l ih =>
  rw [List.map_cons,List.nodup_cons] at nd;rcases List.mem_cons.mp h1 with z1|z1 <;>rcases List.mem_cons.mp h2 with z2|z2
  ·exact (Prod.mk.inj (z1.trans z2.symm)).2
  ·exact absurd (List.mem_map.mpr ⟨_,z2,by rw [<-z1]⟩) nd.1
  ·exact absurd (List.mem_map.mpr ⟨_,z1,by rw [<-z2]⟩) nd.1
  ·exact ih nd.2 z1 z2
theorem Y4.jfun(yv:Y4 ps js sg)(h1:(a,b)∈qJ js)(h2:(a,c)∈qJ js):b=c :=
 Zvt (by rw [Zan];exact yv.net.flat.nodup_iff.mpr (Za9 yv.net.nd)) h1 h2
theorem Y4.sfun(yv:Y4 ps js sg)(h1:(s,e)∈qS sg)(h2:(t,e)∈qS sg):s=t:=by
 refine Zvt (l:=qO sg) (by rw [Zoz];exact yv.sigs.one) (a:=e) ?_ ?_
 ·obtain ⟨g,hg,z⟩:=List.mem_map.mp h1;exact List.mem_map.mpr ⟨g,hg,by rw [<-(Prod.mk.inj z).1,<-(Prod.mk.inj z).2]⟩
 ·obtain ⟨g,hg,z⟩:=List.mem_map.mp h2;exact List.mem_map.mpr ⟨g,hg,by rw [<-(Prod.mk.inj z).1,<-(Prod.mk.inj z).2]⟩
theorem Y4.kfun(yv:Y4 ps js sg)(h1:((k,n):Zc)∈ps)(h2:((l,n):Zc)∈ps):k=l:=by
 have:=Zo9 yv.net.nd h1 h2 rfl;exact (Prod.mk.inj this).1
theorem Zow(h:(s,e)∈qS sg):e∈sg.map Prod.snd:=by
 obtain ⟨g,hg,z⟩:=List.mem_map.mp h;exact List.mem_map.mpr ⟨g,hg,(Prod.mk.inj z).2⟩
theorem Zex.uniq{bb:Str->Bool}(yv:Y4 ps js sg)(hl:∀n,Yl ll n=Yl lw n)
  (h1:Zex bb ts ll ms ps js sg i d nm d6 wd du ts1 ms1) (h2:Zex bb ts lw ms ps js sg i d nm d6 wd' du' A9 ms2):wd=wd'/\du=du'/\ts1=A9/\ms1=ms2:=by
 cases h1 with
 | fin z=>cases h2 with
  | fin _=>exact ⟨rfl,rfl,rfl,rfl⟩
  | stop _ n=>exact absurd z n
  | pass _ _ _ _ n=>exact absurd z n
  | on _ _ _ n=>exact absurd z n
 | stop s n m b=>cases h2 with
  | fin z=>exact absurd z n
  | stop s' _ m' _=>rw [yv.sfun m m'];exact ⟨rfl,rfl,rfl,rfl⟩
  | pass s' _ _ _ _ m' b'=>rw [yv.sfun m m',b'] at b;cases b
  | on _ _ _ _ o=>exact absurd (Zow m) o
 | pass s n2 e2 k2 n m b j p=>cases h2 with
  | fin z=>exact absurd z n
  | stop s' _ m' b'=>rw [yv.sfun m m',b'] at b;cases b
  | pass s' n3 e3 k3 _ m' b' j' p' =>
   have ej:=yv.jfun j j';cases ej;have ek:=yv.kfun p p';cases ek;obtain ⟨x1,x2,x3⟩:=Zna ts ms i d k2 n2 e2 hl;exact ⟨x1,by rw [yv.sfun m m'],x2,x3⟩
  | on _ _ _ _ o=>exact absurd (Zow m) o
 | on n2 e2 k2 n o j p=>cases h2 with
  | fin z=>exact absurd z n
  | stop s' _ m'=>exact absurd (Zow m') o
  | pass s' _ _ _ _ m'=>exact absurd (Zow m') o
  | on n3 e3 k3 _ _ j' p' =>
   have ej:=yv.jfun j j';cases ej;have ek:=yv.kfun p p';cases ek;obtain ⟨x1,x2,x3⟩:=Zna ts ms i d k2 n2 e2 hl;exact ⟨x1,rfl,x2,x3⟩
theorem Zle(h:Zl H l ps):Im K H 2 (.lst (ps.map trP)) (.ref l):=by
 obtain ⟨ts,h1,h2⟩:=h;refine Im.lst (n:=1) (SqL.of h1) ?_;clear h1
 induction h2 with
 | nil=>exact .nil
 | cons r _ ih=>exact .cons (imP r) ih
theorem Zc5{H:Hp}{l:Addr}{ss:List Str}(h:H l=some (.lst (ss.map V.str))):Im K H 1 (.lst (ss.map Tr.str)) (.ref l):=Im.lst (n:=0) (SqL.of h) (Paired.strs _)
def Y6(k:Str)(ps:List Zc):List Str:=(ps.filter fun p=>decide (p.1=k)).map Prod.snd
theorem X3  :n∈Y6 k ps↔((k,n):Zc)∈ps:=by
 unfold Y6
 constructor
 ·intro h;obtain ⟨p,hp,rfl⟩:=List.mem_map.mp h;obtain ⟨h1,h2⟩:=List.mem_filter.mp hp;rw [<-of_decide_eq_true h2];exact h1
 ·intro h;exact List.mem_map.mpr ⟨_,List.mem_filter.mpr ⟨h,decide_eq_true rfl⟩,rfl⟩
theorem Znq(nd:(ps.map Prod.snd).Nodup):(Y6 k ps).Nodup:=nd.sublist (List.filter_sublist.map _)
theorem Zg1(k:Str)(ps:List Zc):(Y6 k ps).length<=ps.length:=by
 unfold Y6;rw [List.length_map];exact List.length_filter_le _ _
theorem Zi4{k:Str}{ps:List Zc}{i:Nat}{p:Zc}(h:ps[i]? =some p):Y6 k (ps.take (i+1))=Y6 k (ps.take i)++if p.1=k then [p.2] else []:=by
 unfold Y6;rw [List.take_add_one,h,List.filter_append,List.map_append,show (some p).toList=[p] from rfl,List.filter_cons]
 by_cases z:p.1=k
 ·rw [if_pos (decide_eq_true z),if_pos z];rfl
 ·rw [if_neg (by simpa using z),if_neg z];rfl
def enB:List Str:=["", "a", "b", "c", "d", "stem", "left", "right"]
def W4:List Str:=["ta", "b", "t2", "zug"]
theorem Zqn(h:e∈Yt k):e∈enB:=by
 unfold Yt at h;unfold enB;split at h
 ·simp at h ⊢;rcases h with rfl|rfl|rfl <;>simp
 ·split at h
  ·simp at h ⊢;rcases h with rfl|rfl|rfl|rfl <;>simp
  ·split at h
   ·simp at h ⊢;rcases h with rfl|rfl <;>simp
   ·simp at h ⊢;rw [h];simp
theorem Zto(k e lie:Str):Xs k e lie∈enB:=by
 by_cases h:Xs k e lie = ""
 ·rw [h];unfold enB;simp
 ·exact Zqn (Zik k e lie h)
structure Zac(ps:List Zc)(ts:List TrD):Prop where
 nd:(ts.map Prod.fst).Nodup
 len:ts.length<=4
 ok:∀d∈ts,d.1∈W4/\1<=d.2.1/\d.2.1<=4/\d.2.2≠[]/\d.2.2.length<=4/\∀p∈d.2.2,(∃k,((k,p.1):Zc)∈ps)/\p.2∈enB
theorem Zm3:∀(ts:List TrD),(∀d∈ts,d.2.2.length<=4)->(stood ts).length<=4 * ts.length
 | [],_=>Nat.le_refl _
 | d ::ts,h=>by
  have h1:=h d List.mem_cons_self;have h2:=Zm3 ts fun c hc=>h c (List.mem_cons_of_mem _ hc)
  show (d.2.2.map Prod.fst++stood ts).length<=4 * (ts.length+1);rw [List.length_append,List.length_map];lia
theorem Zac.stood(h:Zac ps ts):(stood ts).length<=400:=by
 have:=Zm3 ts fun d hd=>(h.ok d hd).2.2.2.2.1
 have:=h.len;lia
theorem Zac.stoodIn(h:Zac ps ts)(hn:n∈K54.stood ts):n∈ps.map Prod.snd:=by
 obtain ⟨d,hd,hm⟩:=List.mem_flatMap.mp hn;obtain ⟨p,hp,rfl⟩:=List.mem_map.mp hm;obtain ⟨⟨k,hk⟩,_⟩:=(h.ok d hd).2.2.2.2.2 p hp;exact List.mem_map.mpr ⟨_,hk,rfl⟩
theorem Zac.set(h:Zac ps ts)(hd:ts[i]? =some d)(h1:sp≠[])(h2:sp.length<=4)(h3:∀p∈sp,(∃k,((k,p.1):Zc)∈ps)/\p.2∈enB):Zac ps (ts.set i (d.1,d.2.1,sp)):=by
 have e:(ts.set i (d.1,d.2.1,sp)).map Prod.fst=ts.map Prod.fst:=by
  rw [List.map_set];refine List.ext_getElem? fun j=>?_
  rw [List.getElem?_set];split
  ·rename_i z;subst z;rw [List.getElem?_map,hd];have:=(List.getElem?_eq_some_iff.mp hd).1;simp [this]
  ·rfl
 refine ⟨by rw [e];exact h.nd,by rw [List.length_set];exact h.len,fun c hc=>?_⟩;rcases List.mem_or_eq_of_mem_set hc with z|z
 ·exact h.ok c z
 ·obtain ⟨y0,y1,y2,_⟩:=h.ok d (List.mem_of_getElem? hd);rw [z];exact ⟨y0,y1,y2,h1,h2,h3⟩
theorem Zac.add(h:Zac ps ts)(hl:ts.length<=3)(hm:nm∈W4)(hn:nm∉ts.map Prod.fst)(h1:1<=n)(h4:n<=4) (hg:(("gate",g):Zc)∈ps):Zac ps (ts++[(nm,n,[((g, ""):Zc)])]):=by
 refine ⟨?_,by rw [List.length_append];show ts.length+1<=4;lia,fun d hd=>?_⟩
 ·rw [List.map_append,List.nodup_append];refine ⟨h.nd,by simp,fun b hb c hc z=>?_⟩;have hc:c=nm:=by simpa using hc
  rw [z,hc] at hb;exact hn hb
 ·rcases List.mem_append.mp hd with z|z
  ·exact h.ok d z
  ·rw [List.mem_singleton.mp z];exact ⟨hm,h1,h4,by simp,by simp,fun p hp=>by rw [List.mem_singleton.mp hp];exact ⟨⟨"gate",hg⟩,by unfold enB;simp⟩⟩
theorem Zac.erase(i:Nat)(h:Zac ps ts):Zac ps (ts.eraseIdx i) :=
 ⟨h.nd.sublist ((List.eraseIdx_sublist _ _).map _),Nat.le_trans (List.length_eraseIdx_le _ _) h.len,fun d hd=>h.ok d (List.mem_of_mem_eraseIdx hd)⟩
def Ml(ps ms ms1:List Zc):Prop:=ms1=ms\/∃w n:Str,(w = "crash" \/w = "off" \/w = "split")/\n∈ps.map Prod.snd/\ms1=ms++[((w,n):Zc)]
theorem Ml.len(h:Ml ps ms ms1):ms1.length<=ms.length+1:=by
 rcases h with rfl|⟨_,_,_,_,rfl⟩
 ·exact Nat.le_succ _
 ·simp
theorem Zth  (h:Xd st k nm e ≠ ""):Xd st k nm e = "crash" \/Xd st k nm e = "off" \/Xd st k nm e = "split" :=by
 unfold Xd at h ⊢;split
 ·exact .inl rfl
 ·rename_i z;rw [if_neg z] at h;split
  ·exact .inr (.inl rfl)
  ·rename_i y;rw [if_neg y] at h;exact absurd rfl h
theorem Zqj(h:Zac ps ts)(hd:ts[i]? =some d)(hk:((k,nm):Zc)∈ps)(he:e∈enB):Zac ps (Y9 (ts,ll,ms) i d k nm e).2.1/\Ml ps ms (Y9 (ts,ll,ms) i d k nm e).2.2.2:=by
 unfold Y9;split
 ·rename_i z;exact ⟨h,.inr ⟨_,_,Zth z,List.mem_map.mpr ⟨_,hk,rfl⟩,rfl⟩⟩
 ·obtain ⟨y0,y1,y2,y3,y4,y5⟩:=h.ok d (List.mem_of_getElem? hd);have hl:(Znb d.2.1 (d.2.2++[(nm,e)])).length=min d.2.1 (d.2.2.length+1):=by
   unfold Znb;rw [List.length_drop,List.length_append];simp;lia
  refine ⟨h.set hd (sp:=Znb d.2.1 (d.2.2++[(nm,e)])) (fun z=>by rw [z] at hl;simp at hl;lia) (by lia) (fun p hp=>?_),.inl rfl⟩;rcases List.mem_append.mp (List.mem_of_mem_drop hp) with y|y
  ·exact y5 p y
  ·rw [List.mem_singleton.mp y];exact ⟨⟨k,hk⟩,he⟩
theorem Zvf(yv:Y4 ps js sg)(h:(a,(n,e))∈qJ js):e∈enB:=by
 have hm:((n,e):Zc)∈Xg js:=by rw [<-Zan];exact List.mem_map.mpr ⟨_,Zsh h,rfl⟩
 obtain ⟨p,hp,hq⟩:=List.mem_flatMap.mp (yv.net.flat.mem_iff.mp hm);obtain ⟨e',he',z⟩:=List.mem_map.mp hq;cases z;exact Zqn he'
theorem Zex.ok{bb:Str->Bool}(yv:Y4 ps js sg)(h:Zex bb ts ll ms ps js sg i d nm d6 wd du ts1 ms1)(ht:Zac ps ts)(hd:ts[i]? =some d):Zac ps ts1/\Ml ps ms ms1:=by
 cases h with
 | fin _=>exact ⟨ht,.inl rfl⟩
 | stop=>exact ⟨ht,.inl rfl⟩
 | pass sig b9 e2 k2 _ _ _ j p=>exact Zqj ht hd p (Zvf yv j)
 | on b9 e2 k2 _ _ j p=>exact Zqj ht hd p (Zvf yv j)
structure Gnd(T:Tx K mg)(H0:Hp)(tr yd:Addr)(ps:List Zc)(js:List (Zc×Zc))(sg:List (Str×Str×Str)):Prop where
 tr:Yf T H0 tr ps js sg
 yd:Zqw H0 yd ps js sg
 yv:Y4 ps js sg
 tabs:Zrq T H0
structure Zgs(T:Tx K mg)(H0 H:Hp)(Z:Addr->Prop)(x tr sl:Addr)(ad:WAd)(la:LAd)(ts:List TrD)(lw ll:List (Str×Str))(ms:List Zc):Prop where
 w:WAt T H0 H Z x tr ad (ts,lw,ms)
 l:LAt H Z sl la (ts,ll,ms)
 ap:∀b,We ad b->¬Zay la b
structure Zhd(ps:List Zc)(gs:List Str)(lw ll:List (Str×Str)):Prop where
 li:∀p∈ps,Yl ll p.2∈Zcs p.1
 le:∀n,Yl ll n=Yl lw n
 lw:lw.map Prod.fst=gs
 ll:ll.map Prod.fst=Y6 "points" ps
structure Zha(T:Tx K mg)(H0 H H':Hp)(Z Z':Addr->Prop)(x tr sl:Addr)(ad x5:WAd)(la la':LAd)(i8:List TrD)(A8 B8:List (Str×Str))(ms j7:List Zc)(ps:List Zc)(gs:List Str):Prop where
 b:Zgs T H0 H' Z' x tr sl x5 la' i8 A8 B8 j7
 off:Off (fun b=>We ad b\/Zay la b) H H'
 z1:∀b,Z b->Z' b
 z2:∀b,Z' b->Z b\/H b=none
 cw:∀b,We x5 b->We ad b\/H b=none
 cl:∀b,Zay la' b->Zay la b
 tok:Zac ps i8
 li:Zhd ps gs A8 B8
 ml:Ml ps ms j7
theorem WAt.offL{Z:Addr->Prop}(hw:WAt U H0 H Z x tr ad st)(hl:LAt H Z sl la O2)(E4:LAt H' Z sl la' T5)(o:Off (Zay la) H H')(ap:∀b,We ad b->¬Zay la b):WAt U H0 H' Z x tr ad st :=
 hw.off o (fun _ z=>hl.inG z) (fun b z y=>ap b y z) (fun _ z=>hl.nt z) (fun b z=>E4.live b (hl.inG z))
theorem LAt.lie{G:Addr->Prop}(h:LAt H G sl ad st)(l':List (Str×Str)):LAt (upd H ad.d1 (.dK (Xw l'))) G sl ad (st.1,l',st.2.2):=by
 obtain ⟨ms,hm,_⟩:=id h.mis;have nt:∀xs,HO.dK (Xw st.2.1) ≠ .tup xs:=fun _ z=>nomatch z
 have xl:sl≠ad.d1:=fun z=>h.nx (by rw [z];exact h.g1)
 exact ⟨by rw [Ze xl];exact h.obj,by rw [Ze h.ne];exact h.trd,Paired.mapP h.recs fun _ _ r=>r.offB h.g1 h.lies nt,Zf,h.mis.offB (fun z=>by rw [z] at hm;rw [h.lies] at hm;cases hm) h.lies nt,h.g0,h.g1,h.gm,h.ne,h.nx,Wx h.live⟩
theorem LAt.come{H:Hp}{G:Addr->Prop}{sl t l:Addr}{ad:LAd}{st:WSt}{nm:Str}{n:Nat}{sp:List Zc}(h:LAt H G sl ad st)(hn:nm∉st.1.map Prod.fst)(ht:H t=some (.tup [.int (n:Int),.ref l]))(hl:Zl H l sp)(nl:¬G l):LAt (upd H ad.d0 (.dK (Wb (trK ad.ts st.1) (Z1 nm) (.ref t)))) G sl ⟨ad.d0,ad.d1,ad.m,ad.ts++[t]⟩ (st.1++[(nm,n,sp)],st.2.1,st.2.2):=by
 obtain ⟨ms,hm,_⟩:=id h.mis;have nt:∀xs,HO.dK (trK ad.ts st.1) ≠ .tup xs:=fun _ z=>nomatch z
 have xd:sl≠ad.d0:=fun z=>h.nx (by rw [z];exact h.g0)
 have md:ad.m≠ad.d0:=fun z=>by rw [z] at hm;rw [h.trd] at hm;cases hm
 have new:Zhv G H t (nm,n,sp):=⟨l,ht,hl,nl⟩
 exact ⟨by rw [Ze xd];exact h.obj,by rw [Zf,Zr3 (d:=(n,sp)) (Paired.length h.recs) hn],Paired.append (Paired.mapP h.recs fun _ _ r=>r.offB h.g0 h.trd nt) (.cons (new.offB h.g0 h.trd nt) .nil),by rw [Ze h.ne.symm];exact h.lies,h.mis.offB md h.trd nt,h.g0,h.g1,h.gm,h.ne,h.nx,Wx h.live⟩
theorem Zqp(l:List (Str×Str))(n v:Str):(Zic l n v).map Prod.fst=l.map Prod.fst:=by
 unfold Zic;rw [List.map_map];refine List.map_congr_left fun q _=>?_
 show (if q.1=n then (q.1,v) else q).1=q.1;split <;>rfl
theorem Zib(h:n∈l.map Prod.fst):Yl (Zic l n v) m=if m=n then v else Yl l m:=by
 unfold Yl liQ Zic
 induction l with
 | nil=>cases h
 | cons p l ih =>
  rw [List.map_cons,List.find?_cons,List.find?_cons]
  by_cases z:p.1=n
  ·rw [if_pos z]
   by_cases y:m=n
   ·rw [if_pos y,decide_eq_true (by show p.1=m;rw [z,y])];rfl
   ·have e1:decide (p.1=m)=false:=decide_eq_false fun x=>y (by rw [<-x,z])
    show (Option.map Prod.snd (match decide (p.1=m) with | true=>some (p.1,v) | false=>_)).getD "" =_;rw [e1,if_neg y];show _=(Option.map Prod.snd (List.find? (fun p=>decide (p.1=m)) l)).getD "";have key:∀l:List (Str×Str),(Option.map Prod.snd (List.find? (fun p=>decide (p.1=m)) (l.map fun p=>if p.1=n then (p.1,v) else p)))=Option.map Prod.snd (List.find? (fun p=>decide (p.1=m)) l):=fun l=>by
     induction l with
     | nil=>rfl
     | cons q l ih2 =>
      rw [List.map_cons,List.find?_cons,List.find?_cons]
      by_cases w:q.1=n
      ·rw [if_pos w];have e2:decide (q.1=m)=false:=decide_eq_false fun x=>y (by rw [<-x,w])
       show Option.map Prod.snd (match decide (q.1=m) with | true=>some (q.1,v) | false=>_)=_;rw [e2];exact ih2
      ·rw [if_neg w];cases decide (q.1=m) with
       | true=>rfl
       | false=>exact ih2
    exact congrArg (fun o:Option Str=>o.getD "") (key l)
  ·rw [if_neg z];have hn:n∈l.map Prod.fst:=(List.mem_cons.mp h).resolve_left fun y=>z y.symm
   cases e:decide (p.1=m) with
   | true =>
    have:m≠n:=fun y=>z (by rw [<-y];exact of_decide_eq_true e)
    rw [if_neg this]
   | false=>exact ih hn
theorem LAt.offG{G G' W:Addr->Prop}(h:LAt H G sl ad st)(o:Off W H H')(sub:∀b,W b->G b)(ap:∀b,W b->¬Zay ad b)(tup:∀t xs,H t=some (.tup xs)->¬W t)(m:∀b,G b->G' b)(n:∀b,G' b->G b\/H b=none)(lv:∀b,G' b->∃o,H' b=some o):LAt H' G' sl ad st:=by
 refine ⟨o _ _ (fun w=>h.nx (sub _ w)) h.obj,o _ _ (fun w=>ap _ w (.inl rfl)) h.trd,Paired.mapP h.recs fun t d r=>?_,o _ _ (fun w=>ap _ w (.inr (.inl rfl))) h.lies,h.mis.offW o (fun w=>ap _ w (.inr (.inr rfl))) tup,m _ h.g0,m _ h.g1,m _ h.gm,h.ne,fun z=>?_,lv⟩
 ·obtain ⟨l,h1,⟨us,h2,h2'⟩,h3⟩:=r;refine ⟨l,o _ _ (tup _ _ h1) h1,Zl.offW o ⟨us,h2,h2'⟩ (fun w=>h3 (sub l w)) tup,fun z=>?_⟩;rcases n l z with y|y
  ·exact h3 y
  ·rw [h2] at y;cases y
 ·rcases n sl z with y|y
  ·exact h.nx y
  ·rw [h.obj] at y;cases y
open Classical in
noncomputable def still (Z:Addr->Prop) (H:Hp):Hp:=fun b=>if Z b then none else H b
theorem Zkc{Z:Addr->Prop}:Same (still Z H) H:=fun b o e=>by
 unfold still at e
 by_cases z:Z b
 ·rw [if_pos z] at e;cases e
 ·rw [if_neg z] at e;exact e
theorem Wk{Z:Addr->Prop}(e:H b=some o)(n:¬Z b):still Z H b=some o:=(if_neg n).trans e
theorem WAt.still{F:Addr->Prop}(h:WAt U H0 H F x tr ad st):WAt U (still F H) H F x tr ad st/\Same H0 (K54.still F H) :=
 ⟨⟨h.obj,h.lies,h.trd,h.trs,h.mis,h.fl,h.ft,h.fm,h.ne,h.fa,h.nd,h.nx,fun _ z=>if_pos z,Zkc,h.live⟩,fun b o e=>Wk (h.same.at e) fun z=>by rw [h.free b z] at e;cases e⟩
theorem Zom(hl:H1 pl=some (.lst (ts.map V.ref)))(hp:Paired (Zm H1) ts ps)(hn:ps.length<=100)(hD:H1 D=none)(q:∀H',Same H1 H'->H' D=some (.lst ((Y6 k ps).map V.str))->Q (.ref D) H'){fr:St->St}(F6:fr σ=[none,none])(htf:tf=fun σ H Q=>∃v,σ[0]? =some (some v)/\Y7 K v (.str k) H fun x H1=>∃b,x=.bl b/\Q b H1)(K7:te=Zjv 1) :
  Zft (Itl K pl) fr (Zzw K 2 (Zva (Ze1 0) (Zva (Ze1 1) Ybr))) tf te Q σ H1 D:=by
 refine Xj (xs:=ts.map V.ref) (fun i ys H'=>ys=(Y6 k (ps.take i)).map V.str/\H' D=some (.lst ys)/\Same H1 H') ⟨rfl,Zf,Same.new hD⟩ ?_ ?_ ?_
 ·rintro i ys H' _ ⟨_,_,sm⟩;exact SqL.of (sm.at hl)
 ·rintro j v ys H' hj ⟨rfl,p8,sm⟩;rw [List.getElem?_map] at hj;obtain ⟨t,C3,rfl⟩:=Option.map_eq_some_iff.mp hj;obtain ⟨⟨k',n'⟩,hq,p0⟩:=Paired.get hp C3;have B0:=Zg1 k (ps.take j);rw [List.length_take] at B0;have Q6:Y6 k (ps.take (j+1))=Y6 k (ps.take j)++if k'=k then [n'] else []:=Zi4 hq
  unfold Zam;rw [F6,htf,K7];refine ⟨t,_,rfl,SqT.of (sm.at p0),rfl,_,_,rfl,_,_,rfl,rfl,(Wp.set rfl).trans (Wp.set rfl),_,rfl,.inl ⟨rfl,_,rfl,Yn (fun z=>?_) (fun z=>?_)⟩⟩
  ·have z:k'=k:=V.str.inj (of_decide_eq_true z);rw [Q6,if_pos z];refine (exR rfl ⟨p8,by rw [List.length_map];exact Zs (by lia),by rw [List.map_append];rfl,Zf,fun b o y=>?_⟩);rw [Ze (Zh y hD)];exact sm.at y
  ·have z:k'≠k:=fun y=>z (decide_eq_true (by rw [y]))
   rw [Q6,if_neg z,List.append_nil];exact ⟨rfl,p8,sm⟩
 ·rintro ys H6 ⟨rfl,B1,s6⟩;refine q H6 s6 ?_;rw [B1,List.length_map,Paired.length hp,List.take_length]
theorem Zub(ts:List TrD)(ll lw:List (Str×Str))(ms:List Zc)(nm:Str)(n:Nat)(g:Str):Wv (ts,lw,ms) nm n g=((Wv (ts,ll,ms) nm n g).1,lw,(Wv (ts,ll,ms) nm n g).2.2)/\(Wv (ts,ll,ms) nm n g)=((Wv (ts,ll,ms) nm n g).1,ll,(Wv (ts,ll,ms) nm n g).2.2):=by
 unfold Wv;split <;>exact ⟨rfl,rfl⟩
theorem Zqr(h:Zac ps ts)(hl:ts.length<=3)(hm:nm∈W4)(hn:nm∉ts.map Prod.fst)(h1:1<=n)(h4:n<=4) (hg:(("gate",g):Zc)∈ps):Zac ps (Wv (ts,ll,ms) nm n g).1/\Ml ps ms (Wv (ts,ll,ms) nm n g).2.2:=by
 unfold Wv;split
 ·exact ⟨h,.inr ⟨_,_,.inl rfl,List.mem_map.mpr ⟨_,hg,rfl⟩,rfl⟩⟩
 ·exact ⟨h.add hl hm hn h1 h4 hg,.inl rfl⟩
theorem Zl0(h:m∈W4):W9 m:=by
 unfold W4 at h;simp only [List.mem_cons,List.not_mem_nil,or_false] at h;unfold W9;rcases h with rfl|rfl|rfl|rfl <;>decide +kernel
theorem Zha.of{Z Z':Addr->Prop}(hB:Zgs U H0 H Z x tr sl ad la ts lw ll ms)(cl:∀b,Zay la' b->Zay la b)(o1:Off (Zay la) H H1)(o0:WAt U H0 H1 Z x tr ad (ts,lw,ms))(hl1:LAt H1 Z sl la' (i8,B8,j7))
  (z1:∀b,Z b->Z' b) (z2:∀b,Z' b->Z b\/H1 b=none) (cw:∀b,We x5 b->We ad b\/H1 b=none) (o2:Off (We ad) H1 H2) (i3:WAt U H0 H2 Z' x tr x5 (i8,A8,j7)) (tok:Zac ps i8) (li:Zhd ps gs A8 B8) (ml:Ml ps ms j7):Zha U H0 H H2 Z Z' x tr sl ad x5 la la' i8 A8 B8 ms j7 ps gs:=by
 have nn:∀b,H1 b=none->H b=none:=fun b z=>by
  cases e:H b with
  | none=>rfl
  | some u =>
   by_cases y:Zay la b
   ·obtain ⟨o,e2⟩:=hl1.live b (hB.l.inG y);rw [z] at e2;cases e2
   ·have:=o1 b u y e;rw [z] at this;cases this
 have ap1:∀b,We ad b->¬Zay la' b:=fun b y u=>hB.ap b y (cl b u)
 refine ⟨⟨i3,hl1.offG o2 (fun b y=>o0.inF y) ap1 (fun t xs e y=>o0.nt e y) z1 z2 i3.live,fun b y u=>?_⟩,fun b u n e=>o2 b u (fun y=>n (.inl y)) (o1 b u (fun y=>n (.inr y)) e),z1,fun b y=>(z2 b y).imp id (nn b),fun b y=>(cw b y).imp id (nn b),cl,tok,li,ml⟩;rcases cw b y with v|v
 ·exact ap1 b v u
 ·obtain ⟨o,e2⟩:=hl1.live b (hl1.inG u);rw [v] at e2;cases e2
def Zww:Sp:=fun vs H Q _=>∃(H0:Hp) (Z:Addr->Prop) (x tr yd sl:Addr) (ad:WAd) (la:LAd) (ts:List TrD) (lw ll:List (Str×Str)) (ms ps:List Zc) (js:List (Zc×Zc)) (sg:List (Str×Str×Str)) (gs:List Str) (nm:Str) (cell:Int),vs=[.ref x,.ref yd,.ref sl,.str nm,.int cell]/\Zgs T H0 H Z x tr sl ad la ts lw ll ms/\Gnd T H0 tr yd ps js sg/\Zac ps ts/\Zhd ps gs lw ll/\ms.length<=300/\nm∈W4/\nm∉ts.map Prod.fst/\ts.length<=3 /\
 ∀Z' x5 la' i8 j7 H',Zha T H0 H H' Z Z' x tr sl ad x5 la la' i8 lw ll ms j7 ps gs->Q (.bl true) H'
theorem Zn1:Z2 P w K mg base CX0 6 T.cF.f T.cF.fd ["_law_world", "_law_yard", "_law_state", "_law_name", "_law_cell"] (Zww T):=by
 refine T.cF.F.okW Zb5 fun a9 A outer s H vs Q E hr h=>?_
 ·obtain ⟨H0,Z,x,tr,yd,sl,ad,la,ts,lw,ll,ms,ps,js,sg,gs,nm,cell,rfl,hB,g,tok,li,hms,hm4,i5,h3,q⟩:=h;intro X;obtain ⟨pl,jl,gl,y1,⟨us,y2,N4⟩,y3,y4⟩:=id g.yd;have gH:=hB.w.same;have yv:=g.yv;have yl:=yv.len;let I28:=fun (σ:St) (H':Hp)=>∃gl:Addr,σ=[some (.ref x),some (.ref yd),some (.ref sl),some (.str nm),some (.int cell),some (.ref gl),none,none]/\Same H H'/\H' gl=some (.lst ((Y6 "gate" ps).map V.str))
  refine WSs.cut I28 ?_ ?_
  ·refine WS.of (Zba (i:=5) (N':=["_law_kind_here", "_law_one"]) Zb5.nd rfl (Or.inl rfl) rfl (Z6.std 2 [] rfl (by trivial) (by trivial) rfl trivial rfl rfl trivial) (Ym (Zv (K:=K) rfl (pv 1) Zd)) (fun _ _ _ _=>(Zc4 (K:=K) (n:=2) rfl rfl (Zw (W6 (i:=0) (by show (["_law_kind_here", "_law_one"]:List Str).Nodup;decide +kernel)) (Zw (W6 (i:=1) (by show (["_law_kind_here", "_law_one"]:List Str).Nodup;decide +kernel)) Xb)))) (fun _ _ _ _=>(Zdu (Zj (r:=Y7 K) (Xc hr) (pv 0) Zg (Zr _)))) (fun _ _ _ _=>(pv 1))) (exR rfl (ixT (gH.at y1) 0 rfl ⟨pl,rfl,⟨_,SqL.of (gH.at y2)⟩,fun D hD=>Zom (k := "gate") (gH.at y2) (Paired.mapP N4 fun _ _ r=>r.mono gH) (by lia) hD (fun HD sD eD=>⟨D,rfl,sD,eD⟩) ?aa ?bb ?cc⟩))
   case aa=>rfl
   case bb=>rfl
   case cc=>rfl
  rintro σ H1 ⟨gl,rfl,s1,S6⟩;generalize hgts:Y6 "gate" ps=i6 at S6;have Q7:∀m,m∈i6↔(("gate",m):Zc)∈ps:=fun m=>by rw [<-hgts];exact X3
  let I29:=fun (σ:St) (H':Hp)=>σ=[some (.ref x),some (.ref yd),some (.ref sl),some (.str nm),some (.int cell),some (.ref gl),none,none]/\Same H1 H'/\i6≠[]
  refine WSs.cut I29 ?_ ?_
  ·refine WS.of (Zx (Zj (r:=Y7 K) (Xc hr) (pv 5) (Zt Za) (Zr _)) Zq Zp) (exR rfl ⟨szA,fun le H2 s2 n2 e2=>.inr (.inl ⟨1,.lst (i6.map Tr.str),.lst [],by decide,.inr ⟨_,_,rfl,rfl⟩,Zc5 (s2.at S6),Im.lst (n:=0) (SqL.of e2) .nil,_,rfl,Yn (fun z=>?_) (fun z=>⟨rfl,s2,fun y=>z (decide_eq_true (by rw [y];rfl))⟩)⟩)⟩);exact WSs.last (Zo Zi5) (q Z ad la ts ms H2 ⟨⟨hB.w.mono (s1.trans s2),hB.l.mono (s1.trans s2),hB.ap⟩,Ws (s1.trans s2),fun _ z=>z,fun _ z=>.inl z,fun _ z=>.inl z,fun _ z=>z,tok,li,.inl rfl⟩)
  rintro σ H2 ⟨rfl,s2,m6⟩;have hLp:0<i6.length:=List.length_pos_iff.mpr m6;have i0:=Int.emod_nonneg cell (show (i6.length:Int)≠0 by lia);have i1:=Int.emod_lt_of_pos cell (show (0:Int)<(i6.length:Int) by lia);obtain ⟨j,hj⟩:∃j:Nat,cell%(i6.length:Int)=(j:Int):=⟨_,(Int.toNat_of_nonneg i0).symm⟩
  have hjL:j<i6.length:=by lia
  have Q8:=s2.at S6;refine WSs.step (Zy (i:=6) Zb5.nd (Zv (K:=K) rfl (pv 5) (Zu Yu (pv 4) (Zz (r:=Zbi K) Zbz (by rfl) T.bL PySem.boot_len (Zb (pv 5) Za))))) (exR rfl (exR rfl (exR rfl (.inl ⟨gl,_,rfl,.inl (SqL.of Q8),_,_,rfl,rfl,?_,.inl ⟨gl,_,_,.str i6[j],rfl,rfl,SqL.of Q8,?_,?_⟩⟩))))
  ·show (0:Int)<((i6.map V.str).length:Int);rw [List.length_map];lia
  ·show atI (i6.map V.str) (cell%((i6.map V.str).length:Int))=_;rw [List.length_map,hj];exact Yh (by rw [List.getElem?_map,List.getElem?_eq_getElem hjL];rfl)
  obtain ⟨j4,hj4,hj44⟩:=Zew (a:=cell / 50) (n:=4) (by decide);have hj4:cell / 50%4=(j4:Int):=hj4;let I30:=fun (σ:St) (H':Hp)=>∃n:Nat,σ=[some (.ref x),some (.ref yd),some (.ref sl),some (.str nm),some (.int cell),some (.ref gl),some (.str i6[j]),some (.int (n:Int))]/\H'=H2/\1<=n/\n<=4
  refine WSs.cut I30 ?_ ?_
  ·refine WS.of (Zy (i:=7) Zb5.nd (Zu W3 Zd (Zu Yu (Zu Ys (pv 4) Zd) Zd))) (exR rfl (exQ rfl rfl ⟨⟨by decide,by decide⟩,_,_,rfl,rfl,(by show (0:Int)<4;decide),.inl (exQ rfl rfl ⟨1+j4,?_,rfl,by lia,by lia⟩)⟩));show [some (V.ref x),some (V.ref yd),some (V.ref sl),some (V.str nm),some (V.int cell),some (V.ref gl),some (V.str i6[j]),some (V.int (1+cell / 50%4))]=_;rw [hj4]
   rfl
  rintro σ H3 ⟨n,rfl,rfl,hn1,hn4⟩;have hgm:(("gate",i6[j]):Zc)∈ps:=(Q7 _).mp (List.getElem_mem hjL);have g9:=s1.trans s2;have D8:Zgs T H0 H3 Z x tr sl ad la ts lw ll ms:=⟨hB.w.mono g9,hB.l.mono g9,hB.ap⟩
  obtain ⟨cm1,cm2⟩:=Zub ts ll lw ms nm n i6[j];obtain ⟨tok',ml'⟩:=Zqr (ll:=ll) (ms:=ms) tok h3 hm4 i5 hn1 hn4 hgm;let I31:=fun (σ:St) (H':Hp)=>σ=[some (.ref x),some (.ref yd),some (.ref sl),some (.str nm),some (.int cell),some (.ref gl),some (.str i6[j]),some (.int (n:Int))]/\∃rs,WAt T H0 H' Z x tr ad (ts,lw,ms)/\LAt H' Z sl ⟨la.d0,la.d1,la.m,rs⟩ ((Wv (ts,ll,ms) nm n i6[j]).1,ll,(Wv (ts,ll,ms) nm n i6[j]).2.2)/\Off (Zay la) H3 H'
  refine WSs.cut I31 ?_ ?_
  ·refine WS.of (Zx (Zj (r:=Zjt K) (Zk5 hr) (pv 6) (Ye (Zbf T) hr T.cm (Zb (pv 2) Za)) (by with_unfolding_all rfl)) Zq Zq) (exR rfl (exR rfl ⟨Z,sl,la,(ts,ll,ms),rfl,D8.l,tok.nd,tok.stood,fun lf H4 s4 n4 e4=>.inl ⟨lf,_,rfl,.inl (SqL.of e4),rfl,Wg _,_,rfl,Yn (fun z=>?_) (fun z=>?_)⟩⟩))
   ·have z:i6[j]∈stood ts:=by rw [show (if false=true then !inV (V.str i6[j]) ((stood ts).map V.str) else inV (V.str i6[j]) ((stood ts).map V.str))=_ from Xp i6[j] (stood ts)] at z;exact of_decide_eq_true z
    have B2:=D8.l.mono s4;have e9:Wv (ts,ll,ms) nm n i6[j]=(ts,ll,ms++[(("crash",i6[j]):Zc)]):=by unfold Wv;rw [if_pos z]
    refine WSs.last (Yi (Zab PySem.F.plainAttrs_list PySem.F.slot_list_append PySem.F.type_list_append Yx (Zv (K:=K) rfl (pv 2) Zd) (Zb (Zk (Zb Zg (Zb (pv 6) Za))) Za))) (exR rfl (.inl ⟨sl,_,2,_,rfl,rfl,SqL.of B2.obj,Yh (j:=2) rfl,.inl ⟨rfl,_,SqL.of B2.mis.choose_spec.1⟩,_,rfl,szA,fun t8 H8 s8 n8 e8=>?_⟩));obtain ⟨vs,L0,P1,N3⟩:=(B2.mono s8).mish (show Zm H8 t8 ("crash",i6[j]) from e8);have P1:vs.length=ms.length:=P1;refine ⟨la.m,_,_,rfl,rfl,L0,by rw [List.length_map];exact Zs (by lia),rfl,la.ts,(D8.w.mono (s4.trans s8)).offL (B2.mono s8) N3 (Off.upd (.inr (.inr rfl))) hB.ap,?_,(Ws (s4.trans s8)).trans (Off.upd (.inr (.inr rfl)))⟩;rw [e9];exact N3
   ·have z:i6[j]∉stood ts:=fun y=>z (by show inV (V.str i6[j]) ((stood ts).map V.str)=true;rw [Xp];exact decide_eq_true y)
    have B2:=D8.l.mono s4;have e9:Wv (ts,ll,ms) nm n i6[j]=(ts++[(nm,n,[((i6[j], ""):Zc)])],ll,ms):=by unfold Wv;rw [if_neg z]
    refine WSs.last (Wi (Y8 hr) (Zv (K:=K) rfl (pv 2) Zd) (pv 3) (Zk (Zb (pv 7) (Zb (Zt (Zb (Zk (Zb (pv 6) (Zb Zg Za))) Za)) Za))) rfl) (exR rfl (exR rfl ⟨szA,fun t1 J1 u1 v1 w1=>⟨szA,fun l4 J2 u2 v2 w2=>⟨szA,fun t2 J3 u3 v3 w3=>(exR rfl (.inl ⟨sl,_,0,_,rfl,rfl,SqL.of ((u1.trans (u2.trans u3)).at B2.obj),Yh (j:=0) rfl,_,rfl,la.d0,_,rfl,Zdz.k (k:=Z1 nm) ((u1.trans (u2.trans u3)).at B2.trd) ?_,?_⟩))⟩⟩⟩))
    ·unfold trK;rw [List.length_map,List.length_zip];exact Zs (by show min _ ts.length<=_;lia)
    have u13:=u1.trans (u2.trans u3);have hlJ:=B2.mono u13;have nzl4:¬Z l4:=fun y=>by
     obtain ⟨o,e⟩:=(B2.mono u1).live l4 y;rw [v2] at e;cases e
    have hlK:=hlJ.come (nm:=nm) (n:=n) (sp:=[((i6[j], ""):Zc)]) i5 w3 ⟨[t1],u3.at w2,.cons ((u2.trans u3).at w1) .nil⟩ nzl4;refine ⟨rfl,la.ts++[t2],(D8.w.mono (s4.trans u13)).offL hlJ hlK (Off.upd (.inl rfl)) hB.ap,?_,(Ws (s4.trans u13)).trans (Off.upd (.inl rfl))⟩;rw [e9];exact hlK
  rintro σ H4 ⟨rfl,rs,w9,B2,o4⟩;refine WSs.last (Zo (W0 Zlg (Y0 (pv 0) T.ac T.dv (Zgj T) hr.m T.bf.b .nil Z7 (Zb (pv 3) (Zb (pv 7) (Zb (pv 6) Za)))) Zlq (Zr _))) (exR rfl ⟨x,ad.dx,_,rfl,w9.obj,rfl,_,rfl,_,rfl,_,rfl,H0,Z,x,tr,ad,(ts,lw,ms),ps,js,sg,nm,i6[j],n,rfl,w9,g.tr,yv,tok.stood,by show ms.length<=400;lia,by show ts.length<=400;lia,Zl0 hm4,i5,hgm,hn1,hn4,fun H5 Z5 ad5 m1 m2 m3 o5 L4=>?_⟩);rw [cm1] at L4;have dd:=Zha.of (la':=⟨la.d0,la.d1,la.m,rs⟩) D8 (fun _ z=>z) o4 w9 B2 m1 m2 m3 o5 L4 tok' li ml';refine ⟨rfl,q Z5 ad5 _ _ _ H5 ⟨dd.b,(Ws g9).trans dd.off,dd.z1,fun b z=>(dd.z2 b z).imp id g9.free,fun b z=>(dd.cw b z).imp id g9.free,dd.cl,dd.tok,dd.li,dd.ml⟩⟩
theorem Zt8(ts:List TrD){ll lw:List (Str×Str)}(ms:List Zc)(n v:Str)(h:∀n,Yl ll n=Yl lw n):Zcj (ts,lw,ms) n v=(ts,Zic lw n v,(Zcj (ts,ll,ms) n v).2.2):=by
 unfold Zcj;simp only [h]
theorem Zx1{ps:List Zc}{gs:List Str}{lw ll:List (Str×Str)}{n v:Str}(h:Zhd ps gs lw ll) (hn:(("points",n):Zc)∈ps) (nd:(ps.map Prod.snd).Nodup) (hg:n∈gs) (hv:v = "left" \/v = "right"):Zhd ps gs (Zic lw n v) (Zic ll n v):=by
 have h1:n∈ll.map Prod.fst:=by rw [h.ll];exact X3.mpr hn
 have h2:n∈lw.map Prod.fst:=by rw [h.lw];exact hg
 refine ⟨fun p hp=>?_,fun m=>?_,by rw [Zqp];exact h.lw,by rw [Zqp];exact h.ll⟩
 ·rw [Zib h1];split
  ·rename_i z;have e:=Zo9 nd hp hn z;rw [e];unfold Zcs;rw [if_pos rfl];rcases hv with rfl|rfl <;>simp
  ·exact h.li p hp
 ·rw [Zib h1,Zib h2];split
  ·rfl
  ·exact h.le m
def Yau:Sp:=fun vs H Q _=>∃(H0:Hp) (Z:Addr->Prop) (x tr yd sl:Addr) (ad:WAd) (la:LAd) (ts:List TrD) (lw ll:List (Str×Str)) (ms ps:List Zc) (js:List (Zc×Zc)) (sg:List (Str×Str×Str)) (gs:List Str) (cell:Int),vs=[.ref x,.ref yd,.ref sl,.int cell]/\Zgs T H0 H Z x tr sl ad la ts lw ll ms/\Gnd T H0 tr yd ps js sg/\Zac ps ts/\Zhd ps gs lw ll/\(∀n,n∈gs↔(("points",n):Zc)∈ps)/\gs.length<=40/\ms.length<=300 /\
 ∀A8 B8 j7 la' H',Zha T H0 H H' Z Z x tr sl ad ad la la' ts A8 B8 ms j7 ps gs->Q (.bl true) H'
theorem Zl7:Z2 P w K mg base CX0 7 T.bX.f T.bX.fd ["_law_world", "_law_yard", "_law_state", "_law_cell"] (Yau T):=by
 refine T.bX.F.okW Zaf fun a9 A outer s H vs Q E hr h=>?_
 ·obtain ⟨H0,Z,x,tr,yd,sl,ad,la,ts,lw,ll,ms,ps,js,sg,gs,cell,rfl,hB,g,tok,li,Q0,hgl,hms,q⟩:=h;intro X;obtain ⟨pl,jl,gl,y1,⟨us,y2,N4⟩,y3,y4⟩:=id g.yd;have gH:=hB.w.same;have yv:=g.yv;have yl:=yv.len;let I32:=fun (σ:St) (H':Hp)=>∃gl:Addr,σ=[some (.ref x),some (.ref yd),some (.ref sl),some (.int cell),none,some (.ref gl),none]/\Same H H'/\H' gl=some (.lst ((Y6 "points" ps).map V.str))
  refine WSs.cut I32 ?_ ?_
  ·refine WS.of (Zba (i:=5) (N':=["_law_kind_here", "_law_one"]) Zaf.nd rfl (Or.inl rfl) rfl (Z6.std 2 [] rfl (by trivial) (by trivial) rfl trivial rfl rfl trivial) (Ym (Zv (K:=K) rfl (pv 1) Zd)) (fun _ _ _ _=>(Zc4 (K:=K) (n:=2) rfl rfl (Zw (W6 (i:=0) (by show (["_law_kind_here", "_law_one"]:List Str).Nodup;decide +kernel)) (Zw (W6 (i:=1) (by show (["_law_kind_here", "_law_one"]:List Str).Nodup;decide +kernel)) Xb)))) (fun _ _ _ _=>(Zdu (Zj (r:=Y7 K) (Xc hr) (pv 0) Zg (Zr _)))) (fun _ _ _ _=>(pv 1))) (exR rfl (ixT (gH.at y1) 0 rfl ⟨pl,rfl,⟨_,SqL.of (gH.at y2)⟩,fun D hD=>Zom (k := "points") (gH.at y2) (Paired.mapP N4 fun _ _ r=>r.mono gH) (by lia) hD (fun HD sD eD=>⟨D,rfl,sD,eD⟩) ?aa ?bb ?cc⟩))
   case aa=>rfl
   case bb=>rfl
   case cc=>rfl
  rintro σ H1 ⟨gl,rfl,s1,S6⟩;have lll:=congrArg List.length li.ll;rw [List.length_map] at lll;have lwl:=congrArg List.length li.lw;rw [List.length_map] at lwl;have pln:=Zg1 "points" ps;generalize hgts:Y6 "points" ps=i6 at S6 lll pln;have Q7:∀m,m∈i6↔(("points",m):Zc)∈ps:=fun m=>by rw [<-hgts];exact X3
  let I33:=fun (σ:St) (H':Hp)=>σ=[some (.ref x),some (.ref yd),some (.ref sl),some (.int cell),none,some (.ref gl),none]/\Same H1 H'/\i6≠[]
  refine WSs.cut I33 ?_ ?_
  ·refine WS.of (Zx (Zj (r:=Y7 K) (Xc hr) (pv 5) (Zt Za) (Zr _)) Zq Zp) (exR rfl ⟨szA,fun le H2 s2 n2 e2=>.inr (.inl ⟨1,.lst (i6.map Tr.str),.lst [],by decide,.inr ⟨_,_,rfl,rfl⟩,Zc5 (s2.at S6),Im.lst (n:=0) (SqL.of e2) .nil,_,rfl,Yn (fun z=>?_) (fun z=>⟨rfl,s2,fun y=>z (decide_eq_true (by rw [y];rfl))⟩)⟩)⟩);exact WSs.last (Zo Zi5) (q lw ll ms la H2 ⟨⟨hB.w.mono (s1.trans s2),hB.l.mono (s1.trans s2),hB.ap⟩,Ws (s1.trans s2),fun _ z=>z,fun _ z=>.inl z,fun _ z=>.inl z,fun _ z=>z,tok,li,.inl rfl⟩)
  rintro σ H2 ⟨rfl,s2,m6⟩;have hLp:0<i6.length:=List.length_pos_iff.mpr m6;have i0:=Int.emod_nonneg cell (show (i6.length:Int)≠0 by lia);have i1:=Int.emod_lt_of_pos cell (show (0:Int)<(i6.length:Int) by lia);obtain ⟨j,hj⟩:∃j:Nat,cell%(i6.length:Int)=(j:Int):=⟨_,(Int.toNat_of_nonneg i0).symm⟩
  have hjL:j<i6.length:=by lia
  have Q8:=s2.at S6;refine WSs.step (Zy (i:=4) Zaf.nd (Zv (K:=K) rfl (pv 5) (Zu Yu (pv 3) (Zz (r:=Zbi K) Zbz (by rfl) T.bL PySem.boot_len (Zb (pv 5) Za))))) (exR rfl (exR rfl (exR rfl (.inl ⟨gl,_,rfl,.inl (SqL.of Q8),_,_,rfl,rfl,?_,.inl ⟨gl,_,_,.str i6[j],rfl,rfl,SqL.of Q8,?_,?_⟩⟩))))
  ·show (0:Int)<((i6.map V.str).length:Int);rw [List.length_map];lia
  ·show atI (i6.map V.str) (cell%((i6.map V.str).length:Int))=_;rw [List.length_map,hj];exact Yh (by rw [List.getElem?_map,List.getElem?_eq_getElem hjL];rfl)
  obtain ⟨j2,hj2,hj22⟩:=Zew (a:=cell / 50) (n:=2) (by decide);have hj2:cell / 50%2=(j2:Int):=hj2;obtain ⟨v,hv,hvl⟩:∃v:Str,atI [V.str "left",V.str "right"] (j2:Int)=some (.str v)/\(v = "left" \/v = "right"):=by
   rcases (by lia:j2=0\/j2=1) with rfl|rfl
   ·exact ⟨"left",rfl,.inl rfl⟩
   ·exact ⟨"right",rfl,.inr rfl⟩
  refine WSs.step (Zy (i:=6) Zaf.nd (Zv (K:=K) rfl (Zt (Zb Zg (Zb Zg Za))) (Zu Yu (Zu Ys (pv 3) Zd) Zd))) ⟨szA,fun lr H3 s3 n3 e3=>(exR rfl (exQ rfl rfl ⟨⟨by decide,by decide⟩,_,_,rfl,rfl,(by show (0:Int)<2;decide),.inl ⟨lr,_,_,.str v,rfl,rfl,SqL.of e3,?_,?_⟩⟩))⟩
  ·show atI [V.str "left",V.str "right"] (cell / 50%2)=_;rw [hj2];exact hv
  have F9:(("points",i6[j]):Zc)∈ps:=(Q7 _).mp (List.getElem_mem hjL);generalize i6[j]=nm at F9;have g9:=s1.trans (s2.trans s3);have D8:Zgs T H0 H3 Z x tr sl ad la ts lw ll ms:=⟨hB.w.mono g9,hB.l.mono g9,hB.ap⟩
  have hnl:nm∈ll.map Prod.fst:=by rw [li.ll];exact X3.mpr F9
  have hnw:nm∈lw.map Prod.fst:=by rw [li.lw];exact (Q0 nm).mpr F9
  obtain ⟨l0,B9⟩:=Zr6 hnl;have hlo:Yl ll nm=l0:=by unfold Yl;rw [B9];rfl
  let I34:=fun (σ:St) (H':Hp)=>σ=[some (.ref x),some (.ref yd),some (.ref sl),some (.int cell),some (.str nm),some (.ref gl),some (.str v)]/\Off (Zay la) H3 H'/\WAt T H0 H' Z x tr ad (ts,lw,ms)/\LAt H' Z sl la (ts,ll,(Zcj (ts,ll,ms) nm v).2.2)
  refine WSs.cut I34 ?_ ?_
  ·have hgv:Wc H3 la.d1 (.str nm) (some (.str l0)):=by
    have:=D8.l.get nm;rw [show liQ ll nm=some l0 from B9] at this;exact this
   have same:¬(v≠Yl ll nm/\nm∈stood ts)->(Zcj (ts,ll,ms) nm v).2.2=ms:=fun z=>by unfold Zcj;rw [if_neg z]
   refine WS.of (Zx (PW.pt (Zdk (Zj (r:=Ze7 K) (Zhg hr) (X1 (Y8 hr) (Zv (K:=K) rfl (pv 2) Zd) (pv 4) (fun _ _=>rfl)) (pv 6) (Zr _)) (Zbe (Zj (r:=Zjt K) (Zk5 hr) (pv 4) (Ye (Zbf T) hr T.cm (Zb (pv 2) Za)) (by with_unfolding_all rfl))))) Zq Zp) (exR rfl (.inl ⟨sl,_,1,_,rfl,rfl,SqL.of D8.l.obj,Yh (j:=1) rfl,_,rfl,la.d1,_,rfl,hgv,_,rfl,.inl ⟨rfl,_,rfl,Yn (fun z=>?_) (fun z=>?_)⟩⟩))
   ·have z:v≠Yl ll nm:=by
     rw [hlo];intro y;rw [y] at z;simp at z
    refine (exR rfl (exR rfl ⟨Z,sl,la,(ts,ll,ms),rfl,D8.l,tok.nd,tok.stood,fun lf H4 s4 n4 e4=>.inl ⟨lf,_,rfl,.inl (SqL.of e4),rfl,Wg _,_,rfl,Yn (fun y=>?_) (fun y=>?_)⟩⟩))
    ·have y:nm∈stood ts:=by rw [show (if false=true then !inV (V.str nm) ((stood ts).map V.str) else inV (V.str nm) ((stood ts).map V.str))=_ from Xp nm (stood ts)] at y;exact of_decide_eq_true y
     have B2:=D8.l.mono s4;have e9:(Zcj (ts,ll,ms) nm v).2.2=ms++[(("split",nm):Zc)]:=by unfold Zcj;rw [if_pos ⟨z,y⟩]
     refine WSs.last (Yi (Zab PySem.F.plainAttrs_list PySem.F.slot_list_append PySem.F.type_list_append Yx (Zv (K:=K) rfl (pv 2) Zd) (Zb (Zk (Zb Zg (Zb (pv 4) Za))) Za))) (exR rfl (.inl ⟨sl,_,2,_,rfl,rfl,SqL.of B2.obj,Yh (j:=2) rfl,.inl ⟨rfl,_,SqL.of B2.mis.choose_spec.1⟩,_,rfl,szA,fun t8 H8 s8 n8 e8=>?_⟩));obtain ⟨vs,L0,P1,N3⟩:=(B2.mono s8).mish (show Zm H8 t8 ("split",nm) from e8);have P1:vs.length=ms.length:=P1;refine ⟨la.m,_,_,rfl,rfl,L0,by rw [List.length_map];exact Zs (by lia),rfl,(Ws (s4.trans s8)).trans (Off.upd (.inr (.inr rfl))),(D8.w.mono (s4.trans s8)).offL (B2.mono s8) N3 (Off.upd (.inr (.inr rfl))) hB.ap,?_⟩;rw [e9];exact N3
    ·have y:nm∉stood ts:=fun w=>y (by show inV (V.str nm) ((stood ts).map V.str)=true;rw [Xp];exact decide_eq_true w)
     refine ⟨rfl,Ws s4,D8.w.mono s4,?_⟩;rw [same fun w=>y w.2];exact D8.l.mono s4
   ·have z:v=Yl ll nm:=by
     rw [hlo];have:l0=v:=by simpa using z
     exact this.symm
    refine ⟨rfl,Off.refl,D8.w,?_⟩;rw [same fun w=>w.1 z];exact D8.l
  rintro σ H4 ⟨rfl,o4,w9,B2⟩;refine WSs.step (Wi (Y8 hr) (Zv (K:=K) rfl (pv 2) Zd) (pv 4) (pv 6) rfl) (exR rfl (exR rfl (.inl ⟨sl,_,1,_,rfl,rfl,SqL.of B2.obj,Yh (j:=1) rfl,_,rfl,la.d1,_,rfl,Zdz.k (k:=Z1 nm) B2.lies ?_,?_⟩)))
  ·unfold Xw;rw [List.length_map];exact Zs (by show ll.length<=_;lia)
  have hl5:=B2.lie (Zic ll nm v);show WSs _ _ _ _ (upd H4 la.d1 (.dK (Wb (Xw ll) (Z1 nm) (.str v))));rw [Zst hnl];have L4:=w9.offL B2 hl5 (Off.upd (.inr (.inl rfl))) hB.ap;have o5:Off (Zay la) H3 (upd H4 la.d1 (.dK (Xw (Zic ll nm v)))):=o4.trans (Off.upd (.inr (.inl rfl)));generalize upd H4 la.d1 (.dK (Xw (Zic ll nm v)))=H5 at hl5 L4 o5;refine WSs.last (Zo (W0 Zlg (Y0 (pv 0) T.ac T.fN (Zmb T) hr.m T.bE.b .nil Z7 (Zb (pv 4) (Zb (pv 6) Za))) Zlq (Zr _))) (exR rfl ⟨x,ad.dx,_,rfl,L4.obj,rfl,_,rfl,_,rfl,H0,Z,x,tr,ad,(ts,lw,ms),ps,js,sg,nm,v,rfl,L4,g.tr,yv,tok.stood,by show ms.length<=400;lia,by show lw.length<=400;lia,F9,hnw,hvl,fun H6 o6 A7=>?_⟩);rw [Zt8 ts ms nm v li.le] at A7;have ml:Ml ps ms (Zcj (ts,ll,ms) nm v).2.2:=by
   unfold Zcj;show Ml ps ms (if v≠Yl ll nm/\nm∈stood ts then ms++[(("split",nm):Zc)] else ms);split
   ·exact .inr ⟨_,_,.inr (.inr rfl),List.mem_map.mpr ⟨_,F9,rfl⟩,rfl⟩
   ·exact .inl rfl
  have dd:=Zha.of (la':=la) D8 (fun _ z=>z) o5 L4 hl5 (fun _ z=>z) (fun _ z=>.inl z) (fun _ z=>.inl z) o6 A7 tok (Zx1 li F9 yv.net.nd ((Q0 nm).mpr F9) hvl) ml;exact ⟨rfl,q _ _ _ _ H6 ⟨dd.b,(Ws g9).trans dd.off,dd.z1,fun b z=>(dd.z2 b z).imp id g9.free,fun b z=>(dd.cw b z).imp id g9.free,dd.cl,dd.tok,dd.li,dd.ml⟩⟩
theorem Zpc     (cl:Clo H Pt fl q la (.Name "_law_shown" lpos) ls [("_law_shown",c)]) (hc:Zfl H c (.bl sh))
  (hb:∀(pm a9 D1 u:Value),bindArgs (PySem.W.kla_fn "<lambda>" q la (.Name "_law_shown" lpos) ls [("_law_shown",c)] pm a9 D1) ⟨[u],[]⟩=pure [(("_law_signal_here" :Str),u)]) (hg:ls.names.lookup ("_law_signal_here" :Str)=some .local) (hf:ls.names.lookup ("_law_shown" :Str)=some .free) (F6:∀y∈ls.names,y.2=.free->y.1∈[("_law_shown" :Str)]) (hnc:∀y∈ls.names,y.2 ≠ .cell) (hk:ls.kind=.function) (hco:ls.isCoroutine=false) (hgen:ls.isGenerator=false):Zox P w K mg base 5 fl H sg (fun _ H1 H2=>Same H1 H2) (fun _=>sh):=by
 refine ⟨.inl cl.fn,fun nm H1 Q _ sm q'=>?_⟩;have L:Lit H1 ls [("_law_shown",c)] ["_law_shown"] [.bl sh]:=⟨.cons ⟨hf,c,rfl,hc.mono sm⟩ .nil,by simp,by simp,by simp⟩
 refine Zq2 (g := "_law_signal_here") (cl.mono sm) L hb hg (by decide) F6 hnc hk hco hgen fun a9 A outer s hr=>?_
 exact WE.of (Zuq (i:=1) rfl (.inr (.inr hf))) ⟨_,rfl,Same.refl _,fun H'' _ z=>q' H'' z⟩
theorem Zrs(ts:List TrD)(ms:List Zc)(i:Nat)(d:TrD)(kd:Str->Str)(h:∀n,Yl ll n=Yl lw n):Zfm (ts,lw,ms) i d kd=((Zfm (ts,ll,ms) i d kd).1,lw,ms):=by
 unfold Zfm Zu4;simp only [h]
theorem Ztv(kd:Str->Str)(h:Zac ps ts)(hd:ts[i]? =some d):Zac ps (Zfm (ts,ll,ms) i d kd).1:=by
 obtain ⟨y0,y1,y2,y3,y4,y5⟩:=h.ok d (List.mem_of_getElem? hd);unfold Zfm;refine h.set hd (fun z=>y3 ?_) (by rw [List.length_map,List.length_reverse];exact y4) fun p hp=>?_
 ·simpa using z
 ·obtain ⟨p',hp',rfl⟩:=List.mem_map.mp hp;exact ⟨(y5 p' (List.mem_reverse.mp hp')).1,Zto _ _ _⟩
theorem LAt.leave{G:Addr->Prop}(h:LAt H G sl ad st)(nd:(st.1.map Prod.fst).Nodup)(hd:st.1[i]? =some d):LAt (upd H ad.d0 (.dK (Zfd (trK ad.ts st.1) (Z1 d.1)))) G sl ⟨ad.d0,ad.d1,ad.m,ad.ts.eraseIdx i⟩ (st.1.eraseIdx i,st.2.1,st.2.2):=by
 obtain ⟨ms,hm,_⟩:=id h.mis;have nt:∀xs,HO.dK (trK ad.ts st.1) ≠ .tup xs:=fun _ z=>nomatch z
 have xd:sl≠ad.d0:=fun z=>h.nx (by rw [z];exact h.g0)
 have md:ad.m≠ad.d0:=fun z=>by rw [z] at hm;rw [h.trd] at hm;cases hm
 exact ⟨by rw [Ze xd];exact h.obj,by rw [Zf,Zpk (Paired.length h.recs) nd hd],Zkq (Paired.mapP h.recs fun _ _ r=>r.offB h.g0 h.trd nt),by rw [Ze h.ne.symm];exact h.lies,h.mis.offB md h.trd nt,h.g0,h.g1,h.gm,h.ne,h.nx,Wx h.live⟩
theorem Zl.soft(k:∀b o,H b=some o->(∀ob,o≠Fz ob)->H' b=some o)(h:Zl H l ps):Zl H' l ps:=by
 obtain ⟨ts,h1,h2⟩:=h;exact ⟨ts,k _ _ h1 (fun _ z=>nomatch z),Paired.mapP h2 fun _ _ r=>k _ _ r (fun _ z=>nomatch z)⟩
theorem WAt.soft{F:Addr->Prop}(k:∀b o,H b=some o->(∀ob,o≠Fz ob)->H' b=some o)(sm:Same H0 H')(lv:∀b,F b->∃o,H' b=some o)(h:WAt U H0 H F x tr ad st):WAt U H0 H' F x tr ad st :=
 ⟨k _ _ h.obj (fun _ z=>nomatch z),k _ _ h.lies (fun _ z=>nomatch z),k _ _ h.trd (fun _ z=>nomatch z),Paired.mapP h.trs fun _ _ ⟨dx,l,h1,h2,h3⟩=>⟨dx,l,k _ _ h1 (fun _ z=>nomatch z),h2.soft k,h3⟩,h.mis.soft k,h.fl,h.ft,h.fm,h.ne,h.fa,h.nd,h.nx,h.free,sm,lv⟩
theorem LAt.soft{G:Addr->Prop}(k:∀b o,H b=some o->(∀ob,o≠Fz ob)->H' b=some o)(lv:∀b,G b->∃o,H' b=some o)(h:LAt H G sl ad st):LAt H' G sl ad st :=
 ⟨k _ _ h.obj (fun _ z=>nomatch z),k _ _ h.trd (fun _ z=>nomatch z),Paired.mapP h.recs fun _ _ ⟨l,h1,h2,h3⟩=>⟨l,k _ _ h1 (fun _ z=>nomatch z),h2.soft k,h3⟩,k _ _ h.lies (fun _ z=>nomatch z),h.mis.soft k,h.g0,h.g1,h.gm,h.ne,h.nx,lv⟩
theorem Zzj{Z:Addr->Prop}{bb:Str->Bool}(hw:WAt U H0 H Z x tr ad (ts,lw,ms))
  (q:∀wd du i8 j7 H',Zex bb ts lw ms ps js sg i d nm d6 wd du i8 j7->WAt U H0 H' Z x tr ad (i8,lw,j7)->Off (We ad) H H'->Q (.str wd) H'):GoQ U H0 H Z x tr ad (ts,lw,ms) ps js sg i d nm d6 (fun _ H1 H2=>Same H1 H2) bb Q:=by
 refine ⟨fun z H' s=>q _ _ _ _ H' (.fin z) (hw.mono s) (Ws s),fun n sig _ m b H1 H2 s1 r=>q _ _ _ _ H2 (.stop sig n m b) (hw.mono (s1.trans r)) (Ws (s1.trans r)),fun n sig _ m b b9 e2 k2 j p H1 H2 H3 s1 r o k8=>?_,fun n no b9 e2 k2 j p H3 o k8=>?_⟩
 ·rw [Zf4] at k8;exact q _ _ _ _ H3 (.pass sig b9 e2 k2 n m b j p) k8 ((Ws (s1.trans r)).trans o)
 ·rw [Zf4] at k8;exact q _ _ _ _ H3 (.on b9 e2 k2 n no j p) k8 o
theorem Zym{Z:Addr->Prop}{bb:Str->Bool}(hl:LAt H Z sl la (ts,ll,ms))
  (q:∀wd du i8 j7 H' rs,Zex bb ts ll ms ps js sg i d nm d6 wd du i8 j7->LAt H' Z sl ⟨la.d0,la.d1,la.m,rs⟩ (i8,ll,j7)->Off (Zay la) H H'->Q (.str wd) H'):Ycd H Z sl la (ts,ll,ms) ps js sg i d nm d6 (fun _ H1 H2=>Same H1 H2) bb Q:=by
 refine ⟨fun z H' s=>q _ _ _ _ H' la.ts (.fin z) (hl.mono s) (Ws s),fun n sig _ m b H1 H2 s1 r=>q _ _ _ _ H2 la.ts (.stop sig n m b) (hl.mono (s1.trans r)) (Ws (s1.trans r)),fun n sig _ m b b9 e2 k2 j p H1 H2 H3 rs s1 r o hl3=>?_,fun n no b9 e2 k2 j p H3 rs o hl3=>?_⟩
 ·rw [Zf4] at hl3;exact q _ _ _ _ H3 rs (.pass sig b9 e2 k2 n m b j p) hl3 ((Ws (s1.trans r)).trans o)
 ·rw [Zf4] at hl3;exact q _ _ _ _ H3 rs (.on b9 e2 k2 n no j p) hl3 o
theorem Zrh{l m:List Str}(nd:l.Nodup)(h:∀a∈l,a∈m):l.length<=m.length:=by
 induction l generalizing m with
 | nil=>exact Nat.zero_le _
 | cons a r ih =>
  rw [List.nodup_cons] at nd;have ha:=h a List.mem_cons_self;have:=ih (m:=m.erase a) nd.2 fun b hb=>by
   have O4:=h b (List.mem_cons_of_mem _ hb);exact (List.mem_erase_of_ne fun z=>nd.1 (by rw [<-z];exact hb)).mpr O4
  rw [List.length_erase_of_mem ha] at this;have:=List.length_pos_of_mem ha;rw [List.length_cons];lia
def Zz9:Sp:=fun vs H Q _=>∃(H0:Hp) (Z:Addr->Prop) (x tr yd sl:Addr) (ad:WAd) (la:LAd) (ts:List TrD) (lw ll:List (Str×Str)) (ms ps:List Zc) (js:List (Zc×Zc)) (sg:List (Str×Str×Str)) (gs:List Str) (cell:Int),vs=[.ref x,.ref yd,.ref sl,.int cell]/\Zgs T H0 H Z x tr sl ad la ts lw ll ms/\Gnd T H0 tr yd ps js sg/\Zac ps ts/\Zhd ps gs lw ll/\(∀n,n∈gs↔(("points",n):Zc)∈ps)/\gs.length<=40/\ms.length<=300 /\
 ∀Z' x5 la' i8 A8 B8 j7 H',Zha T H0 H H' Z Z' x tr sl ad x5 la la' i8 A8 B8 ms j7 ps gs->Q (.bl true) H'
theorem Zha.pre{Z Z':Addr->Prop}(s:Same H H1)(dd:Zha U H0 H1 H2 Z Z' x tr sl ad x5 la la' i8 A8 B8 ms j7 ps gs):Zha U H0 H H2 Z Z' x tr sl ad x5 la la' i8 A8 B8 ms j7 ps gs :=
 ⟨dd.b,(Ws s).trans dd.off,dd.z1,fun b z=>(dd.z2 b z).imp id s.free,fun b z=>(dd.cw b z).imp id s.free,dd.cl,dd.tok,dd.li,dd.ml⟩
theorem Zof:Z2 P w K mg base CX0 8 T.bY.f T.bY.fd ["_law_world", "_law_yard", "_law_state", "_law_cell"] (Zz9 T):=by
 refine T.bY.F.okL T.fV Zap (fun vs H Q E h=>?_) (fun cdc A outer s H vs Q E hL hr h=>?_)
 ·obtain ⟨H0,Z,x,tr,yd,sl,ad,la,ts,lw,ll,ms,ps,js,sg,gs,cell,rfl,_⟩:=h
  rfl
 ·obtain ⟨H0,Z,x,tr,yd,sl,ad,la,ts,lw,ll,ms,ps,js,sg,gs,cell,rfl,hB,g,tok,li,Q0,hgl,hms,q⟩:=h;have yv:=g.yv;have yl:=yv.len;have tl:=tok.len;obtain ⟨j,hj,hj4⟩:=Zew (a:=cell / 8) (n:=4) (by decide);have hj:cell / 8%4=(j:Int):=hj;obtain ⟨nm,U3,hm4⟩:∃nm:Str,atI [V.str "ta",V.str "b",V.str "t2",V.str "zug"] (j:Int)=some (.str nm)/\nm∈W4:=by
   rcases (by lia:j=0\/j=1\/j=2\/j=3) with rfl|rfl|rfl|rfl
   ·exact ⟨"ta",rfl,by unfold W4;simp⟩
   ·exact ⟨"b",rfl,by unfold W4;simp⟩
   ·exact ⟨"t2",rfl,by unfold W4;simp⟩
   ·exact ⟨"zug",rfl,by unfold W4;simp⟩
  refine WSs.step (Zy (i:=4) Zap.nd (Zv (K:=K) rfl (Zt (Zb Zg (Zb Zg (Zb Zg (Zb Zg Za))))) (Zu Yu (Zu Ys (pv 3) Zd) Zd))) ⟨szA,fun l1 H1 s1 n1 e1=>(exR rfl (exQ rfl rfl ⟨⟨by decide,by decide⟩,_,_,rfl,rfl,(by show (0:Int)<4;decide),.inl ⟨l1,_,_,.str nm,rfl,rfl,SqL.of e1,?_,?_⟩⟩))⟩
  ·show atI [V.str "ta",V.str "b",V.str "t2",V.str "zug"] (cell / 8%4)=_;rw [hj];exact U3
  have t4:Zgs T H0 H1 Z x tr sl ad la ts lw ll ms:=⟨hB.w.mono s1,hB.l.mono s1,hB.ap⟩
  replace q:∀Z' x5 la' i8 A8 B8 j7 H',Zha T H0 H1 H' Z Z' x tr sl ad x5 la la' i8 A8 B8 ms j7 ps gs->Q (.bl true) H':=fun Z' x5 la' i8 A8 B8 j7 H' dd=>q Z' x5 la' i8 A8 B8 j7 H' (dd.pre s1)
  clear hB s1 n1 e1;refine WSs.step (Zy (i:=5) Zap.nd (Zu Yu (pv 3) Zd)) (exR rfl (exQ rfl rfl ⟨(by show (0:Int)<8;decide),?_⟩));refine WSs.step (Zx (Zj (r:=Y7 K) (Xc hr) (pv 5) Zd (Zr _)) Zq Zp) (exR rfl (.inl ⟨rfl,_,rfl,Yn (fun z=>?_) (fun z2=>?_)⟩))
  ·exact WSs.last (Zo (Ye (Zl7 T) hr T.eN (Zb (pv 0) (Zb (pv 1) (Zb (pv 2) (Zb (Zu Ys (pv 3) Zd) Za)))))) (exR rfl (exR rfl (exR rfl (exR rfl (exQ rfl rfl ⟨⟨by decide,by decide⟩,H0,Z,x,tr,yd,sl,ad,la,ts,lw,ll,ms,ps,js,sg,gs,_,rfl,t4,g,tok,li,Q0,hgl,hms,fun A8 B8 j7 la' H' dd=>q _ _ _ _ _ _ _ _ dd⟩)))))
  have U1:∀{b:Bool},nm∈ts.map Prod.fst->(!(Yy (trK la.ts ts) (Z1 nm)).isSome)=b->b=false:=fun hm e=>by
   obtain ⟨d,hd,e2⟩:=List.mem_map.mp hm;obtain ⟨i,hi⟩:=List.mem_iff_getElem?.mp hd;obtain ⟨t,ht,_⟩:=Paired.getL t4.l.recs hi;rw [<-e2,Zc0 tok.nd ht hi] at e;exact e.symm
  refine WSs.step (Zx (Zj (r:=Zbd K) (Zb4 hr) (pv 4) (Zv (K:=K) rfl (pv 2) Zd) (by with_unfolding_all rfl)) Zq Zp) (exR rfl (exR rfl (.inl ⟨sl,_,0,_,rfl,rfl,SqL.of t4.l.obj,Yh (j:=0) rfl,.inr (.inl ⟨la.d0,_,rfl,Wc.k (k:=Z1 nm) t4.l.trd,_,rfl,Yn (fun z=>?_) (fun z=>?_)⟩)⟩)))
  ·have i5:nm∉ts.map Prod.fst:=fun hm=>absurd (U1 hm z) (by decide)
   have h3:ts.length<=3:=by
    have:=Zrh (l:=nm ::ts.map Prod.fst) (m:=W4) (List.nodup_cons.mpr ⟨i5,tok.nd⟩) fun a ha=>by
     rcases List.mem_cons.mp ha with rfl|ha
     ·exact hm4
     ·obtain ⟨d,hd,rfl⟩:=List.mem_map.mp ha;exact (tok.ok d hd).1
    rw [List.length_cons,List.length_map] at this;have h4:W4.length=4:=rfl;lia
   exact WSs.last (Zo (Ye (Zn1 T) hr T.fZ (Zb (pv 0) (Zb (pv 1) (Zb (pv 2) (Zb (pv 4) (Zb (Zu Ys (pv 3) Zd) Za))))))) (exR rfl (exR rfl (exR rfl (exR rfl (exR rfl (exQ rfl rfl ⟨⟨by decide,by decide⟩,H0,Z,x,tr,yd,sl,ad,la,ts,lw,ll,ms,ps,js,sg,gs,nm,_,rfl,t4,g,tok,li,hms,hm4,i5,h3,fun Z' x5 la' i8 j7 H' dd=>q _ _ _ _ _ _ _ _ dd⟩))))))
  obtain ⟨i,d,hd,rfl⟩:∃(i:Nat) (d:TrD),ts[i]? =some d/\d.1=nm:=by
   have hm:nm∈ts.map Prod.fst:=Classical.byContradiction fun hm=>z (by
    have:=Zl8 (Paired.length t4.l.recs) hm;show (!(Yy (trK la.ts ts) (Z1 nm)).isSome)=true;rw [this];rfl)
   obtain ⟨d,hd,e2⟩:=List.mem_map.mp hm;obtain ⟨i,hi⟩:=List.mem_iff_getElem?.mp hd;exact ⟨i,d,hi,e2⟩
  clear U1 z U3;obtain ⟨y0,y1,y2,y3,y4,y5⟩:=tok.ok d (List.mem_of_getElem? hd);refine WSs.step (Zx (Zj (r:=Y7 K) (Xc hr) (pv 5) Zd (Zr _)) Zq Zp) (exR rfl (.inl ⟨rfl,_,rfl,Yn (fun z=>?_) (fun z4=>?_)⟩))
  ·obtain ⟨kd,E6⟩:∃kd:Str->Str,∀p∈d.2.2,((kd p.1,p.1):Zc)∈ps:=by
    classical
    refine ⟨fun n=>if h:∃k,((k,n):Zc)∈ps then Classical.choose h else "",fun p hp=>?_⟩;have h:=(y5 p hp).1;show ((if h:∃k,((k,p.1):Zc)∈ps then Classical.choose h else "",p.1):Zc)∈ps;rw [dif_pos h];exact Classical.choose_spec h
   refine WSs.step (Yi (Ye (Zl5 T) hr T.eM (Zb (pv 1) (Zb (pv 2) (Zb (pv 4) Za))))) (exR rfl (exR rfl (exR rfl ⟨H0,Z,yd,sl,la,(ts,ll,ms),ps,js,sg,i,d,kd,rfl,t4.l,t4.w.same,g.yd,yv,by show ts.length<64;lia,tok.nd,hd,by lia,E6,li.li,fun H2 rs o2 L5=>?_⟩)));have L5:LAt H2 Z sl ⟨la.d0,la.d1,la.m,rs⟩ ((Zfm (ts,ll,ms) i d kd).1,ll,ms):=L5;have i3:=t4.w.offL t4.l L5 o2 t4.ap;refine WSs.last (Zo (W0 Zlg (Y0 (pv 0) T.ac T.eW (Zli T) hr.m T.bo.b .nil Z7 (Zb (pv 4) Za)) Zlq (Zr _))) (exR rfl ⟨x,ad.dx,_,rfl,i3.obj,rfl,_,rfl,H0,Z,x,tr,ad,(ts,lw,ms),ps,js,sg,i,d,kd,rfl,i3,g.tr,yv,by show ts.length<64;lia,tok.nd,hd,by lia,E6,fun H3 o3 k8=>?_⟩);rw [Zrs ts ms i d kd li.le] at k8;exact ⟨rfl,q _ _ _ _ _ _ _ _ (Zha.of (la':=⟨la.d0,la.d1,la.m,rs⟩) t4 (fun _ z=>z) o2 i3 L5 (fun _ z=>z) (fun _ z=>.inl z) (fun _ z=>.inl z) o3 k8 (Ztv kd tok hd) li (.inl rfl))⟩
  let I35:=fun (σ:St) (H':Hp)=>σ=[some (.ref x),some (.ref yd),some (.ref sl),some (.int cell),some (.str d.1),some (.int (cell%8)),none,none]/\H'=H1
  refine WSs.cut I35 ?_ ?_
  ·refine WS.of (Zx (PW.pt (Zdk (Zj (r:=Y7 K) (Xc hr) (pv 5) Zd (Zr _)) (Zbe (Zj (r:=Y7 K) (Xc hr) (Zu Yu (Zu Ys (pv 3) Zd) Zd) Zd (Zr _))))) Zq Zp) (exR rfl (.inl ⟨rfl,_,rfl,Yn (fun z=>?_) (fun _=>⟨rfl,rfl⟩)⟩));refine (exR rfl (exQ rfl rfl ⟨⟨by decide,by decide⟩,_,_,rfl,rfl,(by show (0:Int)<3;decide),.inl ⟨rfl,_,rfl,Yn (fun _=>?_) (fun _=>⟨rfl,rfl⟩)⟩⟩));obtain ⟨t,C3,_⟩:=Paired.getL t4.l.recs hd;have L5:=t4.l.leave tok.nd hd;have o2:Off (Zay la) H1 (upd H1 la.d0 (.dK (Zfd (trK la.ts ts) (Z1 d.1)))):=Off.upd (.inl rfl);have i3:=t4.w.offL t4.l L5 o2 t4.ap;refine WSs.step (Yi (Zp9 (Zv (K:=K) rfl (pv 2) Zd) (pv 4) ⟨rfl,rfl,rfl,rfl⟩)) (exR rfl (.inl ⟨sl,_,0,_,rfl,rfl,SqL.of t4.l.obj,Yh (j:=0) rfl,la.d0,rfl,.inl ⟨_,.inl t4.l.trd⟩,_,rfl,_,Z1 d.1,.ref t,t4.l.trd,rfl,Zc0 tok.nd C3 hd,?_⟩));refine WSs.last (Zo (W0 Zlg (Y0 (pv 0) T.ac T.eY (Zla T) hr.m T.bq.b .nil Z7 (Zb (pv 4) Za)) Zlq (Zr _))) (exR rfl ⟨x,ad.dx,_,rfl,i3.obj,rfl,_,rfl,H0,Z,x,tr,ad,(ts,lw,ms),i,d,rfl,i3,by show ts.length<64;lia,tok.nd,hd,fun H3 o3 k8=>?_⟩);refine ⟨rfl,q _ _ _ _ _ _ _ _ (Zha.of (la':=⟨la.d0,la.d1,la.m,la.ts.eraseIdx i⟩) t4 (fun _ z=>z) o2 i3 L5 (fun _ z=>z) (fun _ z=>.inl z) (fun b y=>.inl ?_) o3 k8 (tok.erase i) li (.inl rfl))⟩;rcases y with y|y|y|y
   ·exact .inl y
   ·exact .inr (.inl y)
   ·exact .inr (.inr (.inl y))
   ·exact .inr (.inr (.inr (List.mem_of_mem_eraseIdx y)))
  rintro σ H2 ⟨rfl,rfl⟩;refine WSs.step (Zy (i:=7) Zap.nd (W0 Znw (Zu Yu (Zu Ys (pv 3) Zd) Zd) Zd (Zr _))) (exR rfl (exQ rfl rfl ⟨⟨by decide,by decide⟩,_,_,rfl,rfl,(by show (0:Int)<5;decide),_,_,rfl,rfl,?_⟩));show WSs _ _ _ [some (.ref x),some (.ref yd),some (.ref sl),some (.int cell),some (.str d.1),some (.int (cell%8)),none,some (.bl (decide ((0:Int)<cell / 32%5)))] H2;generalize decide ((0:Int)<cell / 32%5)=sh;obtain ⟨S4,⟨nm,e⟩,E1⟩:∃S4 p,d.2.2=S4++[p]:=⟨_,_,(List.dropLast_concat_getLast y3).symm⟩
  obtain ⟨⟨k,hk⟩,_⟩:=y5 (nm,e) (by rw [E1];simp);have hz:=tok.stood;let I36:=fun (σ:St) (H':Hp)=>∃(wd:Str) (du:List Str) (i8:List TrD) (j7:List Zc) (rs:List Addr),σ=[some (.ref x),some (.ref yd),some (.ref sl),some (.int cell),some (.str d.1),some (.int (cell%8)),some (.str wd),some (.bl sh)]/\Zex (fun _=>sh) ts ll ms ps js sg i d nm (Xs k e (Yl ll nm)) wd du i8 j7/\LAt H' Z sl ⟨la.d0,la.d1,la.m,rs⟩ (i8,ll,j7)/\Off (Zay la) H2 H'
  refine WSs.cut I36 ?_ ?_
  ·refine WS.of (Zy (i:=6) Zap.nd (Zu0 (Zo3 T) hr.m (fun _=>rfl) rfl T.fY T.bB.F.kp T.bB.b (Zb (pv 1) (Zb (pv 2) (Zb (pv 4) (Zb (Zuz (Pt:=T.bC) rfl hL) Za)))))) (exR rfl (exR rfl (exR rfl ⟨_,(g.tabs.mono t4.w.same)._law_deed,List.mem_cons_self,fun fl H3 s3 n3 cl=>fun H4 s4 cs=>⟨H0,Z,yd,sl,fl,la,(ts,ll,ms),ps,js,sg,i,d,k,nm,e,S4,_,fun _=>sh,rfl,t4.l.mono (s3.trans s4),t4.w.same.trans (s3.trans s4),g.yd,yv,by lia,hz,by show ms.length<=400;lia,by show ts.length<64;lia,tok.nd,hd,y1,by lia,E1,hk,li.li,Zpc (cl.mono s4) (cs 7 "_law_shown" (.bl sh) _ rfl rfl rfl rfl).2 (fun _ _ _ _=>rfl) rfl rfl (by trivial) (by trivial) rfl rfl rfl,fun s Ha Hb r hla sm=>⟨hla.mono r,sm.trans r,fun t xs z=>r.at z⟩,Zym (t4.l.mono (s3.trans s4)) fun wd du i8 j7 H5 rs gr hl5 o5=>fun H6 s6 r6 soft=>?_⟩⟩)));refine ⟨wd,du,i8,j7,rs,rfl,gr,hl5.soft soft fun b zb=>?_,fun b u n z=>r6 b u u (s3.at z) (o5 b u n ((s3.trans s4).at z))⟩;obtain ⟨u,hu⟩:=t4.l.live b zb;obtain ⟨o,ho⟩:=hl5.live b zb;exact ⟨o,r6 b u o (s3.at hu) ho⟩
  rintro σ H6 ⟨wd,du,i8,j7,rs,rfl,gr,hl6,o6⟩;have A7:=t4.w.offL t4.l hl6 o6 t4.ap;obtain ⟨tok',ml'⟩:=gr.ok yv tok hd;rw [li.le] at gr;refine WSs.last (Zo (W0 (r:=Y7 K) (Xc hr) (Zv7 (pv 0) T.ac T.gt (Zqm T) hr.m (fun _=>rfl) T.cp.b (Zb (pv 4) (Zb (Zuz (Pt:=T.bC) rfl hL) Za))) (pv 6) (Zr _))) (exR rfl ⟨x,ad.dx,_,rfl,A7.obj,rfl,_,rfl,_,(g.tabs.mono A7.same)._law_deed,List.mem_cons_of_mem _ List.mem_cons_self,fun fl H7 s7 n7 cl=>fun H8 s8 cs=>⟨H0,Z,x,tr,fl,ad,(ts,lw,ms),ps,js,sg,i,d,k,nm,e,S4,_,fun _=>sh,rfl,A7.mono (s7.trans s8),g.tr,yv,hz,by show ms.length<=400;lia,by show ts.length<64;lia,tok.nd,hd,y1,by lia,E1,hk,Zpc (cl.mono s8) (cs 7 "_law_shown" (.bl sh) _ rfl rfl rfl rfl).2 (fun _ _ _ _=>rfl) rfl rfl (by trivial) (by trivial) rfl rfl rfl,fun s Ha Hb r hwa=>⟨hwa.mono r,fun t p z=>r.at z⟩,Zzj (A7.mono (s7.trans s8)) fun wd2 du2 A9 ms2 H9 gr2 hw9 o9=>fun HA sA r6 soft=>(exR rfl (.inl ⟨rfl,?_⟩))⟩⟩);obtain ⟨rfl,rfl,rfl,rfl⟩:=gr.uniq yv li.le gr2;rw [decide_eq_true rfl];have oA:Off (We ad) H6 HA:=fun b u n z=>r6 b u u (s7.at z) (o9 b u n ((s7.trans s8).at z))
  have hwA:WAt T H0 HA Z x tr ad (i8,lw,j7):=hw9.soft soft (fun b o z=>r6 b o o (s7.at (A7.same.at z)) (hw9.same.at z)) fun b zb=>by
   obtain ⟨u,hu⟩:=A7.live b zb;obtain ⟨o,ho⟩:=hw9.live b zb;exact ⟨o,r6 b u o (s7.at hu) ho⟩
  exact q _ _ _ _ _ _ _ _ (Zha.of (la':=⟨la.d0,la.d1,la.m,rs⟩) t4 (fun _ z=>z) o6 A7 hl6 (fun _ z=>z) (fun _ z=>.inl z) (fun _ z=>.inl z) oA hwA tok' li ml')
def Yb(n k:Nat)(d:PyData):Prop:=d.showable=true/\d.leavesShort 8=true/\d.depth<=k/\d.weight<=n
theorem Yb.shown(h:Yb n k d)(hn:n<=100000):d.shown.length<=sizeLine:=by
 have:=PyData.shown_le 8 (by decide) d h.2.1;have:=h.2.2.2;have e:sizeLine=16777216:=rfl;lia
theorem Yb.str(hx:x.cps.toList.all anC=true)(hl:x.length<=6):Yb 6 0 (.str x):=by
 refine ⟨by simp [PyData.showable],?_,by simp [PyData.depth],by simp only [PyData.weight];exact hl⟩;simp only [PyData.leavesShort,List.all_eq_true,decide_eq_true_eq];exact fun c hc=>Nat.lt_trans (Zy3 (List.all_eq_true.mp hx c hc)) (by decide)
theorem Yb.bool(b:Bool):Yb 6 0 (.bool b):=⟨by simp [PyData.showable],by simp [PyData.leavesShort],by simp [PyData.depth],by simp [PyData.weight]⟩
theorem Yb.all:∀{ds:List PyData},(∀d∈ds,Yb n k d)->PyData.showableAll ds=true/\PyData.leavesShortAll 8 ds=true/\PyData.depthAll ds<=k/\PyData.weightAll ds<=(n+1) * ds.length
 | [],_=>⟨by simp [PyData.showableAll],by simp [PyData.leavesShortAll],by simp [PyData.depthAll],by simp [PyData.weightAll]⟩
 | d ::ds,h=>by
  obtain ⟨a1,a2,a3,a4⟩:=h d List.mem_cons_self;obtain ⟨b1,b2,b3,b4⟩:=Yb.all fun c hc=>h c (List.mem_cons_of_mem _ hc)
  refine ⟨by simp [PyData.showableAll,a1,b1],by simp [PyData.leavesShortAll,a2,b2],by simp only [PyData.depthAll];lia,?_⟩;simp only [PyData.weightAll,List.length_cons,Nat.mul_add];lia
theorem Yb.kv:∀{ds:List (PyData×PyData)},(∀d∈ds,Yb n k d.1/\Yb n k d.2)->PyData.showableKv ds=true/\PyData.leavesShortKv 8 ds=true/\PyData.depthKv ds<=k/\PyData.weightKv ds<=(2 * n+2) * ds.length
 | [],_=>⟨by simp [PyData.showableKv],by simp [PyData.leavesShortKv],by simp [PyData.depthKv],by simp [PyData.weightKv]⟩
 | (x,y) ::ds,h=>by
  obtain ⟨⟨a1,a2,a3,a4⟩,c1,c2,c3,c4⟩:=h (x,y) List.mem_cons_self;obtain ⟨b1,b2,b3,b4⟩:=Yb.kv fun c hc=>h c (List.mem_cons_of_mem _ hc)
  refine ⟨by simp [PyData.showableKv,show x.showable=true from a1,show y.showable=true from c1,b1],by simp [PyData.leavesShortKv,show x.leavesShort 8=true from a2,show y.leavesShort 8=true from c2,b2],by simp only [PyData.depthKv];exact Nat.max_le.mpr ⟨Nat.max_le.mpr ⟨a3,c3⟩,b3⟩,?_⟩;simp only [PyData.weightKv,List.length_cons,Nat.mul_add];have a4:x.weight<=n:=a4;have c4:y.weight<=n:=c4;lia
theorem Yb.list(h:∀d∈ds,Yb n k d)(hm:ds.length<=m):Yb ((n+1) * m) (k+1) (.list ds):=by
 obtain ⟨b1,b2,b3,b4⟩:=Yb.all h;exact ⟨by simp only [PyData.showable];exact b1,by simp only [PyData.leavesShort];exact b2,by simp only [PyData.depth];lia,by simp only [PyData.weight];exact Nat.le_trans b4 (Nat.mul_le_mul_left _ hm)⟩
theorem Yb.tuple(h:∀d∈ds,Yb n k d)(hm:ds.length<=m):Yb ((n+1) * m) (k+1) (.tuple ds):=by
 obtain ⟨b1,b2,b3,b4⟩:=Yb.all h;exact ⟨by simp only [PyData.showable];exact b1,by simp only [PyData.leavesShort];exact b2,by simp only [PyData.depth];lia,by simp only [PyData.weight];exact Nat.le_trans b4 (Nat.mul_le_mul_left _ hm)⟩
theorem Yb.dict(h:∀d∈ds,Yb n k d.1/\Yb n k d.2)(hm:ds.length<=m):Yb ((2 * n+2) * m) (k+1) (.dict ds):=by
 obtain ⟨b1,b2,b3,b4⟩:=Yb.kv h;exact ⟨by simp only [PyData.showable];exact b1,by simp only [PyData.leavesShort];exact b2,by simp only [PyData.depth];lia,by simp only [PyData.weight];exact Nat.le_trans b4 (Nat.mul_le_mul_left _ hm)⟩
theorem Yb.up(h:Yb n k d)(hn:n<=m)(hk:k<=j):Yb m j d:=⟨h.1,h.2.1,Nat.le_trans h.2.2.1 hk,Nat.le_trans h.2.2.2 hn⟩
def dE(p:Zc):PyData:=.tuple [.str p.1,.str p.2]
def TD(H:Hp)(l:Addr)(ds:List TrD)(pn:List Str)(lw:List (Str×Str))(ms:List Zc):Nat->Prop
 | 0=>H l=some (.lst ((ds.map Prod.fst).map V.str))
 | 1=>∃ls:List Addr,H l=some (.lst (ls.map V.ref))/\Paired (fun a (d:TrD)=>Zl H a d.2.2) ls ds
 | 2=>H l=some (.dK (pn.map fun n=>(Z1 n,V.bl (decide (n∈stood ds)))))
 | 3=>H l=some (.dK (Xw lw))
 | _=>Zl H l ms
def DD(ds:List TrD)(pn:List Str)(lw:List (Str×Str))(ms:List Zc):Nat->PyData
 | 0=>.list (ds.map fun d=>.str d.1)
 | 1=>.list (ds.map fun d=>.list (d.2.2.map dE))
 | 2=>.dict (pn.map fun n=>(.str n,.bool (decide (n∈stood ds))))
 | 3=>.dict (lw.map fun p=>(.str p.1,.str p.2))
 | _=>.list (ms.map dE)
theorem TD.mono(e:Same H H'):∀{j:Nat},TD H l ds pn lw ms j->TD H' l ds pn lw ms j
 | 0,h=>e.at h
 | 1,⟨ls,h1,h2⟩=>⟨ls,e.at h1,Paired.mapP h2 fun _ _ r=>r.mono e⟩
 | 2,h=>e.at h
 | 3,h=>e.at h
 | _+4,h=>Zl.mono e h
theorem Zqg:∀(ss:List Str),Rps H (ss.map PyData.str) (ss.map V.str)
 | []=>.nil
 | x ::r=>.cons (.str x) (Zqg r)
theorem Zqo(h:Zl H l ps):Rp H (.list (ps.map dE)) (.ref l):=by
 obtain ⟨ts,h1,h2⟩:=h;refine .lst h1 ?_;clear h1
 induction h2 with
 | nil=>exact .nil
 | cons r _ ih=>exact .cons (.tup r (.cons (.str _) (.cons (.str _) .nil))) ih
theorem Zsa{α:Type}{xs:List α}{k:α->Str}{v:α->V}{d:α->PyData}(h:H l=some (.dK (xs.map fun x=>(Z1 (k x),v x))))(hv:∀x,Rp H (d x) (v x)):Rp H (.dict (xs.map fun x=>(.str (k x),d x))) (.ref l):=by
 have h1:Rps H (xs.map d) ((xs.map fun x=>(Z1 (k x),v x)).map Prod.snd):=by
  clear h
  induction xs with
  | nil=>exact .nil
  | cons x r ih=>exact .cons (hv x) ih
 have:=Rp.dk h h1;have e:((xs.map fun x=>(Z1 (k x),v x)).map fun p=>kD p.1).zip (xs.map d)=xs.map fun x=>((.str (k x),d x):PyData×PyData):=by
  clear h h1 this
  induction xs with
  | nil=>rfl
  | cons x r ih =>
   rw [List.map_cons,List.map_cons,List.map_cons,List.map_cons,List.zip_cons_cons,ih]
   rfl
 rw [e] at this;exact this
theorem TD.rp    :∀{j:Nat},TD H l ds pn lw ms j->Rp H (DD ds pn lw ms j) (.ref l)
 | 0,h=>by
  refine .lst h ?_;have:=Zqg (H:=H) (ds.map Prod.fst);rw [List.map_map] at this;exact this
 | 1,⟨ls,h1,h2⟩=>by
  refine .lst h1 ?_;clear h1
  induction h2 with
  | nil=>exact .nil
  | cons r _ ih=>exact .cons (Zqo r) ih
 | 2,h=>Zsa (k:=id) h fun _=>.bl _
 | 3,h=>Zsa (k:=Prod.fst) h fun _=>.str _
 | _+4,h=>Zqo h
structure Zmj(ps:List Zc)(ds:List TrD)(pn:List Str)(lw:List (Str×Str))(ms:List Zc):Prop where
 pp:pn.Perm (ps.map Prod.snd)
 so:PyProof.Rows.sortedS pn=true
 sd:PyProof.Rows.sortedS (ds.map Prod.fst)=true
 dl:ds.length<=4
 dn:(ds.map Prod.fst).Nodup
 dk:∀d∈ds,W9 d.1/\d.2.2.length<=4/\∀p∈d.2.2,p.1∈ps.map Prod.snd/\p.2∈enB
 lk:∀p∈lw,p.1∈ps.map Prod.snd/\(p.2 = "left" \/p.2 = "right")
 ll:lw.length<=40
 mw:∀m∈ms,(m.1 = "crash" \/m.1 = "off" \/m.1 = "split")/\m.2∈ps.map Prod.snd
 ml:ms.length<=300
theorem Zpx(h1:Yb 6 0 (.str p.1))(h2:Yb 6 0 (.str p.2)):Yb 14 1 (dE p):=Yb.tuple (n:=6) (k:=0) (m:=2) (ds:=[.str p.1,.str p.2]) (fun d hd=>by
 rcases List.mem_cons.mp hd with rfl|hd
 ·exact h1
 ·rw [List.mem_singleton.mp hd];exact h2) (Nat.le_refl 2)
theorem Ztu(h:e∈enB):Yb 6 0 (.str e):=by
 unfold enB at h;simp only [List.mem_cons,List.not_mem_nil,or_false] at h;rcases h with rfl|rfl|rfl|rfl|rfl|rfl|rfl|rfl <;>exact .str (by trivial) (by decide)
theorem Zmj.short(yv:Y4 ps js sg)(h:Zmj ps ds pn lw ms):∀j:Nat,Yb 5000 3 (DD ds pn lw ms j):=by
 have nm:∀{n:Str},W9 n->Yb 6 0 (.str n):=fun z=>.str z.2.2.2 z.2.1
 have pm:∀{n:Str},n∈ps.map Prod.snd->Yb 6 0 (.str n):=fun z=>by
  obtain ⟨p,hp,rfl⟩:=List.mem_map.mp z;exact nm (yv.name p hp)
 have yl:=yv.len;intro j
 match j with
 | 0 =>
  refine (Yb.list (n:=6) (k:=0) (m:=4) (ds:=ds.map fun d=>.str d.1) (fun d hd=>?_) (by rw [List.length_map];exact h.dl)).up (m:=5000) (j:=3) (by decide) (by decide);obtain ⟨t,ht,rfl⟩:=List.mem_map.mp hd;exact nm (h.dk t ht).1
 | 1 =>
  refine (Yb.list (n:=60) (k:=2) (m:=4) (ds:=ds.map fun d=>.list (d.2.2.map dE)) (fun d hd=>?_) (by rw [List.length_map];exact h.dl)).up (m:=5000) (j:=3) (by decide) (by decide);obtain ⟨t,ht,rfl⟩:=List.mem_map.mp hd;refine Yb.list (n:=14) (m:=4) (fun d hd=>?_) (by rw [List.length_map];exact (h.dk t ht).2.1);obtain ⟨p,hp,rfl⟩:=List.mem_map.mp hd;exact Zpx (pm ((h.dk t ht).2.2 p hp).1) (Ztu ((h.dk t ht).2.2 p hp).2)
 | 2 =>
  refine (Yb.dict (n:=6) (k:=0) (m:=40) (ds:=pn.map fun n=>(.str n,.bool (decide (n∈stood ds)))) (fun d hd=>?_) (by rw [List.length_map,h.pp.length_eq,List.length_map];exact yl)).up (m:=5000) (j:=3) (by decide) (by decide);obtain ⟨n,hn,rfl⟩:=List.mem_map.mp hd;exact ⟨pm (h.pp.mem_iff.mp hn),.bool _⟩
 | 3 =>
  refine (Yb.dict (n:=6) (k:=0) (m:=40) (ds:=lw.map fun p=>(.str p.1,.str p.2)) (fun d hd=>?_) (by rw [List.length_map];exact h.ll)).up (m:=5000) (j:=3) (by decide) (by decide);obtain ⟨n,hn,rfl⟩:=List.mem_map.mp hd;refine ⟨pm (h.lk n hn).1,?_⟩;rcases (h.lk n hn).2 with z|z <;>(rw [z];exact .str (by trivial) (by decide))
 | j+4 =>
  refine (Yb.list (n:=14) (k:=1) (m:=300) (ds:=ms.map dE) (fun d hd=>?_) (by rw [List.length_map];exact h.ml)).up (m:=5000) (j:=3) (by decide) (by decide);obtain ⟨p,hp,rfl⟩:=List.mem_map.mp hd;refine Zpx ?_ (pm (h.mw p hp).2);rcases (h.mw p hp).1 with z|z|z <;>(rw [z];exact .str (by trivial) (by decide))
theorem Zsy(h:a.Perm b):∀ts:List TrD,ts.map Prod.fst=b->∃ds:List TrD,ds.Perm ts/\ds.map Prod.fst=a:=by
 induction h with
 | nil=>intro ts e;cases ts with
  | nil=>exact ⟨[],.nil,rfl⟩
  | cons=>cases e
 | cons x _ ih=>intro ts e;cases ts with
  | nil=>cases e
  | cons t r =>
   obtain ⟨h1,h2⟩:=List.cons.inj e;obtain ⟨ds,p,q⟩:=ih r h2;exact ⟨t ::ds,p.cons t,by rw [List.map_cons,q,h1]⟩
 | swap x y l=>intro ts e;cases ts with
  | nil=>cases e
  | cons t r=>cases r with
   | nil=>cases (List.cons.inj e).2
   | cons u r =>
    obtain ⟨h1,h2⟩:=List.cons.inj e;obtain ⟨h3,h4⟩:=List.cons.inj h2;exact ⟨u ::t ::r,List.Perm.swap _ _ _,by rw [List.map_cons,List.map_cons,h1,h3,h4]⟩
 | trans _ _ ih1 ih2 =>
  intro ts e;obtain ⟨d1,p1,q1⟩:=ih2 ts e;obtain ⟨d2,p2,q2⟩:=ih1 d1 q1;exact ⟨d2,p2.trans p1,q2⟩
theorem Zk7(h:a.Perm b)(n:Str):n∈stood a↔n∈stood b:=by
 unfold stood;rw [List.mem_flatMap,List.mem_flatMap];exact ⟨fun ⟨d,h1,h2⟩=>⟨d,h.mem_iff.mp h1,h2⟩,fun ⟨d,h1,h2⟩=>⟨d,h.mem_iff.mpr h1,h2⟩⟩
theorem Zy4{α β:Type}{R S:α->β->Prop}{as:List α}{bs:List β}(h:Paired R as bs)(m:∀a b,a∈as->R a b->S a b):Paired S as bs:=by
 induction h with
 | nil=>exact .nil
 | cons r _ ih=>exact .cons (m _ _ List.mem_cons_self r) (ih fun a b h=>m a b (List.mem_cons_of_mem _ h))
def TDn(H H':Hp)(l:Addr)(ds:List TrD)(pn:List Str)(lw:List (Str×Str))(ms:List Zc)(j:Nat):Prop:=TD H' l ds pn lw ms j/\(j=1->∀ls:List Addr,H' l=some (.lst (ls.map V.ref))->∀a∈ls,H a=none/\a≠l)
structure Zhm(T:Tx K mg)(H0 H:Hp)(F:Addr->Prop)(x tr:Addr)(ad:WAd)(ts:List TrD)(lw:List (Str×Str))(ms ps:List Zc)(js:List (Zc×Zc))(sg:List (Str×Str×Str))(ds:List TrD)(pn:List Str):Prop where
 w:WAt T H0 H F x tr ad (ts,lw,ms)
 t:Yf T H0 tr ps js sg
 yv:Y4 ps js sg
 ok:Zac ps ts
 dp:ds.Perm ts
 ds:PyProof.Rows.sortedS (ds.map Prod.fst)=true
 pp:pn.Perm (ps.map Prod.snd)
 so:PyProof.Rows.sortedS pn=true
theorem Zhm.mono{T:Tx K mg}{H0 H H':Hp}{F:Addr->Prop}{x tr:Addr}{ad:WAd}{ts ds:List TrD}{lw:List (Str×Str)}{ms ps:List Zc}{js:List (Zc×Zc)}{sg:List (Str×Str×Str)}{pn:List Str}(s:Same H H')(h:Zhm T H0 H F x tr ad ts lw ms ps js sg ds pn):Zhm T H0 H' F x tr ad ts lw ms ps js sg ds pn:=⟨h.w.mono s,h.t,h.yv,h.ok,h.dp,h.ds,h.pp,h.so⟩
theorem Zhm.trs{T:Tx K mg}{H0 H:Hp}{F:Addr->Prop}{x tr:Addr}{ad:WAd}{ts ds:List TrD}{lw:List (Str×Str)}{ms ps:List Zc}{js:List (Zc×Zc)}{sg:List (Str×Str×Str)}{pn ss:List Str}(h:Zhm T H0 H F x tr ad ts lw ms ps js sg ds pn)(hp:ss.Perm (ts.map Prod.fst))(hs:PyProof.Rows.sortedS ss=true):ss=ds.map Prod.fst:=Zer hs h.ds (hp.trans (h.dp.map _).symm)
theorem Zhm.tok{T:Tx K mg}{H0 H:Hp}{F:Addr->Prop}{x tr:Addr}{ad:WAd}{ts ds:List TrD}{lw:List (Str×Str)}{ms ps:List Zc}{js:List (Zc×Zc)}{sg:List (Str×Str×Str)}{pn ss:List Str}{kvs:List (Key×V)}(h:Zhm T H0 H F x tr ad ts lw ms ps js sg ds pn)(hp:ss.Perm (ps.map Prod.snd))(hs:PyProof.Rows.sortedS ss=true)(ht:Zo6 ss (stood ts) kvs):kvs=pn.map fun n=>(Z1 n,V.bl (decide (n∈stood ds))):=by
 rw [ht.2.2 fun n hn=>hp.mem_iff.mpr (h.ok.stoodIn hn),Zer hs h.so (hp.trans h.pp.symm)];refine List.map_congr_left fun n _=>?_
 rw [decide_eq_decide.mpr (Zk7 h.dp n)]
def Zxs:Sp:=fun vs H Q _=>∃(H0:Hp) (F:Addr->Prop) (x tr:Addr) (ad:WAd) (ts:List TrD) (lw:List (Str×Str)) (ms ps:List Zc) (js:List (Zc×Zc)) (sg:List (Str×Str×Str)) (ds:List TrD) (pn:List Str) (j:Nat),vs=[.ref x,.int (j:Int)]/\Zhm T H0 H F x tr ad ts lw ms ps js sg ds pn/\j<5/\∀l H',Same H H'->H l=none->TDn H H' l ds pn lw ms j->Q (.ref l) H'
theorem Zhf:Z2 P w K mg base CX0 4 T.cG.f T.cG.fd ["_law_world", "_law_at"] (Zxs T):=by
 refine T.cG.F.okW Zor fun a9 A outer s H vs Q E hr h=>?_
 ·obtain ⟨H0,F,x,tr,ad,ts,lw,ms,ps,js,sg,ds,pn,j,rfl,ht,hj,q⟩:=h;intro X;have hw:=ht.w;have tl:=ht.ok.len;have hl:(ts,lw,ms).1.length<64:=by show ts.length<64;lia
  rcases (by lia:j=0\/j=1\/j=2\/j=3\/j=4) with rfl|rfl|rfl|rfl|rfl
  ·refine WSs.step (Zx (Zj (r:=Y7 K) (Xc hr) (pv 1) Zd (Zr _)) Zq Zp) (exR rfl (.inl ⟨rfl,_,rfl,Ze3 ?_⟩));refine WSs.last (Zo (Yv (pv 0) T.ac T.bd (Wf T) hr.m T.au.b .nil Z7)) (exR rfl ⟨x,ad.dx,_,rfl,hw.obj,rfl,H0,F,x,tr,ad,(ts,lw,ms),rfl,hw,hl,fun ss hp hs l H1 s1 n1 e1=>q l H1 s1 n1 ⟨?_,fun z=>absurd z (by decide)⟩⟩);rw [ht.trs hp hs] at e1;exact e1
  ·refine WSs.step (Zx (Zj (r:=Y7 K) (Xc hr) (pv 1) Zd (Zr _)) Zq Zp) (exR rfl (.inl ⟨rfl,_,rfl,W5 ?_⟩));refine WSs.step (Zx (Zj (r:=Y7 K) (Xc hr) (pv 1) Zd (Zr _)) Zq Zp) (exR rfl (.inl ⟨rfl,_,rfl,Ze3 ?_⟩));refine WSs.last (Zo (Xx (N':=["_law_name", "_law_world"]) rfl (Z6.std 1 [0] rfl (by trivial) (by trivial) rfl ⟨rfl,trivial⟩ rfl rfl ⟨(exR rfl ⟨rfl,rfl⟩),trivial⟩) (Ym (Yv (pv 0) T.ac T.bd (Wf T) hr.m T.au.b .nil Z7)) (fun _ _ _ _=>(W6 (i:=0) (by show (["_law_name", "_law_world"]:List Str).Nodup;decide +kernel))) (fun _ _ _ _=>Za6) (fun _ _ _ _=>(Y0 (pv 1) T.ac T.eX (Zl3 T) hr.m T.br.b .nil Z7 (Zb (pv 0) Za))))) (exR rfl ⟨x,ad.dx,_,rfl,hw.obj,rfl,H0,F,x,tr,ad,(ts,lw,ms),rfl,hw,hl,fun ss hp hs l H1 s1 n1 e1=>?_⟩);cases ht.trs hp hs;refine ⟨l,rfl,⟨_,SqL.of e1⟩,fun C hC=>Xj (xs:=(ds.map Prod.fst).map V.str) (fun i ys H'=>(∃ls:List Addr,ys=ls.map V.ref/\Paired (fun a (d:TrD)=>Zl H' a d.2.2) ls (ds.take i)/\∀a∈ls,H a=none/\a≠C)/\H' C=some (.lst ys)/\Same H1 H') ⟨⟨[],rfl,.nil,fun _ z=>nomatch z⟩,Zf,Same.new hC⟩ ?_ ?_ ?_⟩
   ·rintro i ys H' _ ⟨_,_,sm⟩;exact SqL.of (sm.at e1)
   ·rintro i v ys H' hi ⟨⟨ls,rfl,Q9,hf⟩,N5,sm⟩;rw [List.map_map,List.getElem?_map] at hi;obtain ⟨d,hd,rfl⟩:=Option.map_eq_some_iff.mp hi;have hm:d∈ts:=ht.dp.mem_iff.mp (List.mem_of_getElem? hd);have T8:=Paired.length Q9;have hdl:=ht.dp.length_eq;rw [List.length_take] at T8;have sH:=s1.trans sm;unfold Zam;refine ⟨Wp.set rfl,_,rfl,x,ad.dx,_,rfl,sH.at hw.obj,rfl,_,rfl,H0,F,x,tr,ad,(ts,lw,ms),d,rfl,hw.mono sH,hl,ht.ok.nd,hm,fun a H2 s2 n2 e2=>⟨s2.at N5,?_,⟨ls++[a],?_,?_,fun b hb=>?_⟩,Zf,fun b o e=>?_⟩⟩
    ·rw [List.length_map];exact Zs (by lia)
    ·rw [List.map_append];rfl
    ·rw [List.take_add_one,hd];have off:∀{b:Addr} {sp:List Zc},Zl H2 b sp->b≠C->Zl (upd H2 C (.lst (ls.map V.ref++[V.ref a]))) b sp:=fun {b sp} z y=>z.offB y (s2.at N5) (fun _ z=>nomatch z)
     refine Paired.append (Zy4 Q9 fun b c hb r=>off (r.mono s2) (hf b hb).2) (.cons (off e2 fun z=>?_) .nil);rw [z,N5] at n2;cases n2
    ·rcases List.mem_append.mp hb with z|z
     ·exact hf b z
     ·rw [List.mem_singleton.mp z];refine ⟨sH.free n2,fun z=>?_⟩;rw [z,N5] at n2;cases n2
    ·rw [Ze (Zh e hC)];exact s2.at (sm.at e)
   ·rintro ys H6 ⟨⟨ls,rfl,Q9,hf⟩,hC6,s6⟩;rw [List.length_map,List.length_map,List.take_length] at Q9;refine q C H6 (s1.trans s6) (s1.free hC) ⟨⟨ls,hC6,Q9⟩,fun _ ls' e=>?_⟩;rw [hC6] at e;have e:ls.map V.ref=ls'.map V.ref:=HO.lst.inj (Option.some.inj e);have e:ls=ls':=List.map_inj_right (fun a b z=>V.ref.inj z) |>.mp e
    rw [<-e];exact hf
  ·refine WSs.step (Zx (Zj (r:=Y7 K) (Xc hr) (pv 1) Zd (Zr _)) Zq Zp) (exR rfl (.inl ⟨rfl,_,rfl,W5 ?_⟩));refine WSs.step (Zx (Zj (r:=Y7 K) (Xc hr) (pv 1) Zd (Zr _)) Zq Zp) (exR rfl (.inl ⟨rfl,_,rfl,W5 ?_⟩));refine WSs.step (Zx (Zj (r:=Y7 K) (Xc hr) (pv 1) Zd (Zr _)) Zq Zp) (exR rfl (.inl ⟨rfl,_,rfl,Ze3 ?_⟩));refine WSs.last (Zo (Yv (pv 0) T.ac T.aR (X6 T) hr.m T.ao.b .nil Z7)) (exR rfl ⟨x,ad.dx,_,rfl,hw.obj,rfl,H0,F,x,tr,ad,(ts,lw,ms),ps,js,sg,rfl,hw,ht.t,ht.yv,ht.ok.stood,fun ss D kvs H1 O1 hs hT s1 n1 e1=>q D H1 s1 n1 ⟨?_,fun z=>absurd z (by decide)⟩⟩);rw [ht.tok O1 hs hT] at e1;exact e1
  ·refine WSs.step (Zx (Zj (r:=Y7 K) (Xc hr) (pv 1) Zd (Zr _)) Zq Zp) (exR rfl (.inl ⟨rfl,_,rfl,W5 ?_⟩));refine WSs.step (Zx (Zj (r:=Y7 K) (Xc hr) (pv 1) Zd (Zr _)) Zq Zp) (exR rfl (.inl ⟨rfl,_,rfl,W5 ?_⟩));refine WSs.step (Zx (Zj (r:=Y7 K) (Xc hr) (pv 1) Zd (Zr _)) Zq Zp) (exR rfl (.inl ⟨rfl,_,rfl,W5 ?_⟩));refine WSs.step (Zx (Zj (r:=Y7 K) (Xc hr) (pv 1) Zd (Zr _)) Zq Zp) (exR rfl (.inl ⟨rfl,_,rfl,Ze3 ?_⟩));exact WSs.last (Zo (Yv (pv 0) T.ac T.cP (Zde T) hr.m T.aO.b .nil Z7)) (exR rfl ⟨x,ad.dx,_,rfl,hw.obj,rfl,H0,F,x,tr,ad,(ts,lw,ms),rfl,hw,fun D H1 s1 n1 e1=>q D H1 s1 n1 ⟨e1,fun z=>absurd z (by decide)⟩⟩)
  ·refine WSs.step (Zx (Zj (r:=Y7 K) (Xc hr) (pv 1) Zd (Zr _)) Zq Zp) (exR rfl (.inl ⟨rfl,_,rfl,W5 ?_⟩));refine WSs.step (Zx (Zj (r:=Y7 K) (Xc hr) (pv 1) Zd (Zr _)) Zq Zp) (exR rfl (.inl ⟨rfl,_,rfl,W5 ?_⟩));refine WSs.step (Zx (Zj (r:=Y7 K) (Xc hr) (pv 1) Zd (Zr _)) Zq Zp) (exR rfl (.inl ⟨rfl,_,rfl,W5 ?_⟩));refine WSs.step (Zx (Zj (r:=Y7 K) (Xc hr) (pv 1) Zd (Zr _)) Zq Zp) (exR rfl (.inl ⟨rfl,_,rfl,W5 ?_⟩));exact WSs.last (Zo (Yv (pv 0) T.ac T.bK (W2 T) hr.m T.av.b .nil Z7)) (exR rfl ⟨x,ad.dx,_,rfl,hw.obj,rfl,H0,F,x,tr,ad,(ts,lw,ms),rfl,hw,fun l H1 s1 n1 e1=>q l H1 s1 n1 ⟨e1,fun z=>absurd z (by decide)⟩⟩)
def Yce(K:Frag):Sp:=fun vs H Q _=>∃(H0:Hp) (l:Addr) (ds:List TrD) (pn:List Str) (lw:List (Str×Str)) (ms:List Zc) (j:Nat),vs=[.ref l,.int (j:Int)]/\Same H0 H/\H0 l=none/\TDn H0 H l ds pn lw ms j/\j<5/\ds.length<=4/\(∀d∈ds,d.2.2.length<=4)/\ms.length<=300/\∀H',Same H0 H'->Q .non H'
theorem Zji:Z2 P w K mg base CX0 1 T.bH.f T.bH.fd ["_law_found", "_law_at"] (Yce K):=by
 refine T.bH.F.okW Zez fun a9 A outer s H vs Q E hr h=>?_
 ·obtain ⟨H0,l,ds,pn,lw,ms,j,rfl,s0,B9,⟨ht,hf⟩,hj,hdl,hdd,hml,q⟩:=h;intro X;have up:∀{Hx:Hp} {a:Addr} {o:HO},H0 a=none->Same H0 Hx->Same H0 (upd Hx a o):=fun {Hx a o} z s b u e=>by
   rw [Ze (Zh e z)];exact s.at e
  have cs:(∃kvs,(j=2\/j=3)/\H l=some (.dK kvs))\/∃xs,(j≠2/\j≠3)/\H l=some (.lst xs)/\xs.length<=300/\(j=1->∀v∈xs,∃a,v=.ref a/\a≠l/\H0 a=none/\∃ys,H a=some (.lst ys)/\ys.length<=4):=by
   rcases (by lia:j=0\/j=1\/j=2\/j=3\/j=4) with rfl|rfl|rfl|rfl|rfl
   ·exact .inr ⟨_,⟨by decide,by decide⟩,ht,by rw [List.length_map,List.length_map];lia,fun z=>absurd z (by decide)⟩
   ·obtain ⟨ls,h1,h2⟩:=ht;refine .inr ⟨_,⟨by decide,by decide⟩,h1,by rw [List.length_map,Paired.length h2];lia,fun _ v hv=>?_⟩;obtain ⟨a,ha,rfl⟩:=List.mem_map.mp hv;obtain ⟨f1,f2⟩:=hf rfl ls h1 a ha;obtain ⟨i,hi⟩:=List.mem_iff_getElem?.mp ha;obtain ⟨d,hd,⟨us,h3,h4⟩⟩:=Paired.get h2 hi;exact ⟨a,rfl,f2,f1,_,h3,by rw [List.length_map,Paired.length h4];exact hdd d (List.mem_of_getElem? hd)⟩
   ·exact .inl ⟨_,.inl rfl,ht⟩
   ·exact .inl ⟨_,.inr rfl,ht⟩
   ·obtain ⟨us,h1,h2⟩:=ht;exact .inr ⟨_,⟨by decide,by decide⟩,h1,by rw [List.length_map,Paired.length h2];exact hml,fun z=>absurd z (by decide)⟩
  rcases cs with ⟨kvs,hj2,e⟩|⟨xs,hn,e,hx,h1⟩
  ·rcases hj2 with rfl|rfl
   ·exact WSs.last (Zx (PW.pt (Zfc (Zj (r:=Y7 K) (Xc hr) (pv 1) Zd (Zr _)) (Zda (Zj (r:=Y7 K) (Xc hr) (pv 1) Zd (Zr _))))) Zq Zq) (exR rfl (.inl ⟨rfl,_,rfl,Ze3 (WSs.last (Yi (Zvr PySem.F.plainAttrs_dict PySem.F.slot_dict_clear PySem.F.type_dict_clear Zm2 (pv 0))) (exR rfl ⟨.inr (.inr (.inl ⟨rfl,.inl ⟨_,e⟩⟩)),l,_,rfl,rfl,e,q _ (up B9 s0)⟩))⟩))
   ·exact WSs.last (Zx (PW.pt (Zfc (Zj (r:=Y7 K) (Xc hr) (pv 1) Zd (Zr _)) (Zda (Zj (r:=Y7 K) (Xc hr) (pv 1) Zd (Zr _))))) Zq Zq) (exR rfl (.inl ⟨rfl,_,rfl,W5 (exR rfl (.inl ⟨rfl,_,rfl,Ze3 (WSs.last (Yi (Zvr PySem.F.plainAttrs_dict PySem.F.slot_dict_clear PySem.F.type_dict_clear Zm2 (pv 0))) (exR rfl ⟨.inr (.inr (.inl ⟨rfl,.inl ⟨_,e⟩⟩)),l,_,rfl,rfl,e,q _ (up B9 s0)⟩))⟩))⟩))
  ·refine WSs.last (Zx (PW.pt (Zfc (Zj (r:=Y7 K) (Xc hr) (pv 1) Zd (Zr _)) (Zda (Zj (r:=Y7 K) (Xc hr) (pv 1) Zd (Zr _))))) Zq Zq) (exR rfl (.inl ⟨rfl,_,rfl,Yn (fun z=>absurd (of_decide_eq_true z) fun z=>hn.1 (by have:=V.int.inj z;lia)) fun _=>(exR rfl (.inl ⟨rfl,_,rfl,Yn (fun z=>absurd (of_decide_eq_true z) fun z=>hn.2 (by have:=V.int.inj z;lia)) fun _=>?_⟩))⟩));let I37:=fun (i:Nat) (σ:St) (H':Hp)=>(∃o,σ=[some (.ref l),some (.int (j:Int)),o])/\H' l=some (.lst xs)/\Same H0 H'/\(j=1->∀v∈xs,∃a,v=.ref a/\a≠l/\H0 a=none/\∃ys,H' a=some (.lst ys)/\ys.length<=4+i)
   refine WSs.step (Xn PassesOwn.never rfl (Ym (pv 0)) (Yw (i:=2) Zez.nd) Zq) (exR rfl ⟨l,rfl,⟨_,SqL.of e⟩,X0 (K:=K) (xs:=xs) I37 ⟨⟨none,rfl⟩,e,s0,h1⟩ ?_ ?_ ?_⟩)
   ·rintro i σ H' _ ⟨_,e',_⟩;exact SqL.of e'
   ·rintro i v σ H' hi ⟨⟨o,rfl⟩,e',s',h'⟩;refine WSs.last (Zx (Zj (r:=Y7 K) (Xc hr) (pv 1) Zd (Zr _)) Zq Zp) (exR rfl (.inl ⟨rfl,_,rfl,Yn (fun z=>?_) (fun z=>?_)⟩))
    ·have z:j=1:=by have:=V.int.inj (of_decide_eq_true z);lia
     obtain ⟨a,rfl,ha,hn0,ys,hy,hyl⟩:=h' z v (List.mem_of_getElem? hi);have R8:i<xs.length:=(List.getElem?_eq_some_iff.mp hi).1;refine WSs.last (Yi (Zab PySem.F.plainAttrs_list PySem.F.slot_list_append PySem.F.type_list_append Yx (pv 2) (Zb (Zk (Zb Zg (Zb Zg Za))) Za))) (exR rfl ⟨.inl ⟨rfl,_,SqL.of hy⟩,szA,fun t H2 s2 n2 e2=>⟨a,_,_,rfl,rfl,s2.at hy,Zs (by lia),⟨_,rfl⟩,by rw [Ze ha.symm];exact s2.at e',up hn0 (s'.trans s2),fun _ v hv=>?_⟩⟩);obtain ⟨b,rfl,hb,hb0,zs,hz,hzl⟩:=h' z v hv;refine ⟨b,rfl,hb,hb0,?_⟩
     by_cases y:b=a
     ·subst y;rw [hy] at hz;cases hz;exact ⟨_,Zf,by rw [List.length_append];show ys.length+1<=_;lia⟩
     ·exact ⟨zs,by rw [Ze y];exact s2.at hz,by lia⟩
    ·have z:j≠1:=fun y=>z (decide_eq_true (by rw [y];rfl))
     exact ⟨⟨_,rfl⟩,e',s',fun y=>absurd y z⟩
   ·rintro σ H6 ⟨⟨o,rfl⟩,e6,s6,_⟩;exact WSs.last (Yi (Zab PySem.F.plainAttrs_list PySem.F.slot_list_append PySem.F.type_list_append Yx (pv 0) (Zb Zg Za))) (exR rfl ⟨.inl ⟨rfl,_,SqL.of e6⟩,l,_,_,rfl,rfl,e6,Zs (by lia),q _ (up B9 s6)⟩)
mutual
theorem Zgd(e:Same H H'):∀{d:PyData} {v:V},Rp H d v->Rp H' d v
 | _,_,.str x=>.str x
 | _,_,.bl b=>.bl b
 | _,_,.lst h1 h2=>.lst (e.at h1) (Zhw e h2)
 | _,_,.tup h1 h2=>.tup (e.at h1) (Zhw e h2)
 | _,_,.dk h1 h2=>.dk (e.at h1) (Zhw e h2)
theorem Zhw(e:Same H H'):∀{ds:List PyData} {vs:List V},Rps H ds vs->Rps H' ds vs
 | _,_,.nil=>.nil
 | _,_,.cons h1 h2=>.cons (Zgd e h1) (Zhw e h2)
end
open Classical in
noncomputable def hard (Z:Addr->Prop) (H:Hp):Hp:=fun b=>if Z b/\¬∃xs,H b=some (.tup xs) then none else H b
theorem Zj3{Z:Addr->Prop}(e:H b=some o)(n:¬Z b\/∃xs,o=.tup xs):hard Z H b=some o:=by
 refine (if_neg fun z=>?_).trans e;rcases n with n|⟨xs,rfl⟩
 ·exact n z.1
 ·exact z.2 ⟨xs,e⟩
theorem Zr8{Z:Addr->Prop}(e:hard Z H b=some o):H b=some o/\(¬Z b\/∃xs,o=.tup xs):=by
 unfold hard at e
 by_cases z:Z b/\¬∃xs,H b=some (.tup xs)
 ·rw [if_pos z] at e;cases e
 ·rw [if_neg z] at e;refine ⟨e,?_⟩
  by_cases y:Z b
  ·have:∃xs,H b=some (.tup xs):=Classical.byContradiction fun w=>z ⟨y,w⟩
   obtain ⟨xs,h⟩:=this;rw [e] at h;exact .inr ⟨xs,Option.some.inj h⟩
  ·exact .inl y
theorem Znu{Z:Addr->Prop}:Same (hard Z H) H:=fun _ _ e=>(Zr8 e).1
theorem Zf2{Z Z':Addr->Prop}(k:∀b o,H b=some o->(¬Z b\/∃xs,o=.tup xs)->H' b=some o)(z:∀b,Z' b->Z b\/H b=none):Same (hard Z H) (hard Z' H'):=fun b o e=>by
 obtain ⟨h1,h2⟩:=Zr8 e;refine Zj3 (k b o h1 h2) (h2.imp (fun n y=>?_) id);rcases z b y with w|w
 ·exact n w
 ·rw [h1] at w;cases w
theorem TDn.hard{Z:Addr->Prop}(h:TDn H H' l ds pn lw ms j)(hl:H l=none)(lv:∀b,Z b->∃o,H b=some o):TD (K54.hard Z H') l ds pn lw ms j:=by
 have nw:∀{b:Addr} {o:HO},H b=none->H' b=some o->K54.hard Z H' b=some o:=fun {b o} n e=>Zj3 e (.inl fun z=>by
  obtain ⟨u,e⟩:=lv b z;rw [n] at e;cases e)
 have pt:∀{b:Addr} {ps:List Zc},H b=none->Zl H' b ps->Zl (K54.hard Z H') b ps:=fun {b ps} n ⟨ts,h1,h2⟩=>⟨ts,nw n h1,Paired.mapP h2 fun _ _ r=>Zj3 r (.inr ⟨_,rfl⟩)⟩
 obtain ⟨ht,hf⟩:=h
 match j with
 | 0=>exact nw hl ht
 | 1 =>
  obtain ⟨ls,h1,h2⟩:=ht;exact ⟨ls,nw hl h1,Zy4 h2 fun a d ha r=>pt (hf rfl ls h1 a ha).1 r⟩
 | 2=>exact nw hl ht
 | 3=>exact nw hl ht
 | _+4=>exact pt hl ht
def Zhb(H:Hp)(Z:Addr->Prop)(hl:Addr)(n:Nat):Prop:=∃us:List Addr,H hl=some (.lst (us.map V.ref))/\us.length<=n/\∀u∈us,∃(l:Addr) (d:PyData),K54.hard Z H u=some (.tup [.ref l,.str d.shown])/\Rp (K54.hard Z H) d (.ref l)/\Yb 5000 3 d
theorem Zhb.mono{Z:Addr->Prop}(s:Same H H')(lv:∀b,Z b->∃o,H b=some o)(h:Zhb H Z hl n):Zhb H' Z hl n:=by
 obtain ⟨us,h1,h2,h3⟩:=h;have e:Same (hard Z H) (hard Z H'):=Zf2 (fun b o e _=>s.at e) fun b z=>.inl z
 refine ⟨us,s.at h1,h2,fun u hu=>?_⟩;obtain ⟨l,d,x1,x2,x3⟩:=h3 u hu;exact ⟨l,d,e.at x1,Zgd e x2,x3⟩
theorem Zhb.add{Z:Addr->Prop}(hz:Z hl)(h:Zhb H Z hl n)(ht:K54.hard Z H t=some (.tup [.ref l,.str d.shown]))(hd:Rp (K54.hard Z H) d (.ref l))(hs:Yb 5000 3 d):∃us:List Addr,H hl=some (.lst (us.map V.ref))/\us.length<=n/\Zhb (upd H hl (.lst (us.map V.ref++[V.ref t]))) Z hl (n+1):=by
 obtain ⟨us,h1,h2,h3⟩:=h;have e:Same (K54.hard Z H) (K54.hard Z (upd H hl (.lst (us.map V.ref++[V.ref t])))):=Zf2 (fun b o e y=>by
  rw [Ze fun z=>?_]
  ·exact e
  ·subst z;rcases y with y|⟨xs,rfl⟩
   ·exact y hz
   ·rw [h1] at e;cases e) fun b z=>.inl z
 refine ⟨us,h1,h2,us++[t],by rw [Zf,List.map_append];rfl,by rw [List.length_append];show us.length+1<=_;lia,fun u hu=>?_⟩;rcases List.mem_append.mp hu with z|z
 ·obtain ⟨l,d,x1,x2,x3⟩:=h3 u z;exact ⟨l,d,e.at x1,Zgd e x2,x3⟩
 ·rw [List.mem_singleton.mp z];exact ⟨l,d,e.at ht,Zgd e hd,hs⟩
theorem Zse{α:Type}{xs:List α}{k:α->Str}{v:α->V}{x:α}(nd:(xs.map k).Nodup)(hx:x∈xs):Yy (xs.map fun x=>(Z1 (k x),v x)) (Z1 (k x))=some (v x):=by
 induction xs with
 | nil=>cases hx
 | cons y r ih =>
  rw [List.map_cons,List.nodup_cons] at nd;rcases List.mem_cons.mp hx with rfl|hx
  ·exact Xq rfl
  ·exact (Xh (p:=(Z1 (k y),v y)) fun z=>nd.1 (by rw [Y1 _ _ z];exact List.mem_map.mpr ⟨x,hx,rfl⟩)).trans (ih nd.2 hx)
def LEq(lw ll:List (Str×Str)):Prop:=lw.length=ll.length/\∀p∈lw,Yy (Xw ll) (Z1 p.1)=some (.str p.2)
theorem Zrr(nd:(l.map Prod.fst).Nodup)(hp:p∈l):liQ l p.1=some p.2:=by
 have:=Zse (k:=Prod.fst) (v:=fun p:Str×Str=>V.str p.2) nd hp;have:=(Zgc l p.1).symm.trans this;obtain ⟨v,h1,h2⟩:=Option.map_eq_some_iff.mp this;rw [h1,V.str.inj h2]
theorem Zhd.eq{ps:List Zc}{gs:List Str}{lw ll:List (Str×Str)}(h:Zhd ps gs lw ll)(nd:(ps.map Prod.snd).Nodup)(hg:gs.Nodup) (hm:∀n,n∈gs↔(("points",n):Zc)∈ps):LEq lw ll:=by
 have hl:(ll.map Prod.fst).Nodup:=by rw [h.ll];exact Znq nd
 have hw:(lw.map Prod.fst).Nodup:=by rw [h.lw];exact hg
 have same:∀n,n∈lw.map Prod.fst↔n∈ll.map Prod.fst:=fun n=>by rw [h.lw,h.ll,hm,X3]
 refine ⟨?_,fun p hp=>?_⟩
 ·have h1:=Zrh hw fun a z=>(same a).mp z
  have h2:=Zrh hl fun a z=>(same a).mpr z
  rw [List.length_map,List.length_map] at h1 h2;lia
 ·rw [Zgc];obtain ⟨q,hq,e⟩:=List.mem_map.mp ((same p.1).mp (List.mem_map.mpr ⟨p,hp,rfl⟩));have h1:=Zrr hw hp;have h2:=Zrr hl hq;have h3:=h.le p.1;rw [e] at h2;unfold Yl at h3;rw [h1,h2] at h3;rw [h2,show q.2=p.2 from h3]
  rfl
theorem TD.ne(hp:pn.Nodup)(hl:LEq lw ll):∀{j:Nat},TD H l ds pn lw ms j->TD H v ds pn ll ms j->Q (.bl false) H->Ze7 K (.ref l) (.ref v) H Q
 | 0,h1,h2,q=>.inr (.inl ⟨1,_,_,by decide,.inr ⟨_,_,rfl,rfl⟩,Zc5 h1,Zc5 h2,by rw [if_pos rfl,decide_eq_true rfl];exact q⟩)
 | 1,⟨l1,h1,r1⟩,⟨l2,h2,r2⟩,q=>by
  have im:∀{ls:List Addr},Paired (fun a (d:TrD)=>Zl H a d.2.2) ls ds->Paired (Im K H 2) (ds.map fun d=>Tr.lst (d.2.2.map trP)) (ls.map V.ref):=fun {ls} r=>by
   clear h1 h2 r1 r2
   induction r with
   | nil=>exact .nil
   | cons r _ ih=>exact .cons (Zle r) ih
  exact .inr (.inl ⟨3,_,_,by decide,.inr ⟨_,_,rfl,rfl⟩,Im.lst (n:=2) (SqL.of h1) (im r1),Im.lst (n:=2) (SqL.of h2) (im r2),by rw [if_pos rfl,decide_eq_true rfl];exact q⟩)
 | 2,h1,h2,q=>.inr (.inr ⟨l,v,_,_,rfl,rfl,.inl h1,.inl h2,rfl,fun kv y9=>by
   obtain ⟨n,hn,rfl⟩:=List.mem_map.mp y9;exact ⟨_,Zse (k:=id) (by rw [List.map_id];exact hp) hn,.inl ⟨rfl,rfl,by simp [eqV]⟩⟩,q⟩)
 | 3,h1,h2,q=>.inr (.inr ⟨l,v,_,_,rfl,rfl,.inl h1,.inl h2,by unfold Xw;rw [List.length_map,List.length_map];exact hl.1,fun kv y9=>by
   obtain ⟨p,hp,rfl⟩:=List.mem_map.mp y9;exact ⟨_,hl.2 p hp,.inl ⟨rfl,rfl,by simp [eqV]⟩⟩,q⟩)
 | _+4,h1,h2,q=>.inr (.inl ⟨2,_,_,by decide,.inr ⟨_,_,rfl,rfl⟩,Zle h1,Zle h2,by rw [if_pos rfl,decide_eq_true rfl];exact q⟩)
theorem Zvo(h:as.length=ts.length):(trK as ts).map (fun kv=>kV kv.1)=(ts.map Prod.fst).map V.str:=by
 have:=congrArg (List.map kV) (Zh0 h);rw [List.map_map,List.map_map] at this;rw [List.map_map];exact this
def Zzz:Sp:=fun vs H Q _=>∃(H0:Hp) (Z:Addr->Prop) (x tr yd sl hl:Addr) (ad:WAd) (la:LAd) (ts:List TrD) (lw ll:List (Str×Str)) (ms ps:List Zc) (js:List (Zc×Zc)) (sg:List (Str×Str×Str)) (ds:List TrD) (pn:List Str) (cell:Int) (n:Nat),vs=[.ref x,.ref yd,.ref sl,.int cell,.ref hl]/\Zgs T H0 H Z x tr sl ad la ts lw ll ms/\Gnd T H0 tr yd ps js sg/\Zhm T H0 H Z x tr ad ts lw ms ps js sg ds pn/\Zmj ps ds pn lw ms/\LEq lw ll/\PyProof.Rows.sortedS (lw.map Prod.fst)=true/\Z hl/\¬We ad hl/\¬Zay la hl/\Zhb H Z hl n/\n<=200 /\
 ∀H',Off (fun b=>b=hl) H H'->Zhb H' Z hl (n+5)->Q (.bl true) H'
theorem Zo5(hb:∃mm,base.Ns sysModules mm):Z2 P w K mg base CX0 5 T.cH.f T.cH.fd ["_law_world", "_law_yard", "_law_state", "_law_cell", "_law_held"] (Zzz T):=by
 refine T.cH.F.okW Wd fun a9 A outer s H vs Q E hr h=>?_
 ·obtain ⟨H0,Z,x,tr,yd,sl,hl,ad,la,ts,lw,ll,ms,ps,js,sg,ds,pn,cell,n,rfl,hB,g,ht,td,le,lso,zh,nw,nl,M4,hn,q⟩:=h;intro X;obtain ⟨pl,jl,gl,y1,⟨us,y2,N4⟩,y3,y4⟩:=id g.yd;have yv:=g.yv;have yl:=yv.len;have pl40:pn.length<=40:=by rw [td.pp.length_eq,List.length_map];exact yl
  have pnd:pn.Nodup:=td.pp.nodup_iff.mpr yv.net.nd;have tl:=ht.ok.len;have hlv:=hB.l.live;refine WSs.step (Zy (i:=5) Wd.nd Zb8) fun D H1 s1 n1 e1=>?_
  refine WSs.cut (fun σ H'=>(∃o6,σ=[some (.ref x),some (.ref yd),some (.ref sl),some (.int cell),some (.ref hl),some (.ref D),o6,none,none,none,none])/\Same H H'/\H' D=some (.dK (pn.map fun n=>(Z1 n,V.bl (decide (n∈stood ds)))))) ?_ ?_
  ·have gH:=hB.w.same.trans s1;refine WS.of (Xn PassesOwn.never rfl (Ym (Zz (r:=Zwk K) Zrg (by rfl) T.cK PyProof.Rows.boot_sorted (Zb (Xx (N':=["_law_kind_here", "_law_one"]) rfl (Z6.std 2 [] rfl (by trivial) (by trivial) rfl trivial rfl rfl trivial) (Ym (Zv (K:=K) rfl (pv 1) Zd)) (fun _ _ _ _=>(Zc4 (K:=K) (n:=2) rfl rfl (Zw (W6 (i:=0) (by show (["_law_kind_here", "_law_one"]:List Str).Nodup;decide +kernel)) (Zw (W6 (i:=1) (by show (["_law_kind_here", "_law_one"]:List Str).Nodup;decide +kernel)) Xb)))) (fun _ _ _ _=>Za6) (fun _ _ _ _=>(pv 1))) Za))) (Yw (i:=6) Wd.nd) Zq) (exR rfl (ixT (gH.at y1) 0 rfl ⟨pl,rfl,⟨_,SqL.of (gH.at y2)⟩,fun C hC=>Xj (xs:=us.map V.ref) (fun i ys H'=>ys=((ps.take i).map Prod.snd).map V.str/\H' C=some (.lst ys)/\Same H1 H') ⟨rfl,Zf,Same.new hC⟩ ?_ ?_ ?_⟩))
   ·rintro i ys H' _ ⟨_,_,sm⟩;exact SqL.of ((gH.trans sm).at y2)
   ·rintro i v ys H' hi ⟨rfl,N5,sm⟩;rw [List.getElem?_map] at hi;obtain ⟨t,hti,rfl⟩:=Option.map_eq_some_iff.mp hi;obtain ⟨⟨k',n'⟩,hq,p0⟩:=Paired.get N4 hti;have p0:H0 t=some (.tup [.str k',.str n']):=p0;unfold Zam;refine ⟨t,_,rfl,SqT.of ((gH.trans sm).at p0),rfl,_,_,rfl,_,_,rfl,rfl,(Wp.set rfl).trans (Wp.set rfl),?_⟩;refine (exR rfl ⟨N5,by rw [List.length_map,List.length_map,List.length_take];exact Zs (by lia),?_,Zf,fun b o y=>?_⟩)
    ·rw [List.take_add_one,hq,List.map_append,List.map_append];rfl
    ·rw [Ze (Zh y hC)];exact sm.at y
   ·rintro ys H2 ⟨rfl,hC2,s2⟩;rw [List.length_map,Paired.length N4,List.take_length] at hC2;refine ⟨C,ps.map Prod.snd,rfl,SqL.of hC2,by rw [List.length_map];lia,fun ss hp hs l H3 s3 n3 e3=>?_⟩;cases Zer hs td.so (hp.trans td.pp.symm);have g9:=s2.trans s3;refine ⟨l,rfl,⟨_,SqL.of e3⟩,X0 (K:=K) (xs:=pn.map V.str) (fun i σ H'=>(∃o6,σ=[some (.ref x),some (.ref yd),some (.ref sl),some (.int cell),some (.ref hl),some (.ref D),o6,none,none,none,none])/\Same H H'/\H' l=some (.lst (pn.map V.str))/\H' D=some (.dK ((pn.take i).map fun n=>(Z1 n,V.bl (decide (n∈stood ds)))))) ⟨⟨none,rfl⟩,s1.trans g9,e3,g9.at e1⟩ ?_ ?_ ?_⟩
    ·rintro i σ H' _ ⟨_,_,e',_⟩;exact SqL.of e'
    ·rintro i v σ H' hi ⟨⟨o6,rfl⟩,s',e',eD'⟩;rw [List.getElem?_map] at hi;obtain ⟨m,hm,rfl⟩:=Option.map_eq_some_iff.mp hi;refine WSs.last (Wi (Y8 hr) (pv 5) (pv 6) (W0 (r:=Zjt K) (Zk5 hr) (pv 6) (Ye (Zbf T) hr T.cm (Zb (pv 2) Za)) (by with_unfolding_all rfl)) rfl) (exR rfl (exR rfl ⟨Z,sl,la,(ts,ll,ms),rfl,hB.l.mono s',ht.ok.nd,ht.ok.stood,fun lf H4 s4 n4 e4=>.inl ⟨lf,_,rfl,.inl (SqL.of e4),rfl,Wg _,_,rfl,_,rfl,D,_,rfl,Zdz.k (k:=Z1 m) (s4.at eD') ?_,⟨_,rfl⟩,fun b o e=>?_,?_,?_⟩⟩))
     ·rw [List.length_map,List.length_take];exact Zs (by lia)
     ·rw [Ze (Zh e n1)];exact s4.at (s'.at e)
     ·rw [Ze fun z=>by rw [z,eD'] at e';cases e'];exact s4.at e'
     ·have hv:Yy ((pn.take i).map fun n=>(Z1 n,V.bl (decide (n∈stood ds)))) (Z1 m)=none:=Zo8 (by
       rw [List.map_map];intro z;obtain ⟨p,hp,e⟩:=List.mem_map.mp z;have e:p=m:=Y1 _ _ e;subst e;have nd:=pnd;rw [<-List.take_append_drop i pn,List.nodup_append] at nd;exact nd.2.2 p hp p (List.mem_of_getElem? (i:=0) (by rw [List.getElem?_drop];exact hm)) rfl)
      rw [Zf];show some (HO.dK (Wb _ (Z1 m) (V.bl (inV (.str m) ((stood ts).map V.str)))))=_;rw [Xp,Zhx _ hv,List.take_add_one,hm,List.map_append,decide_eq_decide.mpr (Zk7 ht.dp m).symm]
      rfl
    ·rintro σ H' ⟨⟨o6,rfl⟩,s',e',eD'⟩;rw [List.length_map,List.take_length] at eD';exact ⟨⟨_,rfl⟩,s',eD'⟩
  rintro σ H2 ⟨⟨o6,rfl⟩,s2,eD⟩;have dh:D≠hl:=fun z=>by
   obtain ⟨o,e⟩:=hlv hl zh;rw [<-z,n1] at e;cases e
  obtain ⟨us0,eh,_⟩:=id M4;have eh2:=s2.at eh;let I38:=fun (σ:St) (H':Hp)=>∃(du:Addr) (vs:List Addr),σ=[some (.ref x),some (.ref yd),some (.ref sl),some (.int cell),some (.ref hl),some (.ref D),o6,some (.ref du),none,none,none]/\Same H H'/\du≠hl/\H' du=some (.lst (vs.map V.ref))/\vs.length=5/\∀j v,vs[j]? =some v->TD (still (fun b=>b=hl) H') v ds pn ll ms j
  refine WSs.cut I38 ?_ ?_
  ·have hL:=hB.l.mono s2;have tl64:(ts.map Prod.fst).length<64:=by rw [List.length_map];lia
   refine WS.of (Zy (i:=7) Wd.nd (Zt (Zb (Zz (r:=Zig) (Zca rfl) (by rfl) T.cK PyProof.Rows.boot_sorted (Zb (Zv (K:=K) rfl (pv 2) Zd) Za)) (Zb (Xx (N':=["_law_name", "_law_state"]) rfl (Z6.std 1 [2] rfl (by trivial) (by trivial) rfl ⟨rfl,trivial⟩ rfl rfl ⟨(exR rfl ⟨rfl,rfl⟩),trivial⟩) (Ym (Zz (r:=Zig) (Zca rfl) (by rfl) T.cK PyProof.Rows.boot_sorted (Zb (Zv (K:=K) rfl (pv 2) Zd) Za))) (fun _ _ _ _=>(W6 (i:=0) (by show (["_law_name", "_law_state"]:List Str).Nodup;decide +kernel))) (fun _ _ _ _=>Za6) (fun _ _ _ _=>(Zv (K:=K) rfl (X1 (Y8 hr) (Zv (K:=K) rfl (pv 1) Zd) (pv 0) (fun _ _=>rfl)) Zd))) (Zb (pv 5) (Zb (Zv (K:=K) rfl (pv 2) Zd) (Zb (Zv (K:=K) rfl (pv 2) Zd) Za))))))) (exR rfl (.inl ⟨sl,_,0,_,rfl,rfl,SqL.of hL.obj,Yh (j:=0) rfl,la.d0,_,ts.map Prod.fst,rfl,.inl hL.trd,Zvo (Paired.length hL.recs),tl64,fun ss hp hs a0 H3 s3 n3 e3=>?_⟩));cases ht.trs hp hs;have hL3:=hL.mono s3;refine (exR rfl (.inl ⟨sl,_,0,_,rfl,rfl,SqL.of hL3.obj,Yh (j:=0) rfl,la.d0,_,ts.map Prod.fst,rfl,.inl hL3.trd,Zvo (Paired.length hL.recs),tl64,fun ss2 hp2 N9 l4 H4 s4 n4 e4=>?_⟩));cases ht.trs hp2 N9;have hL4:=hL3.mono s4;refine ⟨l4,rfl,⟨_,SqL.of e4⟩,fun C hC=>Xj (xs:=(ds.map Prod.fst).map V.str) (fun i ys H'=>(∃ls:List Addr,ys=ls.map V.ref/\Paired (fun a (d:TrD)=>Zl H a d.2.2/\¬Z a) ls (ds.take i))/\H' C=some (.lst ys)/\Same H4 H') ⟨⟨[],rfl,.nil⟩,Zf,Same.new hC⟩ ?_ ?_ ?_⟩
   ·rintro i ys H' _ ⟨_,_,sm⟩;exact SqL.of (sm.at e4)
   ·rintro i v ys H' hi ⟨⟨ls,rfl,Q9⟩,N5,sm⟩;rw [List.map_map,List.getElem?_map] at hi;obtain ⟨d,hd,rfl⟩:=Option.map_eq_some_iff.mp hi;obtain ⟨i2,hi2⟩:=List.mem_iff_getElem?.mp (ht.dp.mem_iff.mp (List.mem_of_getElem? hd));obtain ⟨t,C3,l,h1,h2,h3⟩:=Paired.getL hB.l.recs hi2;have hL5:=hL4.mono sm;have s05:=s2.trans (s3.trans (s4.trans sm));have T8:=Paired.length Q9;rw [List.length_take] at T8;have hdl:=ht.dp.length_eq;unfold Zam;refine ⟨Wp.set rfl,_,rfl,.inl ⟨sl,_,0,_,rfl,rfl,SqL.of hL5.obj,Yh (j:=0) rfl,_,rfl,la.d0,_,rfl,by rw [<-Zc0 ht.ok.nd C3 hi2];exact Wc.k (k:=Z1 d.1) hL5.trd,(ixT (s05.at h1) 1 rfl ⟨N5,?_,⟨ls++[l],?_,?_⟩,Zf,fun b o e=>?_⟩)⟩⟩
    ·rw [List.length_map];exact Zs (by lia)
    ·rw [List.map_append];rfl
    ·rw [List.take_add_one,hd];exact Paired.append Q9 (.cons ⟨h2,h3⟩ .nil)
    ·rw [Ze (Zh e hC)];exact sm.at e
   ·rintro ys H5 ⟨⟨ls,rfl,Q9⟩,hC5,s5⟩;rw [List.length_map,List.length_map,List.take_length] at Q9;have hL5:=hL4.mono s5;refine (exR rfl (exR rfl (.inl ⟨sl,_,1,_,rfl,rfl,SqL.of hL5.obj,Yh (j:=1) rfl,_,rfl,.inl ⟨sl,_,2,_,rfl,rfl,SqL.of hL5.obj,Yh (j:=2) rfl,szA,fun du H6 s6 n6 e6=>?_⟩⟩)));have s26:=s3.trans (s4.trans (s5.trans s6));have s06:=s2.trans s26;have eh6:=s06.at eh;have nh:∀{b:Addr} {Hx:Hp},Same H Hx->Hx b=none->b≠hl:=fun {b Hx} sx z y=>by
     rw [y,sx.at eh] at z;cases z
    have st:∀{b:Addr} {o:HO},b≠hl->H6 b=some o->still (fun b=>b=hl) H6 b=some o:=fun ne e=>Wk e ne
    have pt:∀{b:Addr} {sp:List Zc},b≠hl->Zl H6 b sp->Zl (still (fun b=>b=hl) H6) b sp:=fun {b sp} ne ⟨ts,h1,h2⟩=>⟨ts,st ne h1,Paired.mapP h2 fun u p r=>st (fun z=>by unfold Zm at r;rw [z,eh6] at r;cases r) r⟩
    refine ⟨du,[a0,C,D,la.d1,la.m],rfl,s06,nh (s2.trans (s3.trans (s4.trans s5))) n6,e6,rfl,fun j v hv=>?_⟩
    match j,hv with
    | 0,rfl=>exact st (nh s2 n3) ((s4.trans (s5.trans s6)).at e3)
    | 1,rfl=>exact ⟨ls,st (nh (s2.trans (s3.trans s4)) hC) (s6.at hC5),Paired.mapP Q9 fun a d r=>pt (fun z=>r.2 (by rw [z];exact zh)) (r.1.mono s06)⟩
    | 2,rfl=>exact st dh (s26.at eD)
    | 3,rfl=>exact st (fun z=>nl (.inr (.inl z.symm))) (s06.at hB.l.lies)
    | 4,rfl=>exact pt (fun z=>nl (.inr (.inr z.symm))) (hB.l.mis.mono s06)
  rintro σ H3 ⟨du,vs,rfl,s3,duh,edu,vl,L0⟩;have eh3:=s3.at eh;clear eD eh2 s2 dh;let I39:=fun (i:Nat) (σ:St) (H':Hp)=>(∃o8 o9 K8,σ=[some (.ref x),some (.ref yd),some (.ref sl),some (.int cell),some (.ref hl),some (.ref D),o6,some (.ref du),o8,o9,K8])/\Off (fun b=>b=hl) H3 H'/\Zhb H' Z hl (n+i)
  refine WSs.step (Xn PassesOwn.never rfl (Znl rfl T.dO (Zb Zd Za)) (Yw (i:=8) Wd.nd) Zq) ⟨5,rfl,by decide,by decide,Ziw (lo:=0) (n:=5) I39 ⟨⟨_,_,_,rfl⟩,Off.refl,M4.mono s3 hlv⟩ ?_ ?_⟩
  ·rintro i σ H4 hi ⟨⟨o8,o9,K8,rfl⟩,o4,D9⟩;have lv4:∀b,Z b->∃o,H4 b=some o:=fun b z=>by
    by_cases y:b=hl
    ·obtain ⟨us,h1,_⟩:=D9;rw [y];exact ⟨_,h1⟩
    ·obtain ⟨o,e⟩:=hlv b z;exact ⟨o,o4 b o y (s3.at e)⟩
   have w9:WAt T H0 H4 Z x tr ad (ts,lw,ms):=(hB.w.mono s3).off o4 (fun b z=>by rw [z];exact zh) (fun b z=>by rw [z];exact nw) (fun b z=>.inl ⟨_,(congrArg H3 z).trans eh3⟩) fun b z=>lv4 b (by rw [z];exact zh)
   have ht4:Zhm T H0 H4 Z x tr ad ts lw ms ps js sg ds pn:=⟨w9,ht.t,ht.yv,ht.ok,ht.dp,ht.ds,ht.pp,ht.so⟩
   have sS:Same (still (fun b=>b=hl) H3) H4:=fun b o e=>by
    by_cases y:b=hl
    ·rw [show still (fun b=>b=hl) H3 b=none from if_pos y] at e;cases e
    ·exact o4 b o y (Zkc.at e)
   let I40:=fun (σ:St) (H':Hp)=>∃j:Nat,j<5/\σ=[some (.ref x),some (.ref yd),some (.ref sl),some (.int cell),some (.ref hl),some (.ref D),o6,some (.ref du),some (.int (0+(i:Int))),some (.int (j:Int)),K8]/\H'=H4
   refine WSs.cut I40 ?_ ?_
   ·obtain ⟨j,hj,hj5⟩:=Zew (a:=(0+(i:Int)) * (1+cell / 5%4)+cell) (n:=5) (by decide);refine WS.of (Zy (i:=9) Wd.nd (Zu Yu (Zu W3 (Zu Zgz (pv 8) (Zu W3 Zd (Zu Yu (Zu Ys (pv 3) Zd) Zd))) (pv 3)) Zd)) (exR rfl (exR rfl (exQ rfl rfl ⟨⟨by decide,by decide⟩,_,_,rfl,rfl,(by show (0:Int)<4;decide),.inl (exQ rfl rfl (exQ rfl rfl ⟨.inl ⟨by show -(2 ^ 64)<(0+(i:Int));lia,by show (0+(i:Int))<2 ^ 64;lia⟩,_,rfl,.inl (exQ rfl rfl (exQ rfl rfl ⟨(by show (0:Int)<5;decide),j,hj5,?_,rfl⟩))⟩))⟩)));show [some (V.ref x),some (V.ref yd),some (V.ref sl),some (V.int cell),some (V.ref hl),some (V.ref D),o6,some (V.ref du),some (V.int (0+(i:Int))),some (V.int (((0+(i:Int)) * (1+cell / 5%4)+cell)%((5:Nat):Int))),K8]=_;rw [hj]
   rintro σ H' ⟨j,hj,rfl,rfl⟩;refine WSs.step (Yi (Ye (Zji T) hr T.dQ (Zb (Ye (Zhf T) hr T.dB (Zb (pv 0) (Zb (pv 9) Za))) (Zb (pv 9) Za)))) (exR rfl (exR rfl ⟨H0,Z,x,tr,ad,ts,lw,ms,ps,js,sg,ds,pn,j,rfl,ht4,hj,fun l H5 s5 n5 t5=>(exR rfl ⟨H',l,ds,pn,lw,ms,j,rfl,s5,n5,t5,hj,td.dl,fun d hd=>(td.dk d hd).2.1,td.ml,fun H6 s6=>?_⟩)⟩));clear t5 n5 s5;refine WSs.step (Zy (i:=10) Wd.nd (Ye (Zhf T) hr T.dB (Zb (pv 0) (Zb (pv 9) Za)))) (exR rfl (exR rfl ⟨H0,Z,x,tr,ad,ts,lw,ms,ps,js,sg,ds,pn,j,rfl,ht4.mono s6,hj,fun l7 H7 s7 n7 t7=>?_⟩));have U6:=s6.trans s7;obtain ⟨v,hv⟩:∃v,vs[j]? =some v:=⟨_,List.getElem?_eq_getElem (by lia)⟩
   have tv:=(L0 j v hv).mono (sS.trans U6);have edu7:H7 du=some (.lst (vs.map V.ref)):=U6.at (o4 _ _ duh edu);let I41:=fun (σ:St) (H':Hp)=>σ=[some (.ref x),some (.ref yd),some (.ref sl),some (.int cell),some (.ref hl),some (.ref D),o6,some (.ref du),some (.int (0+(i:Int))),some (.int (j:Int)),some (.ref l7)]/\Same H7 H'
   refine WSs.cut I41 ?_ ?_
   ·refine WS.of (Zx (PW.pt (Zfc (Zj (r:=Ze7 K) (Zhg hr) (pv 10) (Zv (K:=K) rfl (pv 7) (pv 9)) (Zr _)) (Zda (PW.pt (Zdk (Xl (Zz (r:=Zjq K) Wh (by rfl) T.ay PyProof.Rows.boot_isinstance (Zb (pv 10) (Zb (Zd7 (v:=.ty "dict") (by rfl) T.ee PyProof.Rows.boot_dict rfl) Za)))) (Zbe (Zj (r:=Ze7 K) (Zhg hr) (X5 (r:=Zv6) (Zq5 rfl) (by rfl) T.fO PyProof.Rows.boot_list (Zb (pv 10) Za)) (Zz (r:=Zig) (Zca rfl) (by rfl) T.cK PyProof.Rows.boot_sorted (Zb (pv 10) Za)) (Zr _)))))))) Zq Zp) (exR rfl (exR rfl (exR rfl (.inl ⟨du,_,(j:Int),.ref v,rfl,rfl,SqL.of edu7,Yh (by rw [List.getElem?_map,hv];rfl),TD.ne pnd le t7.1 tv (exR rfl (W5 ?_))⟩))));have cs:(∃xs,H7 l7=some (.lst xs))\/∃kvs ss,H7 l7=some (.dK kvs)/\kvs.map (fun kv=>kV kv.1)=ss.map V.str/\PyProof.Rows.sortedS ss=true/\ss.length<64:=by
     have h7:=t7.1;rcases (by lia:j=0\/j=1\/j=2\/j=3\/j=4) with rfl|rfl|rfl|rfl|rfl
     ·exact .inl ⟨_,h7⟩
     ·exact .inl ⟨_,h7.choose_spec.1⟩
     ·exact .inr ⟨_,pn,h7,by rw [List.map_map];rfl,td.so,by lia⟩
     ·refine .inr ⟨_,lw.map Prod.fst,h7,by unfold Xw;rw [List.map_map,List.map_map];rfl,lso,?_⟩;have:=td.ll;rw [List.length_map];lia
     ·exact .inl ⟨_,h7.choose_spec.1⟩
    rcases cs with ⟨xs,e7⟩|⟨kvs,ss,e7,hk,hs,hl64⟩
    ·exact ⟨_,rfl,_,_,false,_,rfl,Xy.lst e7,.inl ⟨_,rfl,T.iG⟩,_,rfl,W5 ⟨rfl,Same.refl _⟩⟩
    ·refine (exR rfl ⟨_,_,true,_,rfl,Xy.dK e7,.inl (exR rfl T.iF),_,rfl,Ze3 (exR rfl ⟨l7,_,rfl,.inl e7,fun la8 H8 s8 n8 e8=>(exR rfl ⟨l7,_,ss,rfl,.inl (s8.at e7),hk,hl64,fun K1 hp M7 lb H9 s9 n9 e9=>?_⟩)⟩)⟩);cases Zer M7 hs hp;rw [hk] at e8;exact .inr (.inl ⟨1,_,_,by decide,.inr ⟨_,_,rfl,rfl⟩,Zc5 (s9.at e8),Zc5 e9,_,rfl,by rw [if_pos rfl,decide_eq_true rfl];exact W5 ⟨rfl,s8.trans s9⟩⟩)
   rintro σ H8 ⟨rfl,s8⟩;have s48:=U6.trans s8;obtain ⟨us4,eh4,_⟩:=id D9;have sh:=td.short yv j;have rp8:Rp H8 (DD ds pn lw ms j) (.ref l7):=(t7.1.mono s8).rp;refine WSs.last (Yi (Zab PySem.F.plainAttrs_list PySem.F.slot_list_append PySem.F.type_list_append Yx (pv 4) (Zb (Zk (Zb (pv 10) (Zb (Zz (r:=Zqq) (Zej hb hr.gd hr.units) (by rfl) T.fP PyProof.Rows.boot_repr (Zb (pv 10) Za)) Za))) Za))) (exR rfl ⟨.inl ⟨rfl,_,SqL.of (s48.at eh4)⟩,_,rfl,_,rfl,l7,_,rfl,rp8,sh.1,Nat.le_trans sh.2.2.1 (by decide),sh.shown (by decide),szA,fun t H9 s9 n9 e9=>?_⟩);have h7:=t7.hard (Z:=Z) n7 fun b z=>by
    obtain ⟨o,e⟩:=lv4 b z;exact ⟨o,s6.at e⟩
   have m79:Same (hard Z H7) (hard Z H9):=Zf2 (fun b o e _=>(s8.trans s9).at e) fun b z=>.inl z
   obtain ⟨us,h1,h2,h3⟩:=(D9.mono (s48.trans s9) lv4).add zh (Zj3 e9 (.inr ⟨_,rfl⟩)) (h7.mono m79).rp sh;exact ⟨hl,_,_,rfl,rfl,h1,by rw [List.length_map];exact Zs (by lia),⟨_,_,_,rfl⟩,(o4.trans (Ws (s48.trans s9))).trans (Off.upd rfl),h3⟩
  ·rintro σ H' ⟨⟨o8,o9,K8,rfl⟩,o4,D9⟩;exact WSs.last (Zo Zi5) (q H' ((Ws s3).trans o4) D9)
theorem Zw1(h:n∉l.map Prod.fst):Wb (Xw l) (Z1 n) (.str v)=Xw (l++[(n,v)]):=by
 have:Yy (Xw l) (Z1 n)=none:=Zo8 fun m=>by
  unfold Xw at m;rw [List.map_map] at m;obtain ⟨q,hq,e⟩:=List.mem_map.mp m;exact h (List.mem_map.mpr ⟨q,hq,Y1 _ _ e⟩)
 rw [Zhx _ this];unfold Xw;rw [List.map_append]
 rfl
theorem Zvd(h:n∉l.map Prod.fst):liQ l n=none:=by
 unfold liQ;cases z:l.find? fun p=>decide (p.1=n) with
 | none=>rfl
 | some q=>exact absurd (List.mem_map.mpr ⟨q,List.mem_of_find?_eq_some z,by have:=List.find?_some z;exact of_decide_eq_true this⟩) h
theorem Zro(h:n∉l.map Prod.fst):Yl l n = "" :=by
 unfold Yl;rw [Zvd h];rfl
open PySem PySem.Spec PyProof.Rows in
theorem srt(l:List Str):∃s:List Str,s.Perm l/\PyProof.Rows.sortedS s=true:=by
 refine ⟨l.mergeSort fun a b=>!ltCps b.cps.toList a.cps.toList,List.mergeSort_perm _ _,PyProof.Rows.sortedS_of_pairwise _ ?_⟩;refine (List.pairwise_mergeSort (le:=fun a b:Str=>!ltCps b.cps.toList a.cps.toList) (fun a b c h1 h2=>?_) (fun a b=>?_) l).imp fun {a b} h=>by simpa using h
 ·simp only [Bool.not_eq_true'] at h1 h2 ⊢;rw [ltCps_eq,decide_eq_false_iff_not] at h1 h2 ⊢;exact List.not_lt.mpr (List.le_trans (List.not_lt.mp h1) (List.not_lt.mp h2))
 ·rw [ltCps_eq,ltCps_eq];rcases List.le_total a.cps.toList b.cps.toList with z|z
  ·simp [List.not_lt.mpr z]
  ·simp [List.not_lt.mpr z]
theorem Ya8(ts:List TrD):∃ds:List TrD,ds.Perm ts/\PyProof.Rows.sortedS (ds.map Prod.fst)=true:=by
 obtain ⟨s,h1,h2⟩:=srt (ts.map Prod.fst);obtain ⟨ds,p,e⟩:=Zsy h1 ts rfl;exact ⟨ds,p,by rw [e];exact h2⟩
def Wq(l:List Str):List (Str×Str):=l.map fun n=>(n, "left")
theorem Zd2(l:List Str):(Wq l).map Prod.fst=l:=by
 unfold Wq;rw [List.map_map];exact List.map_id _
theorem Zkp(l:List Str)(n:Str):Yl (Wq l) n=if n∈l then "left" else "" :=by
 by_cases z:n∈l
 ·rw [if_pos z];have hm:n∈(Wq l).map Prod.fst:=by rw [Zd2];exact z
  unfold Yl liQ;cases e:(Wq l).find? fun p=>decide (p.1=n) with
  | none =>
   obtain ⟨p,hp,hpn⟩:=List.mem_map.mp hm;have:=List.find?_eq_none.mp e p hp;exact absurd (decide_eq_true hpn) this
  | some p =>
   obtain ⟨m,_,rfl⟩:=List.mem_map.mp (List.mem_of_find?_eq_some e)
   rfl
 ·rw [if_neg z];exact Zro (by rw [Zd2];exact z)
theorem Zhd.first(yv:Y4 ps js sg) (hg:∀n,n∈gs↔(("points",n):Zc)∈ps):Zhd ps gs (Wq gs) (Wq (Y6 "points" ps)):=by
 refine ⟨fun p hp=>?_,fun n=>?_,Zd2 _,Zd2 _⟩
 ·rw [Zkp];unfold Zcs
  by_cases z:p.1 = "points"
  ·rw [if_pos z,if_pos (X3.mpr (by rw [<-z];exact hp))];simp
  ·rw [if_neg z,if_neg fun y=>z (yv.kfun hp (X3.mp y))];simp
 ·rw [Zkp,Zkp]
  by_cases z:n∈gs
  ·rw [if_pos z,if_pos (X3.mpr ((hg n).mp z))]
  ·rw [if_neg z,if_neg fun y=>z ((hg n).mpr (X3.mp y))]
theorem Zhd.told{ps:List Zc}{gs:List Str}{lw ll:List (Str×Str)}(h:Zhd ps gs lw ll)(gn:gs.Nodup) (hg:∀n,n∈gs↔(("points",n):Zc)∈ps):∀p∈lw,p.1∈ps.map Prod.snd/\(p.2 = "left" \/p.2 = "right"):=fun p hp=>by
 have hm:(("points",p.1):Zc)∈ps:=(hg _).mp (by rw [<-h.lw];exact List.mem_map.mpr ⟨p,hp,rfl⟩);refine ⟨List.mem_map.mpr ⟨_,hm,rfl⟩,?_⟩;have h1:=h.li _ hm;rw [h.le] at h1;unfold Yl at h1;rw [Zrr (by rw [h.lw];exact gn) hp] at h1;unfold Zcs at h1;rw [if_pos rfl] at h1;simpa using h1
theorem Yb0{α β:Type}{R S:α->β->Prop}{as:List α}{bs:List β}(h:Paired R as bs)(m:∀a b,a∈as->b∈bs->R a b->S a b):Paired S as bs:=by
 induction h with
 | nil=>exact .nil
 | cons r _ ih=>exact .cons (m _ _ List.mem_cons_self List.mem_cons_self r) (ih fun a b h g=>m a b (List.mem_cons_of_mem _ h) (List.mem_cons_of_mem _ g))
theorem WAt.shrink{F:Addr->Prop}(h:WAt U H0 H F x tr ad st):WAt U H0 H (We ad) x tr ad st :=
 ⟨h.obj,h.lies,h.trd,Paired.mapP h.trs fun _ _ ⟨dx,l,h1,h2,h3⟩=>⟨dx,l,h1,h2,fun z=>h3 (h.inF z)⟩,h.mis,.inl rfl,.inr (.inl rfl),.inr (.inr (.inl rfl)),h.ne,fun _ z=>.inr (.inr (.inr z)),h.nd,fun z=>h.nx (h.inF z),fun b z=>h.free b (h.inF z),h.same,fun b z=>h.live b (h.inF z)⟩
theorem WAt.into{F F2:Addr->Prop}(h:WAt U H0 H F x tr ad ([],lw,[]))(h2:WAt U Hm H F2 x2 tr ad2 O2)(s:Same H0 Hm)(lv:∀b,We ad b->∃o,Hm b=some o)(ne:∀d∈O2.1,d.2.2≠[]):WAt U H0 (K54.still (We ad) H) F2 x2 tr ad2 O2:=by
 have ha:ad.as=[]:=List.length_eq_zero_iff.mp (Paired.length h.trs);have nx:∀{b:Addr} {o:HO},H b=some o->(∀k,o ≠ .dK k)->o ≠ .lst []->¬We ad b:=fun {b o} e n1 n2 z=>by
  rcases z with z|z|z|z
  ·rw [z,h.lies] at e;exact n1 _ (Option.some.inj e).symm
  ·rw [z,h.trd] at e;exact n1 _ (Option.some.inj e).symm
  ·obtain ⟨ts,h3,h4⟩:=h.mis;cases h4;rw [z,h3] at e;exact n2 (Option.some.inj e).symm
  ·rw [ha] at z;cases z
 have f2:∀{b:Addr},F2 b->¬We ad b:=fun {b} f z=>by
  obtain ⟨o,e⟩:=lv b z;rw [h2.free b f] at e;cases e
 have tp:∀{b:Addr} {xs:List V},H b=some (.tup xs)->K54.still (We ad) H b=some (.tup xs):=fun e=>Wk e (nx e (fun _ z=>nomatch z) fun z=>nomatch z)
 obtain ⟨ms,m1,m2⟩:=h2.mis;refine ⟨Wk h2.obj (nx h2.obj (fun _ z=>nomatch z) fun z=>nomatch z),Wk h2.lies (f2 h2.fl),Wk h2.trd (f2 h2.ft),Yb0 h2.trs fun a d hx hd ⟨dx,l,h3,⟨us,h4,h5⟩,h6⟩=>⟨dx,l,Wk h3 (f2 (h2.fa a hx)),⟨us,Wk h4 (nx h4 (fun _ z=>nomatch z) fun z=>?_),Paired.mapP h5 fun _ _ r=>tp r⟩,h6⟩,⟨ms,Wk m1 (f2 h2.fm),Paired.mapP m2 fun _ _ r=>tp r⟩,h2.fl,h2.ft,h2.fm,h2.ne,h2.fa,h2.nd,h2.nx,fun b z=>s.free (h2.free b z),fun b o e=>Wk ((s.trans h2.same).at e) fun z=>?_,fun b z=>?_⟩
 ·have z:us.map V.ref=[]:=HO.lst.inj z;have z:us=[]:=List.map_eq_nil_iff.mp z;rw [z] at h5;have:=Paired.length h5;exact ne d hd (List.length_eq_zero_iff.mp this.symm)
 ·have:=h.free b (h.inF z);rw [e] at this;cases this
 ·obtain ⟨o,e⟩:=h2.live b z;exact ⟨o,Wk e (f2 z)⟩
theorem Zhb.deed{Z Z':Addr->Prop}(hB:Zgs U H0 H Z x tr sl ad la ts lw ll ms)(dd:Zha U H0 H H' Z Z' x tr sl ad x5 la la' i8 A8 B8 ms j7 ps gs)(nw:¬We ad hl)(nl:¬Zay la hl)(h:Zhb H Z hl n):Zhb H' Z' hl n:=by
 obtain ⟨us,h1,h2,h3⟩:=h;have e:Same (hard Z H) (hard Z' H'):=Zf2 (fun b o e y=>dd.off b o (fun w=>?_) e) dd.z2
 ·refine ⟨us,dd.off hl _ (fun w=>w.elim nw nl) h1,h2,fun u hu=>?_⟩;obtain ⟨l,d,x1,x2,x3⟩:=h3 u hu;exact ⟨l,d,e.at x1,Zgd e x2,x3⟩
 ·rcases y with y|⟨xs,rfl⟩
  ·exact w.elim (fun w=>y (hB.w.inF w)) fun w=>y (hB.l.inG w)
  ·rcases w with w|w
   ·exact hB.w.nt e w
   ·rcases hB.l.nt w with ⟨_,z⟩|⟨_,z⟩ <;>(rw [e] at z;cases z)
def DB(ds:List TrD)(pn:List Str)(lw:List (Str×Str))(ms:List Zc):PyData:=.list [DD ds pn lw ms 0,DD ds pn lw ms 2,DD ds pn lw ms 3,DD ds pn lw ms 4]
theorem Zmj.shortB(yv:Y4 ps js sg)(h:Zmj ps ds pn lw ms):Yb 20004 4 (DB ds pn lw ms):=Yb.list (n:=5000) (k:=3) (m:=4) (fun d hd=>by
 simp only [List.mem_cons,List.not_mem_nil,or_false] at hd;rcases hd with rfl|rfl|rfl|rfl <;>exact h.short yv _) (Nat.le_refl 4)
theorem Zmj.of{F:Addr->Prop}(h:Zhm U H0 H F x tr ad ts lw ms ps js sg ds pn) (lk:∀p∈lw,p.1∈ps.map Prod.snd/\(p.2 = "left" \/p.2 = "right")) (ll:lw.length<=40) (mw:∀m∈ms,(m.1 = "crash" \/m.1 = "off" \/m.1 = "split")/\m.2∈ps.map Prod.snd) (ml:ms.length<=300):Zmj ps ds pn lw ms:=by
 refine ⟨h.pp,h.so,h.ds,by rw [h.dp.length_eq];exact h.ok.len,(h.dp.map _).nodup_iff.mpr h.ok.nd,fun d hd=>?_,lk,ll,mw,ml⟩;obtain ⟨y0,_,_,_,y4,y5⟩:=h.ok.ok d (h.dp.mem_iff.mp hd);refine ⟨Zl0 y0,y4,fun p hp=>?_⟩;obtain ⟨⟨k,hk⟩,he⟩:=y5 p hp;exact ⟨List.mem_map.mpr ⟨_,hk,rfl⟩,he⟩
theorem Zdn.offL(h:Zdn H C x nm)(hc:H c=some (.lst xs)):Zdn (upd H c o) C x nm:=by
 obtain ⟨dx,h⟩:=h;exact ⟨dx,(Ze fun z=>by rw [z,hc] at h;cases h).trans h⟩
def Zy8(H:Hp)(t:Addr)(ps:List Zc)(js:List (Zc×Zc))(sg:List (Str×Str×Str)):Prop:=∃pl jl sl,H t=some (.tup [.ref pl,.ref jl,.ref sl])/\Zl H pl ps/\Yq H jl js/\Za7 H sl sg
def Ycj:Sp:=fun vs H Q _=>∃(t:Addr) (ps:List Zc) (js:List (Zc×Zc)) (sg:List (Str×Str×Str)),vs=[.ref t]/\Zy8 H t ps js sg/\Y4 ps js sg/\∀x H',Same H H'->H x=none->Yf T H' x ps js sg->Q (.ref x) H'
theorem Zll:Z2 P w K mg base CX0 7 T.bT.f T.bT.fd ["_law_yard"] (Ycj T):=by
 refine T.bT.F.okW Zki fun a9 A outer s H vs Q E hr h=>?_
 ·obtain ⟨t,ps,js,sg,rfl,⟨pl,jl,sl,ht,⟨ts,i4,d3⟩,p7,hsl⟩,yv,q⟩:=h;intro X;have htl:=Paired.length d3;have V5:=yv.len;refine WSs.last (Zo (Zad (Znt T) T.gG (Zgy T) hr.m rfl T.gL T.aI.b .nil Z7 (Ztm T) (Zb (Xx (N':=["_law_kind_here", "_law_name"]) rfl (Z6.std 2 [] rfl (by trivial) (by trivial) rfl trivial rfl rfl trivial) (Ym (Zv (K:=K) rfl (pv 0) Zd)) (fun _ _ _ _=>(Zc4 (K:=K) (n:=2) rfl rfl (Zw (W6 (i:=0) (by show (["_law_kind_here", "_law_name"]:List Str).Nodup;decide +kernel)) (Zw (W6 (i:=1) (by show (["_law_kind_here", "_law_name"]:List Str).Nodup;decide +kernel)) Xb)))) (fun _ _ _ _=>Za6) (fun _ _ _ _=>(Ye (Zoa T) hr T.fX (Zb (pv 0) (Zb (pv 1) Za))))) (Zb (Zv (K:=K) rfl (pv 0) Zd) (Zb (Zv (K:=K) rfl (pv 0) Zd) Za))))) (exR rfl (ixT ht 0 rfl ⟨pl,rfl,⟨_,SqL.of i4⟩,fun D hD=>Xj (K:=K) (xs:=ts.map V.ref) (fun i ys H'=>(∃xs:List Addr,ys=xs.map V.ref/\Paired (PO T H') xs (ps.take i))/\H' D=some (.lst ys)/\Same H H') ⟨⟨[],rfl,.nil⟩,Zf,Same.new hD⟩ ?_ ?_ ?_⟩))
  ·rintro i ys H' _ ⟨_,_,sm⟩;exact SqL.of (sm.at i4)
  ·rintro i v ys H1 hi ⟨⟨xs,rfl,S3⟩,N1,s1⟩;rw [List.getElem?_map] at hi;obtain ⟨u,hu,rfl⟩:=Option.map_eq_some_iff.mp hi;obtain ⟨p,hp,hpu⟩:=Paired.get d3 hu;have hpu:H u=some (.tup [.str p.1,.str p.2]):=hpu;have hm:p∈ps:=List.mem_of_getElem? hp;have hxl:xs.length<=100:=by
    have:=Paired.length S3;rw [List.length_take] at this;lia
   refine ⟨u,_,rfl,SqT.of (s1.at hpu),rfl,_,_,rfl,_,_,rfl,rfl,(Wp.set rfl).trans (Wp.set rfl),_,rfl,_,rfl,p.1,p.2,rfl,yv.net.kind p hm,(yv.name p hm).2.1,fun x C H2 s2 n2 hC hO=>⟨s2.at N1,by rw [List.length_map];exact Zs (by lia),⟨xs++[x],by rw [List.map_append];rfl,?_⟩,Zf,fun b o z=>?_⟩⟩
   ·rw [List.take_add_one,hp];exact Paired.append (Paired.mapP S3 fun _ _ ⟨C,z1,z2⟩=>⟨C,z1,(z2.mono s2).offL (s2.at N1)⟩) (.cons ⟨C,hC,hO.offL (s2.at N1)⟩ .nil)
   ·rw [Ze (Zh z hD)];exact s2.at (s1.at z)
  ·rintro ys H1 ⟨⟨xs,rfl,S3⟩,N1,s1⟩;rw [List.length_map,htl,List.take_length] at S3;exact ⟨_,rfl,(ixT (s1.at ht) 1 rfl ⟨_,rfl,(ixT (s1.at ht) 2 rfl ⟨D,jl,sl,xs,ps,js,sg,rfl,N1,S3,p7.mono s1,hsl.mono s1,yv,fun x H2 s2 n2 tr=>q x H2 (s1.trans s2) (s1.free n2) tr⟩)⟩)⟩
theorem Zz5  (F:Fun K "law" "law" Zho f fd) (T:Tx K mg) (hb:∃mm,base.Ns sysModules mm):Z2 P w K mg base CX0 9 f fd ["_law_script"] (Zkw K T.tabs):=by
 refine F.okW Zao fun a9 A outer s H vs Q E hr h=>?_
 ·obtain ⟨a,ns,rfl,hS,T0,htb,q⟩:=h;intro X;have tb:=Zrq.of htb;refine WSs.step (Zy (i:=1) Zao.nd (Ye (Zjr T) hr T.dP (Zb (Ye (Zmc T) hr T.fg (Zb (pv 0) (Zb Zd (Zb Zd Za)))) (Zb (Zeg (Zfe T) hr rfl T.cS T.ak.F.kp T.ak.b .nil Z7 (Zb (pv 0) (Zb Zd Za))) Za)))) (exR rfl ⟨a,ns,22,36,rfl,hS,T0,by decide,by decide,fun cl H1 cs s1 n1 e1 hc t9=>(exR rfl ⟨a,ns,0,rfl,s1.seq hS,cl,_,cs,rfl,SqL.of e1,fun c h=>(hc c h).1,t9,fun t pl jl gl H2 ps js sg s2 ht hP hJ hG yo sg2=>?_⟩)⟩);have u8:=s1.trans s2;have yv:=yo.v;have V5:=yv.len;have yl100:ps.length<=100:=by lia
  refine WSs.step (Zy (i:=2) Zao.nd (Ye (Zll T) hr T.eI (Zb (pv 1) Za))) (exR rfl ⟨t,ps,js,sg,rfl,⟨pl,jl,gl,ht,hP,hJ,hG⟩,yv,fun tr H0 s0 n0 T2=>?_⟩);have hyd0:Zqw H0 t ps js sg:=⟨pl,jl,gl,s0.at ht,hP.mono s0,hJ.mono s0,hG.mono s0⟩
  have hS0:=(u8.trans s0).seq hS;have tb0:=tb.mono (u8.trans s0);refine WSs.step (Zy (i:=3) Zao.nd (Zad (Zkt T) T.gD (Zc1 T) hr.m rfl T.gI T.aD.b .nil Z7 (Zp7 T) (Zb (pv 2) Za))) (exR rfl ⟨tr,ps,js,sg,rfl,T2,yv,fun x gs H3 F ad gnd hg hgl hx hw=>?_⟩);refine WSs.step (Zy (i:=4) Zao.nd (Zad (Zkt T) T.gD (Zc1 T) hr.m rfl T.gI T.aD.b .nil Z7 (Zp7 T) (Zb (pv 2) Za))) (exR rfl ⟨tr,ps,js,sg,rfl,T2.mono hw.same,yv,fun x2 gs2 H4 F2 ad2 gnd2 hg2 hgl2 T3 i3=>?_⟩);obtain ⟨pn,hpp,hpo⟩:=srt (ps.map Prod.snd);obtain ⟨ts0,y2,N4⟩:=hP.mono s0;have y1:=s0.at ht;have s04:=hw.same.trans i3.same;let I42:=fun (σ:St) (H':Hp)=>∃(gl:Addr),σ=[some (.ref a),some (.ref t),some (.ref tr),some (.ref x),some (.ref x2),none,none,some (.ref gl),none,none,none,none,none,none]/\Same H4 H'/\H' gl=some (.lst ((Y6 "gate" ps).map V.str))
  refine WSs.cut I42 ?_ ?_
  ·refine WS.of (Zba (i:=7) (N':=["_law_kind_here", "_law_one"]) Zao.nd rfl (Or.inl rfl) rfl (Z6.std 2 [] rfl (by trivial) (by trivial) rfl trivial rfl rfl trivial) (Ym (Zv (K:=K) rfl (pv 1) Zd)) (fun _ _ _ _=>(Zc4 (K:=K) (n:=2) rfl rfl (Zw (W6 (i:=0) (by show (["_law_kind_here", "_law_one"]:List Str).Nodup;decide +kernel)) (Zw (W6 (i:=1) (by show (["_law_kind_here", "_law_one"]:List Str).Nodup;decide +kernel)) Xb)))) (fun _ _ _ _=>(Zdu (Zj (r:=Y7 K) (Xc hr) (pv 0) Zg (Zr _)))) (fun _ _ _ _=>(pv 1))) (exR rfl (ixT (s04.at y1) 0 rfl ⟨pl,rfl,⟨_,SqL.of (s04.at y2)⟩,fun D hD=>Zom (k := "gate") (s04.at y2) (Paired.mapP N4 fun _ _ r=>r.mono s04) yl100 hD (fun HD sD eD=>⟨D,rfl,sD,eD⟩) ?aa ?bb ?cc⟩))
   case aa=>rfl
   case bb=>rfl
   case cc=>rfl
  rintro σ H5 ⟨S7,rfl,s5,S6⟩;generalize hgts:Y6 "gate" ps=i6 at S6;have Q7:∀m,m∈i6↔(("gate",m):Zc)∈ps:=fun m=>by rw [<-hgts];exact X3
  generalize hlw2:(gs2.map fun n=>(n,("left" :Str)))=lw2 at i3;let I43:=fun (σ:St) (H':Hp)=>∃(o8:Option V) (F2:Addr->Prop) (ad2:WAd) (A9:List TrD),σ=[some (.ref a),some (.ref t),some (.ref tr),some (.ref x),some (.ref x2),none,none,some (.ref S7),o8,none,none,none,none,none]/\WAt T H3 H' F2 x2 tr ad2 (A9,lw2,[])/\Zac ps A9
  refine WSs.cut I43 ?_ ?_
  ·refine WS.of (Xn PassesOwn.never rfl (Ym (Zas (r:=Zmo K) Zot (pv 7) Zb6 (Zax Zd))) (Yw (i:=8) Zao.nd) Zq) (exR rfl (exR rfl (.inr (.inl ⟨S7,_,rfl,SqL.of S6,fun g1 H6 s6 n6 e6=>⟨g1,rfl,⟨_,SqL.of e6⟩,?_⟩⟩))));rw [show (some (1:Int))=some ((1:Nat):Int) from rfl,Zn5,<-List.map_take] at e6;have A7:=i3.mono (s5.trans s6);let I44:=fun (i:Nat) (σ:St) (H':Hp)=>(∃o8,σ=[some (.ref a),some (.ref t),some (.ref tr),some (.ref x),some (.ref x2),none,none,some (.ref S7),o8,none,none,none,none,none])/\H' g1=some (.lst ((i6.take 1).map V.str))/\∃(F2:Addr->Prop) (ad2:WAd) (A9:List TrD),WAt T H3 H' F2 x2 tr ad2 (A9,lw2,[])/\Zac ps A9/\(i=0->A9=[]/\¬We ad2 g1)
   refine X0 (K:=K) (xs:=(i6.take 1).map V.str) I44 ⟨⟨none,rfl⟩,e6,F2,ad2,[],A7,⟨.nil,by simp,fun _ z=>nomatch z⟩,fun _=>⟨rfl,fun z=>?_⟩⟩ ?_ ?_ ?_
   ·obtain ⟨o,e⟩:=(i3.mono s5).live g1 (i3.inF z);rw [n6] at e;cases e
   ·rintro i σ H' _ ⟨_,z,_⟩;exact SqL.of z
   ·rintro i v σ H7 hi ⟨⟨o8,rfl⟩,eg,F7,ad7,ts7,hw7,tok7,hz⟩;have i0:i=0:=by
     have:=(List.getElem?_eq_some_iff.mp hi).1;rw [List.length_map,List.length_take] at this;lia
    subst i0;obtain ⟨rfl,ng⟩:=hz rfl;rw [List.getElem?_map] at hi;obtain ⟨g,hgi,rfl⟩:=Option.map_eq_some_iff.mp hi;have hgm:(("gate",g):Zc)∈ps:=(Q7 g).mp (List.mem_of_mem_take (List.mem_of_getElem? hgi));have hta:("ta" :Str)∈W4:=by unfold W4;simp
    obtain ⟨tok8,_⟩:=Zqr (ll:=lw2) (ms:=[]) (nm := "ta") (n:=2) tok7 (Nat.zero_le _) hta (by simp) (by decide) (by decide) hgm;have e9:Wv ([],lw2,[]) "ta" 2 g=([(("ta" :Str),2,[((g, ""):Zc)])],lw2,[]):=by
     unfold Wv;rw [if_neg (by unfold stood;simp)]
     rfl
    refine WSs.last (Yi (Y0 (pv 4) T.ac T.dv (Zgj T) hr.m T.bf.b .nil Z7 (Zb Zg (Zb Zd (Zb (pv 8) Za))))) (exR rfl ⟨x2,ad7.dx,_,rfl,hw7.obj,rfl,_,rfl,H3,F7,x2,tr,ad7,([],lw2,[]),ps,js,sg, "ta",g,2,rfl,hw7,T2.mono hw.same,yv,Nat.zero_le _,Nat.zero_le _,Nat.zero_le _,Zl0 hta,by simp,hgm,by decide,by decide,fun H8 Z8 ad8 m1 m2 m3 o8 hw8=>⟨⟨_,rfl⟩,o8 _ _ ng eg,Z8,ad8,_,by rw [e9] at hw8;exact hw8,by rw [e9] at tok8;exact tok8,fun z=>absurd z (by decide)⟩⟩)
   ·rintro σ H' ⟨⟨o8,rfl⟩,_,F7,ad7,ts7,hw7,tok7,_⟩;exact ⟨_,F7,ad7,ts7,rfl,hw7,tok7⟩
  clear i3;rintro σ H6 ⟨o8,S8,k9,A9,rfl,i3,M5⟩;obtain ⟨N6,hd2,hd2s⟩:=Ya8 A9;have C7:Zhm T H3 H6 S8 x2 tr k9 A9 lw2 [] ps js sg N6 pn:=⟨i3,T2.mono hw.same,yv,M5,hd2,hd2s,hpp,hpo⟩
  have td2:Zmj ps N6 pn lw2 []:=Zmj.of C7 (fun p hp=>by
   rw [<-hlw2] at hp;obtain ⟨m,hm,rfl⟩:=List.mem_map.mp hp;exact ⟨List.mem_map.mpr ⟨_,(hg2 m).mp hm,rfl⟩,.inl rfl⟩) (by rw [<-hlw2,List.length_map];exact hgl2) (fun _ z=>nomatch z) (Nat.zero_le _)
  have sh2:=td2.shortB yv;have tl2:A9.length<64:=by have:=M5.len;lia
  let I45:=fun (σ:St) (H':Hp)=>σ=[some (.ref a),some (.ref t),some (.ref tr),some (.ref x),some (.ref x2),none,none,some (.ref S7),o8,some (.str (DB N6 pn lw2 []).shown),none,none,none,none]/\Same H6 H'
  refine WSs.cut I45 ?_ ?_
  ·refine WS.of (Zy (i:=9) Zao.nd (Zz (r:=Zqq) (Zej hb hr.gd hr.units) (by rfl) T.fP PyProof.Rows.boot_repr (Zb (Zt (Zb (Yv (pv 4) T.ac T.bd (Wf T) hr.m T.au.b .nil Z7) (Zb (Yv (pv 4) T.ac T.aR (X6 T) hr.m T.ao.b .nil Z7) (Zb (Yv (pv 4) T.ac T.cP (Zde T) hr.m T.aO.b .nil Z7) (Zb (Yv (pv 4) T.ac T.bK (W2 T) hr.m T.av.b .nil Z7) Za))))) Za))) (exR rfl ⟨x2,k9.dx,_,rfl,i3.obj,rfl,H3,S8,x2,tr,k9,(A9,lw2,[]),rfl,i3,tl2,fun ss hp hs l0 J1 u1 v1 w1=>(exR rfl ⟨x2,k9.dx,_,rfl,u1.at i3.obj,rfl,H3,S8,x2,tr,k9,(A9,lw2,[]),ps,js,sg,rfl,i3.mono u1,C7.t,yv,M5.stood,fun ss2 D2 kvs J2 O1 N9 hT u2 v2 w2=>(exR rfl ⟨x2,k9.dx,_,rfl,(u1.trans u2).at i3.obj,rfl,H3,S8,x2,tr,k9,(A9,lw2,[]),rfl,i3.mono (u1.trans u2),fun D3 J3 u3 v3 w3=>(exR rfl ⟨x2,k9.dx,_,rfl,(u1.trans (u2.trans u3)).at i3.obj,rfl,H3,S8,x2,tr,k9,(A9,lw2,[]),rfl,i3.mono (u1.trans (u2.trans u3)),fun l4 J4 u4 v4 w4=>⟨szA,fun L J5 u5 v5 w5=>?_⟩⟩)⟩)⟩)⟩);cases C7.trs hp hs;cases C7.tok O1 N9 hT;refine ⟨L,DB N6 pn lw2 [],rfl,.lst w5 (.cons (TD.rp (j:=0) ((u2.trans (u3.trans (u4.trans u5))).at w1)) (.cons (TD.rp (j:=2) ((u3.trans (u4.trans u5)).at w2)) (.cons (TD.rp (j:=3) ((u4.trans u5).at w3)) (.cons (TD.rp (j:=4) (Zl.mono u5 w4)) .nil)))),sh2.1,Nat.le_trans sh2.2.2.1 (by decide),sh2.shown (by decide),rfl,u1.trans (u2.trans (u3.trans (u4.trans u5)))⟩
  rintro σ H7 ⟨rfl,s7⟩;have hw7:WAt T H0 H7 F x tr ad ([],Wq gs,[]):=hw.mono (i3.same.trans s7);have hm7:=hw7.shrink.still;have hb7:=hw7.into (i3.mono s7) hw.same (fun b z=>hw.live b (hw.inF z)) fun d hd=>(M5.ok d hd).2.2.2.1
  generalize hG0:K54.still (We ad) H7=G0 at hm7 hb7;obtain ⟨hw8,sG⟩:=hm7;have sG:=sG;have gd:Gnd T G0 tr t ps js sg:=⟨T2.mono sG,hyd0.mono sG,yv,tb0.mono sG⟩
  clear hw hw7 i3 C7;let I46:=fun (σ:St) (H':Hp)=>∃(sl:Addr) (la:LAd) (Z:Addr->Prop),σ=[some (.ref a),some (.ref t),some (.ref tr),some (.ref x),some (.ref x2),none,none,some (.ref S7),o8,some (.str (DB N6 pn lw2 []).shown),some (.ref sl),none,none,none]/\Zgs T G0 H' Z x tr sl ad la [] (Wq gs) [] []
  refine WSs.cut I46 ?_ ?_
  ·refine WS.of (Zy (i:=10) Zao.nd (Zt (Zb Zb8 (Zb Zb8 (Zb (Zt Za) Za))))) fun d0 H9 s9 n9 e9=>fun d1 HA sA nA eA=>⟨szA,fun m HB sB nB eB=>⟨szA,fun sl HC sC nC eC=>?_⟩⟩
   have s8C:=s9.trans (sA.trans (sB.trans sC));have f0:=(sA.trans (sB.trans sC)).at e9;have f1:=(sB.trans sC).at eA;have fm:=sC.at eB;have nF:∀b,H7 b=none->¬We ad b:=fun b z y=>by
    obtain ⟨u,e⟩:=hw8.live b y;rw [z] at e;cases e
   have z1:=s9.free nA;have z2:=s9.free (sA.free nB);refine ⟨sl,⟨d0,d1,m,[]⟩,fun b=>We ad b\/(b=d0\/b=d1\/b=m),rfl,hw8.grow s8C (fun b z=>.inl z) (fun b z=>z.imp id fun y=>?_),⟨eC,f0,.nil,f1,⟨[],fm,.nil⟩,.inr (.inl rfl),.inr (.inr (.inl rfl)),.inr (.inr (.inr rfl)),fun z=>?_,?_,fun b z=>?_⟩,fun b z y=>?_⟩
   ·rcases y with rfl|rfl|rfl
    ·exact ⟨n9,_,f0⟩
    ·exact ⟨z1,_,f1⟩
    ·exact ⟨z2,_,fm⟩
   ·have z:d0=d1:=z;rw [<-z,e9] at nA;cases nA
   ·have hc:∀{b:Addr} {u:HO},HB b=some u->sl≠b:=fun e z=>by rw [z,e] at nC;cases nC
    rintro (z|z|z|z)
    ·exact nF sl (s9.free (sA.free (sB.free nC))) z
    ·exact hc ((sA.trans sB).at e9) z
    ·exact hc (sB.at eA) z
    ·exact hc eB z
   ·rcases z with z|z|z|z
    ·obtain ⟨u,e⟩:=hw8.live b z;exact ⟨u,s8C.at e⟩
    ·rw [z];exact ⟨_,f0⟩
    ·rw [z];exact ⟨_,f1⟩
    ·rw [z];exact ⟨_,fm⟩
   ·rcases y with y|y|y
    ·exact nF b (by rw [y];exact n9) z
    ·exact nF b (by rw [y];exact z1) z
    ·exact nF b (by rw [y];exact z2) z
  rintro σ H8 ⟨sl,la,Z,rfl,hB⟩;have y1:=sG.at y1;have y2:=sG.at y2;have N4:Paired (Zm G0) ts0 ps:=Paired.mapP N4 fun _ _ r=>r.mono sG
  have hpnd:=yv.net.nd;let I47:=fun (σ:St) (H':Hp)=>∃o5 o6,σ=[some (.ref a),some (.ref t),some (.ref tr),some (.ref x),some (.ref x2),o5,o6,some (.ref S7),o8,some (.str (DB N6 pn lw2 []).shown),some (.ref sl),none,none,none]/\Zgs T G0 H' Z x tr sl ad la [] (Wq gs) (Wq (Y6 "points" ps)) []
  refine WSs.cut I47 ?_ ?_
  ·have g8:=hB.w.same;let I48:=fun (i:Nat) (σ:St) (H':Hp)=>(∃o5 o6,σ=[some (.ref a),some (.ref t),some (.ref tr),some (.ref x),some (.ref x2),o5,o6,some (.ref S7),o8,some (.str (DB N6 pn lw2 []).shown),some (.ref sl),none,none,none])/\Zgs T G0 H' Z x tr sl ad la [] (Wq gs) (Wq (Y6 "points" (ps.take i))) []
   refine WS.of (Xn PassesOwn.never rfl (Ym (Zv (K:=K) rfl (pv 1) Zd)) (Wr rfl (Zw (Yw (i:=5) Zao.nd) (Zw (Yw (i:=6) Zao.nd) Xb))) Zq) (exR rfl (ixT (g8.at y1) 0 rfl ⟨pl,rfl,⟨_,SqL.of (g8.at y2)⟩,X0 (K:=K) (xs:=ts0.map V.ref) I48 ⟨⟨none,none,rfl⟩,hB⟩ ?_ ?_ ?_⟩))
   ·rintro i σ H' _ ⟨_,z⟩;exact SqL.of (z.w.same.at y2)
   ·rintro i v σ H' hi ⟨⟨o5,o6,rfl⟩,N7⟩;rw [List.getElem?_map] at hi;obtain ⟨u,hu,rfl⟩:=Option.map_eq_some_iff.mp hi;obtain ⟨⟨k',n'⟩,hq,p0⟩:=Paired.get N4 hu;have Q6:Y6 "points" (ps.take (i+1))=Y6 "points" (ps.take i)++if k' = "points" then [n'] else []:=Zi4 hq
    refine ⟨u,_,rfl,SqT.of (N7.w.same.at p0),rfl,_,_,rfl,_,_,rfl,rfl,?_⟩;refine WSs.last (Zx (Zj (r:=Y7 K) (Xc hr) (pv 5) Zg (Zr _)) Zq Zp) (exR rfl (.inl ⟨rfl,_,rfl,Yn (fun z=>?_) (fun z=>?_)⟩))
    ·have z:k' = "points" :=V.str.inj (of_decide_eq_true z);rw [if_pos z] at Q6;have i5:n'∉(Wq (Y6 "points" (ps.take i))).map Prod.fst:=by
      rw [Zd2];intro y;have nd:(Y6 "points" (ps.take (i+1))).Nodup:=Znq (hpnd.sublist ((List.take_sublist _ _).map _));rw [Q6,List.nodup_append] at nd;exact nd.2.2 n' y n' List.mem_cons_self rfl
     have B0:=Zg1 "points" (ps.take i);rw [List.length_take] at B0;refine WSs.last (Wi (Y8 hr) (Zv (K:=K) rfl (pv 10) Zd) (pv 6) Zg rfl) (exR rfl (.inl ⟨sl,_,1,_,rfl,rfl,SqL.of N7.l.obj,Yh (j:=1) rfl,_,rfl,la.d1,_,rfl,Zdz.k (k:=Z1 n') N7.l.lies ?_,⟨_,_,rfl⟩,?_⟩))
     ·unfold Xw Wq;rw [List.length_map,List.length_map];exact Zs (by lia)
     ·have hl6:=N7.l.lie (Wq (Y6 "points" (ps.take i))++[(n',("left" :Str))]);rw [show Wq (Y6 "points" (ps.take (i+1)))=Wq (Y6 "points" (ps.take i))++[(n',("left" :Str))] by rw [Q6];unfold Wq;rw [List.map_append];rfl];show Zgs T G0 (upd H' la.d1 (.dK (Wb (Xw (Wq (Y6 "points" (ps.take i)))) (Z1 n') (.str "left")))) Z x tr sl ad la [] _ _ [];rw [Zw1 i5];exact ⟨N7.w.offL N7.l hl6 (Off.upd (.inr (.inl rfl))) N7.ap,hl6,N7.ap⟩
    ·have z:k' ≠ "points" :=fun y=>z (decide_eq_true (by rw [y]))
     rw [if_neg z,List.append_nil] at Q6;exact ⟨⟨_,_,rfl⟩,by rw [Q6];exact N7⟩
   ·rintro σ H' ⟨⟨o5,o6,rfl⟩,N7⟩;rw [List.length_map,Paired.length N4,List.take_length] at N7;exact ⟨_,_,rfl,N7⟩
  clear hB;rintro σ HI ⟨o5,o6,rfl,hB⟩;refine WSs.step (Zy (i:=11) Zao.nd (Zt Za)) ⟨szA,fun hl HJ sJ nJ eJ=>?_⟩;have zn:∀b,(Z b\/b=hl)->Z b\/(HI b=none/\∃o,HJ b=some o):=fun b z=>z.imp id fun y=>⟨(congrArg HI y).trans nJ,_,(congrArg HJ y).trans eJ⟩
  let I49:=fun (σ:St) (H':Hp)=>(∃o12 o13,σ=[some (.ref a),some (.ref t),some (.ref tr),some (.ref x),some (.ref x2),o5,o6,some (.ref S7),o8,some (.str (DB N6 pn lw2 []).shown),some (.ref sl),some (.ref hl),o12,o13])/\Same G0 H'/\∃Z:Addr->Prop,Zhb H' Z hl 100
  refine WSs.cut I49 ?_ ?_
  ·let I50:=fun (i:Nat) (σ:St) (H':Hp)=>(∃o12 o13,σ=[some (.ref a),some (.ref t),some (.ref tr),some (.ref x),some (.ref x2),o5,o6,some (.ref S7),o8,some (.str (DB N6 pn lw2 []).shown),some (.ref sl),some (.ref hl),o12,o13])/\∃(Z:Addr->Prop) (ad:WAd) (la:LAd) (ts:List TrD) (lw ll:List (Str×Str)) (ms:List Zc),Zgs T G0 H' Z x tr sl ad la ts lw ll ms/\Zac ps ts/\Zhd ps gs lw ll/\(∀m∈ms,(m.1 = "crash" \/m.1 = "off" \/m.1 = "split")/\m.2∈ps.map Prod.snd)/\ms.length<=i/\Z hl/\¬We ad hl/\¬Zay la hl/\Zhb H' Z hl (5 * i)
   refine WS.of (Xn PassesOwn.never rfl (Znx rfl T.dO (Zb Zd (Zb Zd Za))) (Yw (i:=12) Zao.nd) Zq) ⟨1,21,rfl,by decide,Ziw (lo:=1) (n:=20) I50 ⟨⟨_,_,rfl⟩,fun b=>Z b\/b=hl,ad,la,[],Wq gs,Wq (Y6 "points" ps),[],⟨hB.w.grow sJ (fun _ z=>.inl z) zn,hB.l.grow sJ (fun _ z=>.inl z) zn,hB.ap⟩,⟨.nil,by simp,fun _ z=>nomatch z⟩,Zhd.first yv hg,(fun _ z=>nomatch z),Nat.le_refl _,.inr rfl,fun z=>?_,fun z=>?_,[],eJ,Nat.zero_le _,fun _ z=>nomatch z⟩ ?_ ?_⟩
   ·obtain ⟨o,e⟩:=hB.w.live hl (hB.w.inF z);rw [nJ] at e;cases e
   ·obtain ⟨o,e⟩:=hB.l.live hl (hB.l.inG z);rw [nJ] at e;cases e
   ·clear hB zn eJ nJ sJ;rintro i σ H1 hi ⟨⟨o12,o13,rfl⟩,Z,ad,la,ts,lw,ll,ms,hB,tok,li,hmw,hml,zh,nw,nl,M4⟩;refine WSs.step (Zy (i:=13) Zao.nd (Zeg (Zfe T) hr rfl T.cS T.ak.F.kp T.ak.b .nil Z7 (Zb (pv 0) (Zb (pv 12) Za)))) (exR rfl (exR rfl ⟨a,ns,1+i,rfl,(sG.trans hB.w.same).seq hS0,?_⟩));generalize Zod ns (1+i)=cell;refine WSs.last (Zx (PW.pt (Zfc (W1 (Xl (Ye (Zof T) hr T.ga (Zb (pv 3) (Zb (pv 1) (Zb (pv 10) (Zb (pv 13) Za))))))) (Zda (W1 (Xl (Ye (Zo5 T hb) hr T.gc (Zb (pv 3) (Zb (pv 1) (Zb (pv 10) (Zb (Zu Ys (pv 13) Zd) (Zb (pv 11) Za))))))))))) Zq Zp) (exR rfl (exR rfl (exR rfl (exR rfl ⟨G0,Z,x,tr,t,sl,ad,la,ts,lw,ll,ms,ps,js,sg,gs,cell,rfl,hB,gd,tok,li,hg,hgl,by lia,fun Z' x5 la' i8 A8 B8 j7 H2 dd=>(exR rfl (W5 ?_))⟩))));have held2:=Zhb.deed hB dd nw nl M4;have nw2:¬We x5 hl:=fun z=>by
     rcases dd.cw hl z with y|y
     ·exact nw y
     ·obtain ⟨o,e⟩:=hB.w.live hl zh;rw [y] at e;cases e
    obtain ⟨ds,hd,hds⟩:=Ya8 i8;have C7:Zhm T G0 H2 Z' x tr x5 i8 A8 j7 ps js sg ds pn:=⟨dd.b.w,gd.tr,yv,dd.tok,hd,hds,hpp,hpo⟩
    have lwl:A8.length<=40:=by
     have:=congrArg List.length dd.li.lw;rw [List.length_map] at this;lia
    have hmw2:∀m∈j7,(m.1 = "crash" \/m.1 = "off" \/m.1 = "split")/\m.2∈ps.map Prod.snd:=fun m hm=>by
     rcases dd.ml with z|⟨w,n,h1,h2,z⟩
     ·rw [z] at hm;exact hmw m hm
     ·rw [z] at hm;rcases List.mem_append.mp hm with y|y
      ·exact hmw m y
      ·rw [List.mem_singleton.mp y];exact ⟨h1,h2⟩
    have hml2:=dd.ml.len;have td:=Zmj.of C7 (dd.li.told gnd.1 hg) lwl hmw2 (by lia);refine (exR rfl (exR rfl (exR rfl (exR rfl (exQ rfl rfl ⟨⟨by decide,by decide⟩,_,rfl,G0,Z',x,tr,t,sl,hl,x5,la',i8,A8,B8,j7,ps,js,sg,ds,pn,_,5 * i,rfl,dd.b,gd,C7,td,dd.li.eq hpnd gnd.1 hg,by rw [dd.li.lw];exact gnd.2,dd.z1 hl zh,nw2,fun z=>nl (dd.cl hl z),held2,by lia,fun H3 o3 held3=>(exR rfl (W5 ?_))⟩)))));obtain ⟨us2,eh2,_⟩:=held2;obtain ⟨us3,eh3,_⟩:=id held3;refine ⟨⟨_,_,rfl⟩,Z',x5,la',i8,A8,B8,j7,⟨dd.b.w.off o3 (fun b z=>by rw [z];exact dd.z1 hl zh) (fun b z=>by rw [z];exact nw2) (fun b z=>.inl ⟨_,(congrArg H2 z).trans eh2⟩) (fun b z=>⟨_,(congrArg H3 z).trans eh3⟩),dd.b.l.off o3 (fun b z=>by rw [z];exact dd.z1 hl zh) (fun b z=>by rw [z];exact fun z=>nl (dd.cl hl z)) (fun u xs e z=>by rw [z,eh2] at e;cases e) (fun b z=>⟨_,(congrArg H3 z).trans eh3⟩),dd.b.ap⟩,dd.tok,dd.li,hmw2,by lia,dd.z1 hl zh,nw2,fun z=>nl (dd.cl hl z),?_⟩;rw [Nat.mul_add];exact held3
   ·rintro σ H' ⟨h1,Z,ad,la,ts,lw,ll,ms,hB,_,_,_,_,_,_,_,M4⟩;exact ⟨h1,hB.w.same,Z,M4⟩
  rintro σ H9 ⟨⟨o12,o13,rfl⟩,sZ,Z9,us,eh,hul,j0⟩;have C7:Zhm T H0 H9 S8 x2 tr k9 A9 lw2 [] ps js sg N6 pn:=⟨hb7.mono sZ,T2,yv,M5,hd2,hd2s,hpp,hpo⟩
  have i3:=C7.w;let I51:=fun (σ:St) (H':Hp)=>σ=[some (.ref a),some (.ref t),some (.ref tr),some (.ref x),some (.ref x2),o5,o6,some (.ref S7),o8,some (.str (DB N6 pn lw2 []).shown),some (.ref sl),some (.ref hl),o12,o13]/\Same H9 H'
  refine WSs.cut I51 ?_ ?_
  ·refine WS.of (Zx (Zj (r:=Ze7 K) (Zhg hr) (Zz (r:=Zqq) (Zej hb hr.gd hr.units) (by rfl) T.fP PyProof.Rows.boot_repr (Zb (Zt (Zb (Yv (pv 4) T.ac T.bd (Wf T) hr.m T.au.b .nil Z7) (Zb (Yv (pv 4) T.ac T.aR (X6 T) hr.m T.ao.b .nil Z7) (Zb (Yv (pv 4) T.ac T.cP (Zde T) hr.m T.aO.b .nil Z7) (Zb (Yv (pv 4) T.ac T.bK (W2 T) hr.m T.av.b .nil Z7) Za))))) Za)) (pv 9) (Zr _)) Zq Zp) (exR rfl ⟨x2,k9.dx,_,rfl,i3.obj,rfl,H0,S8,x2,tr,k9,(A9,lw2,[]),rfl,i3,tl2,fun ss hp hs l0 J1 u1 v1 w1=>(exR rfl ⟨x2,k9.dx,_,rfl,u1.at i3.obj,rfl,H0,S8,x2,tr,k9,(A9,lw2,[]),ps,js,sg,rfl,i3.mono u1,C7.t,yv,M5.stood,fun ss2 D2 kvs J2 O1 N9 hT u2 v2 w2=>(exR rfl ⟨x2,k9.dx,_,rfl,(u1.trans u2).at i3.obj,rfl,H0,S8,x2,tr,k9,(A9,lw2,[]),rfl,i3.mono (u1.trans u2),fun D3 J3 u3 v3 w3=>(exR rfl ⟨x2,k9.dx,_,rfl,(u1.trans (u2.trans u3)).at i3.obj,rfl,H0,S8,x2,tr,k9,(A9,lw2,[]),rfl,i3.mono (u1.trans (u2.trans u3)),fun l4 J4 u4 v4 w4=>⟨szA,fun L J5 u5 v5 w5=>?_⟩⟩)⟩)⟩)⟩);cases C7.trs hp hs;cases C7.tok O1 N9 hT;refine ⟨L,DB N6 pn lw2 [],rfl,.lst w5 (.cons (TD.rp (j:=0) ((u2.trans (u3.trans (u4.trans u5))).at w1)) (.cons (TD.rp (j:=2) ((u3.trans (u4.trans u5)).at w2)) (.cons (TD.rp (j:=3) ((u4.trans u5).at w3)) (.cons (TD.rp (j:=4) (Zl.mono u5 w4)) .nil)))),sh2.1,Nat.le_trans sh2.2.2.1 (by decide),sh2.shown (by decide),_,rfl,.inl ⟨rfl,_,rfl,?_⟩⟩;rw [decide_eq_true rfl];exact W5 ⟨rfl,u1.trans (u2.trans (u3.trans (u4.trans u5)))⟩
  rintro σ HE ⟨rfl,sE⟩;refine WSs.last (Zo (W0 (r:=Y7 K) (Xc hr) (Xx (N':=["_law_pair"]) rfl (Z6.std 1 [] rfl (by trivial) (by trivial) rfl trivial rfl rfl trivial) (Ym (pv 11)) (fun _ _ _ _=>(W6 (i:=0) (by show (["_law_pair"]:List Str).Nodup;decide +kernel))) (fun _ _ _ _=>(Zdu (Zj (r:=Ze7 K) (Zhg hr) (Zz (r:=Zqq) (Zej hb hr.gd hr.units) (by rfl) T.fP PyProof.Rows.boot_repr (Zb (Zv (K:=K) rfl (pv 0) Zd) Za)) (Zv (K:=K) rfl (pv 0) Zd) (Zr _)))) (fun _ _ _ _=>(pv 0))) (Zt Za) (Zr _))) (exR rfl ⟨hl,rfl,⟨_,SqL.of (sE.at eh)⟩,fun C hC=>Xj (xs:=us.map V.ref) (fun i ys H'=>ys=[]/\H' C=some (.lst ys)/\Same HE H') ⟨rfl,Zf,Same.new hC⟩ ?_ ?_ ?_⟩)
  ·rintro i ys H' _ ⟨_,_,sm⟩;exact SqL.of (sm.at (sE.at eh))
  ·rintro i v ys H' hi ⟨rfl,N5,sm⟩;rw [List.getElem?_map] at hi;obtain ⟨u,hu,rfl⟩:=Option.map_eq_some_iff.mp hi;obtain ⟨l,d,x1,x2,x3⟩:=j0 u (List.mem_of_getElem? hu);have s9:=sE.trans sm;have x1:=s9.at (Znu.at x1);have x2:=Zgd (Znu.trans s9) x2;unfold Zam;refine ⟨Wp.set rfl,_,rfl,(ixT x1 0 rfl ⟨l,d,rfl,x2,x3.1,Nat.le_trans x3.2.2.1 (by decide),x3.shown (by decide),_,rfl,(ixT x1 1 rfl (.inl ⟨rfl,_,rfl,?_⟩))⟩)⟩;rw [decide_eq_true rfl];exact W5 ⟨rfl,N5,sm⟩
  ·rintro ys H' ⟨rfl,N5,sm⟩;refine ⟨szA,fun le H2 s2 n2 e2=>.inr (.inl ⟨1,.lst [],.lst [],by decide,.inr ⟨_,_,rfl,rfl⟩,?_,?_,?_⟩)⟩
   ·exact Zc5 (ss:=[]) (s2.at N5)
   ·exact Zc5 (ss:=[]) e2
   ·rw [decide_eq_true rfl];exact q H2
end
end K54
end
namespace K54
open PySem L2 NM YM
section
end
theorem Ybu{α:Type}{us:List α}(h:us.length=1):∃a,us=[a]:=by
 rcases us with _|⟨a,_|_⟩ <;>first|exact ⟨_,rfl⟩|cases h
theorem Zyr{α:Type}{us:List α}(h:us.length=2):∃a b,us=[a,b]:=by
 rcases us with _|⟨a,_|⟨b,_|_⟩⟩ <;>first|exact ⟨_,_,rfl⟩|cases h
theorem Zut{α:Type}{us:List α}(h:us.length=3):∃a b c,us=[a,b,c]:=by
 rcases us with _|⟨a,_|⟨b,_|⟨c,_|_⟩⟩⟩ <;>first|exact ⟨_,_,_,rfl⟩|cases h
theorem Zun{α:Type}{us:List α}(h:us.length=4):∃a b c d,us=[a,b,c,d]:=by
 rcases us with _|⟨a,_|⟨b,_|⟨c,_|⟨d,_|_⟩⟩⟩⟩ <;>first|exact ⟨_,_,_,_,rfl⟩|cases h
def NI(K:Frag)(x:Str)(f:Addr):Prop:=nsIn K mainGlobals x=some (some (.ref f))
inductive FG(K:Frag)(f:Addr)(x:Str)(st:Stmt):Prop
 | mk {oc od kV dc pm an cd ct sl} (a:nsIn K mainGlobals x=some (some (.ref f))) (l:K.lookup f=some ⟨oc,od,.func (fnOf x x (Xt st) (Xa st) (Zi st) .none kV dc pm an cd ct),sl⟩) (e:codeIn K cd x=true) (k:keepIn K (.ref f)=true)
inductive FM(K:Frag)(f c:Addr)(x q:Str)(st:Stmt):Prop
 | mk {oc od kV dc pm an cd ct sl} (a:findIn K (.ref c) x=some (some (.ref f))) (l:K.lookup f=some ⟨oc,od,.func (fnOf x q (Xt st) (Xa st) (Zi st) .none kV dc pm an cd ct),sl⟩) (e:codeIn K cd q=true) (k:keepIn K (.ref f)=true)
theorem FG.ex{K:Frag}{f:Addr}{x:Str}{st:Stmt}(h:FG K f x st):∃fd,Fun K x x st f fd:=let ⟨_,l,e,k⟩:=h;⟨_,Zkg l e k⟩
theorem FM.ex{K:Frag}{f c:Addr}{x q:Str}{st:Stmt}(h:FM K f c x q st):∃fd,Fun K x q st f fd:=let ⟨_,l,e,k⟩:=h;⟨_,Zkg l e k⟩
theorem FG.m{K:Frag}{f:Addr}{x:Str}{st:Stmt}{h:Heap}{mg:Str->Option Value}(X:K.In h)(G:h.Ns mainGlobals mg)(h:FG K f x st):mg x=some (.ref f):=let ⟨a,_,_,_⟩:=h;mg_of X G a
noncomputable def Za0 {K:Frag} {f:Addr} {x q:Str} {st:Stmt} {p1:Str} (h:∃fd,Fun K x q st f fd) (b:∀kV k7 pm an a9 ct a1,bindArgs (fnOf x q (Xt st) (Xa st) (Zi st) .none kV k7 pm an a9 ct) ⟨[a1],[]⟩=pure ([p1].zip [a1]):=by intros;rfl):Dn K x q st [p1]:=⟨f,Classical.choose h,Classical.choose_spec h,(Classical.choose_spec h).binds fun _ _ _ _ _ _ _ hl=>by obtain ⟨_,rfl⟩:=Ybu hl;exact b _ _ _ _ _ _ _⟩
noncomputable def Wy {K:Frag} {f:Addr} {x q:Str} {st:Stmt} {p1 p2:Str} (h:∃fd,Fun K x q st f fd) (b:∀kV k7 pm an a9 ct a1 a2,bindArgs (fnOf x q (Xt st) (Xa st) (Zi st) .none kV k7 pm an a9 ct) ⟨[a1,a2],[]⟩=pure ([p1,p2].zip [a1,a2]):=by intros;rfl):Dn K x q st [p1,p2]:=⟨f,Classical.choose h,Classical.choose_spec h,(Classical.choose_spec h).binds fun _ _ _ _ _ _ _ hl=>by obtain ⟨_,_,rfl⟩:=Zyr hl;exact b _ _ _ _ _ _ _ _⟩
noncomputable def Zms {K:Frag} {f:Addr} {x q:Str} {st:Stmt} {p1 p2 p3:Str} (h:∃fd,Fun K x q st f fd) (b:∀kV k7 pm an a9 ct a1 a2 a3,bindArgs (fnOf x q (Xt st) (Xa st) (Zi st) .none kV k7 pm an a9 ct) ⟨[a1,a2,a3],[]⟩=pure ([p1,p2,p3].zip [a1,a2,a3]):=by intros;rfl):Dn K x q st [p1,p2,p3]:=⟨f,Classical.choose h,Classical.choose_spec h,(Classical.choose_spec h).binds fun _ _ _ _ _ _ _ hl=>by obtain ⟨_,_,_,rfl⟩:=Zut hl;exact b _ _ _ _ _ _ _ _ _⟩
noncomputable def Zwa {K:Frag} {f:Addr} {x q:Str} {st:Stmt} {p1 p2 p3 p4:Str} (h:∃fd,Fun K x q st f fd) (b:∀kV k7 pm an a9 ct a1 a2 a3 a4,bindArgs (fnOf x q (Xt st) (Xa st) (Zi st) .none kV k7 pm an a9 ct) ⟨[a1,a2,a3,a4],[]⟩=pure ([p1,p2,p3,p4].zip [a1,a2,a3,a4]):=by intros;rfl):Dn K x q st [p1,p2,p3,p4]:=⟨f,Classical.choose h,Classical.choose_spec h,(Classical.choose_spec h).binds fun _ _ _ _ _ _ _ hl=>by obtain ⟨_,_,_,_,rfl⟩:=Zun hl;exact b _ _ _ _ _ _ _ _ _ _⟩
theorem Ya6{α:Type}{us:List α}(h:us.length=5):∃a b c d e,us=[a,b,c,d,e]:=by
 rcases us with _|⟨a,_|⟨b,_|⟨c,_|⟨d,_|⟨e,_|_⟩⟩⟩⟩⟩ <;>first|exact ⟨_,_,_,_,_,rfl⟩|cases h
noncomputable def Ybs {K:Frag} {f:Addr} {x q:Str} {st:Stmt} {p1 p2 p3 p4 p5:Str} (h:∃fd,Fun K x q st f fd) (b:∀kV k7 pm an a9 ct a1 a2 a3 a4 a5,bindArgs (fnOf x q (Xt st) (Xa st) (Zi st) .none kV k7 pm an a9 ct) ⟨[a1,a2,a3,a4,a5],[]⟩=pure ([p1,p2,p3,p4,p5].zip [a1,a2,a3,a4,a5]):=by intros;rfl):Dn K x q st [p1,p2,p3,p4,p5]:=⟨f,Classical.choose h,Classical.choose_spec h,(Classical.choose_spec h).binds fun _ _ _ _ _ _ _ hl=>by obtain ⟨_,_,_,_,_,rfl⟩:=Ya6 hl;exact b _ _ _ _ _ _ _ _ _ _ _⟩
theorem all_mk{l:PySem.W.OpenLaw}{w:World}{K:Frag}{h:Heap}{mg:Str->Option Value}{fa f0 f1 f2 f3 f4 f5 f6 f7 f8 f9 f10 f11 f12 f13 f14 f15 f16 f17 f18 f19 f20 f21 f22 f23 f24 f25 f26 f27 f28 f29 f30 f31 f32 f33 f34 f35 f36 f37 f38 f39 f40 f41 f42 f43 f44 f45 f46 f47 f48 f49 f50 f51 f52 f53 f54 f55 f56 f57 f58 f59 f60 f61 f62 f63 f64 f65 f66 f67 f68 f69 f70 f71 f72 f73 f74 f75 f76 f77 f78 f79 d8 g7 d5 d9 b7 c8 c5 m9 a8:Addr}(X:K.In h)(G:h.Ns mainGlobals mg) (hfa:mg "law" =some (.ref fa)) {od5 an5:Option Addr} {sl5:Array (Option Value)} {oc5 kV5 dc5 pm5 cd5 ct5:Value} {td5:Addr} {dod5:Option Addr} {dsl5:Array (Option Value)} {doc5:Value} {dn5:Nat} {dtk5:Tok} {od25 an25:Option Addr} {sl25:Array (Option Value)} {oc25 kV25 dc25 pm25 cd25 ct25:Value} {td25:Addr} {dod25:Option Addr} {dsl25:Array (Option Value)} {doc25:Value} {dn25:Nat} {od75 an75:Option Addr} {sl75:Array (Option Value)} {oc75 kV75 dc75 pm75 cd75 ct75:Value} {od79 an79:Option Addr} {sl79:Array (Option Value)} {oc79 kV79 dc79 pm79 cd79 ct79:Value} {J9:Tok} {K0:Tok} {x6:Tok} {B4:Tok} {x8:Tok} {v0:Tok} {R3 M6:Addr} {cod75:Option Addr} {cvs75:Array Value} {csl75:Array (Option Value)}
  (z_aa:NI K "Part" d8) (z_ab:NI K "Plain" g7) (z_ac:NI K "Stop" d5) (z_ad:NI K "Gate" d9) (z_ae:NI K "Points" b7) (z_af:NI K "Cross" c8) (z_ag:NI K "Tracks" c5) (z_ah:NI K "Train" m9) (z_ai:NI K "World" a8) (l0:FG K f0 "is_name" Zit) (l1:FM K f1 d8 "__init__" "Part.__init__" Zby) (l2:FM K f2 d8 "ends" "Part.ends" Zfx) (l3:FM K f3 d8 "lies" "Part.lies" Zfk) (l4:FM K f4 d8 "pairs" "Part.pairs" Zd5) (l6:FM K f6 d8 "bears" "Part.bears" Zea) (l7:FM K f7 d5 "ends" "Stop.ends" Zfa) (l8:FM K f8 d5 "pairs" "Stop.pairs" Zev) (l9:FM K f9 b7 "ends" "Points.ends" Zdp) (l10:FM K f10 b7 "lies" "Points.lies" Zc9) (l11:FM K f11 b7 "pairs" "Points.pairs" Zcm) (l12:FM K f12 b7 "bears" "Points.bears" Zcp) (l13:FM K f13 c8 "ends" "Cross.ends" Zec) (l14:FM K f14 c8 "pairs" "Cross.pairs" Zdt) (l15:FM K f15 c8 "bears" "Cross.bears" Zdg) (l16:FG K f16 "is_pair" Zil) (l17:FG K f17 "is_known" Zg2) (l18:FG K f18 "refuse_name" Zdf) (l19:FG K f19 "parts_by_name" Zbx) (l20:FG K f20 "ends_to_parts" Zbp) (l21:FG K f21 "refuse_join" Zdd) (l22:FG K f22 "joined_ends" Zc8) (l23:FG K f23 "refuse_post" Zdx) (l24:FG K f24 "posts_of" Zhe) (l26:FM K f26 c5 "names" "Tracks.names" Zcq) (l27:FM K f27 c5 "named" "Tracks.named" Zcu) (l28:FM K f28 c5 "beyond" "Tracks.beyond" Zbu) (l29:FM K f29 c5 "signal_at" "Tracks.signal_at" W7) (l30:FG K f30 "gates_of" Zgv) (l31:FG K f31 "points_of" Zf0) (l32:FG K f32 "lies_at_first" Zbv) (l33:FG K f33 "refuse_gate" Zdv) (l34:FG K f34 "refuse_length" Zbq) (l35:FG K f35 "refuse_points" Zbr) (l36:FG K f36 "refuse_lie" Zeq) (l37:FM K f37 m9 "__init__" "Train.__init__" Za2) (l38:FM K f38 a8 "__init__" "World.__init__" Za5) (l39:FM K f39 a8 "train_there" "World.train_there" Wt) (l40:FM K f40 a8 "led_to" "World.led_to" Zco) (l41:FM K f41 a8 "mishap_at" "World.mishap_at" Zae) (l42:FM K f42 a8 "move" "World.move" Zeh) (l43:FM K f43 a8 "come" "World.come" Zd6) (l44:FM K f44 a8 "go" "World.go" Zgu) (l45:FM K f45 a8 "about" "World.about" Zdj) (l46:FM K f46 a8 "leave" "World.leave" Zdi) (l47:FM K f47 a8 "turn" "World.turn" Zem) (l48:FM K f48 a8 "lies" "World.lies" Zd8) (l49:FM K f49 a8 "spots" "World.spots" Zdq) (l50:FM K f50 a8 "trains" "World.trains" Zce) (l51:FM K f51 a8 "taken" "World.taken" Zdl) (l52:FM K f52 a8 "accidents" "World.accidents" Zai) (l53:FG K f53 "_law_mixed" Zel) (l54:FG K f54 "_law_cell_at" Zcg) (l55:FG K f55 "_law_cells" Zei) (l56:FG K f56 "_law_ends" Ze9) (l57:FG K f57 "_law_name_by" Zch) (l58:FG K f58 "_law_block" Zep) (l59:FG K f59 "_law_line" Zfy) (l60:FG K f60 "_law_closed" Zdm) (l61:FG K f61 "_law_drawn" Zee) (l62:FG K f62 "_law_signals_by" Zat) (l63:FG K f63 "_law_yard_by" Zcd) (l64:FG K f64 "_law_part" Zfs) (l65:FG K f65 "_law_tracks" Zdr) (l66:FG K f66 "_law_leads" Zen) (l67:FG K f67 "_law_beyond" Zc7) (l68:FG K f68 "_law_signal" Zdw) (l69:FG K f69 "_law_kind" Zfv) (l70:FG K f70 "_law_gone" Zfw) (l71:FG K f71 "_law_stood" Zeo) (l72:FG K f72 "_law_turned" Zds) (l73:FG K f73 "_law_come" Zfq) (l74:FG K f74 "_law_points" Zdc) (l76:FG K f76 "_law_told" Zfp) (l77:FG K f77 "_law_changed" Zcv) (l78:FG K f78 "_law_seen" Ze8) (a5:findIn K (.ref d8) "leads" =some (some (.ref f5))) (l5:K.lookup f5=some ⟨oc5,od5,.func (fnOf "leads" "Part.leads" (Xt Wo) (Xa Wo) (Zi Wo) (.ref td5) kV5 dc5 pm5 an5 cd5 ct5),sl5⟩) (ld5:K.lookup td5=some ⟨doc5,dod5,.seq #[.str "" dtk5] dn5,dsl5⟩) (e5:codeIn K cd5 "Part.leads" =true) (k5:keepIn K (.ref f5)=true) (a25:findIn K (.ref c5) "__init__" =some (some (.ref f25))) (l25:K.lookup f25=some ⟨oc25,od25,.func (fnOf "__init__" "Tracks.__init__" (Xt Xk) (Xa Xk) (Zi Xk) (.ref td25) kV25 dc25 pm25 an25 cd25 ct25),sl25⟩) (ld25:K.lookup td25=some ⟨doc25,dod25,.seq #[.none] dn25,dsl25⟩) (e25:codeIn K cd25 "Tracks.__init__" =true) (k25:keepIn K (.ref f25)=true) (a75:nsIn K mainGlobals "_law_deed" =some (some (.ref f75))) (l75:K.lookup f75=some ⟨oc75,od75,.func (fnOf "_law_deed" "_law_deed" (Xt Wl) (Xa Wl) (Zi Wl) .none kV75 dc75 pm75 an75 cd75 ct75),sl75⟩) (e75:codeIn K cd75 "_law_deed" =true) (k75:keepIn K (.ref f75)=true) (a79:nsIn K mainGlobals "law" =some (some (.ref f79))) (l79:K.lookup f79=some ⟨oc79,od79,.func (fnOf "law" "law" (Xt Zho) (Xa Zho) (Zi Zho) .none kV79 dc79 pm79 an79 cd79 ct79),sl79⟩) (e79:codeIn K cd79 "law" =true) (k79:keepIn K (.ref f79)=true) (z_aj:Cls K d8) (z_ak:Cls K g7) (z_al:Cls K d5) (z_am:Cls K d9) (z_an:Cls K b7) (z_ao:Cls K c8) (z_ap:Cls K c5) (z_aq:Cls K m9) (z_ar:Cls K a8) (z_as:Mk K d8 f1) (z_at:Mk K g7 f1) (z_au:Mk K d5 f1) (z_av:Mk K d9 f1) (z_aw:Mk K b7 f1) (z_ax:Mk K c8 f1) (z_ay:Mk K c5 f25) (z_az:Mk K m9 f37) (z_a0:Mk K a8 f38) (z_a1:Z4 K d8 "ends" f2) (z_a2:Z4 K d8 "lies" f3) (z_a3:Z4 K d8 "pairs" f4) (z_a4:Z4 K d8 "bears" f6) (z_a5:Z4 K d8 "leads" f5) (z_a6:Z4 K g7 "ends" f2) (z_a7:Z4 K g7 "lies" f3) (z_a8:Z4 K g7 "pairs" f4) (z_a9:Z4 K g7 "bears" f6) (z_ba:Z4 K g7 "leads" f5) (z_bb:Z4 K d5 "ends" f7) (z_bc:Z4 K d5 "lies" f3) (z_bd:Z4 K d5 "pairs" f8) (z_be:Z4 K d5 "bears" f6) (z_bf:Z4 K d5 "leads" f5) (z_bg:Z4 K d9 "ends" f7) (z_bh:Z4 K d9 "lies" f3) (z_bi:Z4 K d9 "pairs" f8) (z_bj:Z4 K d9 "bears" f6) (z_bk:Z4 K d9 "leads" f5) (z_bl:Z4 K b7 "ends" f9) (z_bm:Z4 K b7 "lies" f10) (z_bn:Z4 K b7 "pairs" f11) (z_bo:Z4 K b7 "bears" f12) (z_bp:Z4 K b7 "leads" f5) (z_bq:Z4 K c8 "ends" f13) (z_br:Z4 K c8 "lies" f3) (z_bs:Z4 K c8 "pairs" f14) (z_bt:Z4 K c8 "bears" f15) (z_bu:Z4 K c8 "leads" f5) (z_bv:Z4 K c5 "names" f26) (z_bw:Z4 K c5 "named" f27) (z_bx:Z4 K c5 "beyond" f28) (z_by:Z4 K c5 "signal_at" f29) (z_bz:Z4 K a8 "train_there" f39) (z_b0:Z4 K a8 "led_to" f40) (z_b1:Z4 K a8 "mishap_at" f41) (z_b2:Z4 K a8 "move" f42) (z_b3:Z4 K a8 "come" f43) (z_b4:Z4 K a8 "go" f44) (z_b5:Z4 K a8 "about" f45) (z_b6:Z4 K a8 "turn" f47) (z_b7:Z4 K a8 "spots" f49) (z_b8:Z4 K a8 "trains" f50) (z_b9:Z4 K a8 "taken" f51) (z_ca:Z4 K a8 "accidents" f52) (z_cb:Z4 K a8 "leave" f46) (z_cc:Z4 K a8 "lies" f48) (z_cd:findIn K (.ref d8) "name" =some none) (z_ce:findIn K (.ref g7) "name" =some none) (z_cf:findIn K (.ref d5) "name" =some none) (z_cg:findIn K (.ref d9) "name" =some none) (z_ch:findIn K (.ref b7) "name" =some none) (z_ci:findIn K (.ref c8) "name" =some none) (z_cj:findIn K (.ref c5) "part_of" =some none) (z_ck:findIn K (.ref c5) "joined" =some none) (z_cl:findIn K (.ref c5) "post_of" =some none) (z_cm:findIn K (.ref c5) "signal_on" =some none) (z_cn:findIn K (.ref m9) "name" =some none) (z_co:findIn K (.ref m9) "long" =some none) (z_cp:findIn K (.ref m9) "stands" =some none) (z_cq:findIn K (.ref a8) "tracks" =some none) (z_cr:findIn K (.ref a8) "lie_of" =some none) (z_cs:findIn K (.ref a8) "train_of" =some none) (z_ct:findIn K (.ref a8) "mishaps" =some none) (z_cu:nsIn K mainGlobals "len" =some none) (z_cv:nsIn K mainGlobals "range" =some none) (z_cw:nsIn K mainGlobals "isinstance" =some none) (z_cx:nsIn K mainGlobals "list" =some none) (z_cy:nsIn K mainGlobals "dict" =some none) (z_cz:nsIn K mainGlobals "tuple" =some none) (z_c0:nsIn K mainGlobals "str" =some none) (z_c1:nsIn K mainGlobals "enumerate" =some none) (z_c2:nsIn K mainGlobals "max" =some none) (z_c3:nsIn K mainGlobals "min" =some none) (z_c4:nsIn K mainGlobals "sum" =some none) (z_c5:nsIn K mainGlobals "sorted" =some none) (z_c6:nsIn K mainGlobals "all" =some none) (z_c7:nsIn K mainGlobals "reversed" =some none) (z_c8:nsIn K mainGlobals "bool" =some none) (z_c9:nsIn K mainGlobals "int" =some none) (z_da:nsIn K mainGlobals "repr" =some none) (z_db:nsIn K mainGlobals "LETTERS" =some (some (.str "abcdefghijklmnopqrstuvwxyz" J9))) (z_dc:nsIn K mainGlobals "FIGURES" =some (some (.str "0123456789" K0))) (z_dd:nsIn K mainGlobals "LONGEST_NAME" =some (some (.int 6 x6))) (z_de:nsIn K mainGlobals "MOST_PARTS" =some (some (.int 40 B4))) (z_df:nsIn K mainGlobals "MOST_SIGNALS" =some (some (.int 40 x8))) (z_dg:nsIn K mainGlobals "LONGEST_TRAIN" =some (some (.int 4 v0))) (tG:PySem.W.specialIn K (.builtin "object.__class__") "__get__" =some (some (.builtin "getset_descriptor.__get__"))) (tK:PySem.W.takesIn K (.builtin "object.__class__")=some true) (z_dh:findIn K (.ref d8) "__class__" =some (some (.builtin "object.__class__"))) (z_di:findIn K (.ref g7) "__class__" =some (some (.builtin "object.__class__"))) (z_dj:findIn K (.ref d5) "__class__" =some (some (.builtin "object.__class__"))) (z_dk:findIn K (.ref d9) "__class__" =some (some (.builtin "object.__class__"))) (z_dl:findIn K (.ref b7) "__class__" =some (some (.builtin "object.__class__"))) (z_dm:findIn K (.ref c8) "__class__" =some (some (.builtin "object.__class__"))) (z_dn:PySem.W.mroIn K d8 (.type "object")=some true) (z_do:PySem.W.mroIn K g7 (.type "object")=some true) (z_dp:PySem.W.mroIn K d5 (.type "object")=some true) (z_dq:PySem.W.mroIn K d9 (.type "object")=some true) (z_dr:PySem.W.mroIn K b7 (.type "object")=some true) (z_ds:PySem.W.mroIn K c8 (.type "object")=some true) (z_dt:kitOne K (.type "tuple") (.type "tuple")=some true) (z_du:kitOne K (.type "str") (.type "str")=some true) (z_dv:kitOne K (.type "int") (.type "int")=some true) (z_dw:kitOne K (.type "int") (.type "bool")=some false) (z_dx:kitOne K (.type "dict") (.type "dict")=some true) (z_dy:kitOne K (.type "list") (.type "dict")=some false) (z_dz:kitOne K (.ref d8) (.ref d5)=some false) (z_d0:kitOne K (.ref g7) (.ref d5)=some false) (z_d1:kitOne K (.ref d5) (.ref d5)=some true) (z_d2:kitOne K (.ref d9) (.ref d5)=some true) (z_d3:kitOne K (.ref b7) (.ref d5)=some false) (z_d4:kitOne K (.ref c8) (.ref d5)=some false) (z_d5:kitOne K (.ref d8) (.ref d9)=some false) (z_d6:kitOne K (.ref g7) (.ref d9)=some false) (z_d7:kitOne K (.ref d5) (.ref d9)=some false) (z_d8:kitOne K (.ref d9) (.ref d9)=some true) (z_d9:kitOne K (.ref b7) (.ref d9)=some false) (z_ea:kitOne K (.ref c8) (.ref d9)=some false) (z_eb:kitOne K (.ref d8) (.ref b7)=some false) (z_ec:kitOne K (.ref g7) (.ref b7)=some false) (z_ed:kitOne K (.ref d5) (.ref b7)=some false) (z_ee:kitOne K (.ref d9) (.ref b7)=some false) (z_ef:kitOne K (.ref b7) (.ref b7)=some true) (z_eg:kitOne K (.ref c8) (.ref b7)=some false) (ce75:cd75=.ref R3) (cv75:K.lookup R3=some ⟨.type "code",cod75,.fields cvs75,csl75⟩) (cp75:cvs75[11]? =some (.ref M6)) (ch75:PySem.W.codeHdIn K R3 M6=true) (tm:∀p∈([M6]:List Addr),h.get? p=some (PySem.W.tabObj #[])) (tn:([M6]:List Addr).Nodup) (tq:PySem.W.noTabs K=true)
  :∃(fd:FuncData) (tabs:List (Addr×Array Value)),Zk9 K h tabs/\(∀(s:Shared) (v:Value),BindsTo s fd ⟨[v],[]⟩ [("_law_script",v)])/\∀base:Heap,K.In base->base.Ns mainGlobals mg->(∃mm,base.Ns sysModules mm)->Z2 l.prog w K mg base CX0 9 fa fd ["_law_script"] (Zkw K tabs):=by
 have e:=hfa.symm.trans (mg_of X G a79);cases e;let U:Tx K mg:=⟨Za0 l0.ex,l0.m X G,Wy l1.ex,Za0 l2.ex,Za0 l3.ex,Wy l4.ex,⟨f5,_,_,Zsn (st:=Wo) l5 e5 k5,fun s us KX hl=>by
   rw [List.append_nil] at hl ⊢;obtain ⟨_,_,_,rfl⟩:=Zut hl;exact BindsTo.of_defaults rfl (KX _ _ ld5) rfl rfl rfl,.str "" dtk5,⟨dtk5,rfl⟩,fun s us KX hl=>by
   have h2:us.length=2:=by simpa using hl
   obtain ⟨_,_,rfl⟩:=Zyr h2;exact BindsTo.of_defaults rfl (KX _ _ ld5) rfl rfl rfl⟩,Za0 l6.ex,Za0 l7.ex,Wy l8.ex,Za0 l9.ex,Za0 l10.ex,Wy l11.ex,Za0 l12.ex,Za0 l13.ex,Wy l14.ex,Za0 l15.ex,Za0 l16.ex,l16.m X G,Wy l17.ex,l17.m X G,Wy l18.ex,l18.m X G,Za0 l19.ex,l19.m X G,Za0 l20.ex,l20.m X G,Zms l21.ex,l21.m X G,Wy l22.ex,l22.m X G,Zms l23.ex,l23.m X G,Wy l24.ex,l24.m X G,⟨f25,_,_,Zsn (st:=Xk) l25 e25 k25,fun s us KX hl=>by
   rw [List.append_nil] at hl ⊢;obtain ⟨_,_,_,_,rfl⟩:=Zun hl;exact BindsTo.of_defaults rfl (KX _ _ ld25) rfl rfl rfl,.none,rfl,fun s us KX hl=>by
   have h2:us.length=3:=by simpa using hl
   obtain ⟨_,_,_,rfl⟩:=Zut h2;exact BindsTo.of_defaults rfl (KX _ _ ld25) rfl rfl rfl⟩,Za0 l26.ex,Wy l27.ex,Wy l28.ex,Wy l29.ex,Za0 l30.ex,l30.m X G,Za0 l31.ex,l31.m X G,Za0 l32.ex,l32.m X G,Wy l33.ex,l33.m X G,Za0 l34.ex,l34.m X G,Wy l35.ex,l35.m X G,Zms l36.ex,l36.m X G,Zwa l37.ex,Wy l38.ex,Wy l39.ex,Wy l40.ex,Wy l41.ex,Zms l42.ex,Zwa l43.ex,Zms l44.ex,Wy l45.ex,Wy l46.ex,Zms l47.ex,Za0 l48.ex,Wy l49.ex,Za0 l50.ex,Za0 l51.ex,Za0 l52.ex,Wy l53.ex,l53.m X G,Wy l54.ex,l54.m X G,Zms l55.ex,l55.m X G,Za0 l56.ex,l56.m X G,Zms l57.ex,l57.m X G,Wy l58.ex,l58.m X G,Za0 l59.ex,l59.m X G,Zwa l60.ex,l60.m X G,Za0 l61.ex,l61.m X G,Wy l62.ex,l62.m X G,Wy l63.ex,l63.m X G,Wy l64.ex,l64.m X G,Za0 l65.ex,l65.m X G,Zms l66.ex,l66.m X G,Wy l67.ex,l67.m X G,Wy l68.ex,l68.m X G,Wy l69.ex,l69.m X G,Zwa l70.ex,l70.m X G,Za0 l71.ex,l71.m X G,Zms l72.ex,l72.m X G,Ybs l73.ex,l73.m X G,Zwa l74.ex,l74.m X G,⟨f75,_,Zkg (st:=Wl) l75 e75 k75,(Zkg (st:=Wl) l75 e75 k75).binds (ps:=["_law_world", "_law_yard", "_law_state", "_law_cell"]) fun _ _ _ _ _ _ us hl=>by obtain ⟨_,_,_,_,rfl⟩:=Zun hl;rfl⟩,mg_of X G a75,Wy l76.ex,l76.m X G,Wy l77.ex,l77.m X G,Ybs l78.ex,l78.m X G,d8,mg_of X G z_aa,z_aj,z_cd,z_as,z_a1,z_a2,z_a3,z_a4,z_a5,g7,mg_of X G z_ab,z_ak,z_ce,z_at,z_a6,z_a7,z_a8,z_a9,z_ba,d5,mg_of X G z_ac,z_al,z_cf,z_au,z_bb,z_bc,z_bd,z_be,z_bf,d9,mg_of X G z_ad,z_am,z_cg,z_av,z_bg,z_bh,z_bi,z_bj,z_bk,b7,mg_of X G z_ae,z_an,z_ch,z_aw,z_bl,z_bm,z_bn,z_bo,z_bp,c8,mg_of X G z_af,z_ao,z_ci,z_ax,z_bq,z_br,z_bs,z_bt,z_bu,c5,mg_of X G z_ag,z_ap,z_cj,z_ck,z_cl,z_cm,z_ay,z_bv,z_bw,z_bx,z_by,m9,mg_of X G z_ah,z_aq,z_cn,z_co,z_cp,z_az,a8,mg_of X G z_ai,z_ar,z_cq,z_cr,z_cs,z_ct,z_a0,z_bz,z_b0,z_b1,z_b2,z_b3,z_b4,z_b5,z_b6,z_b7,z_b8,z_b9,z_ca,z_cb,z_cc,PySem.W.mg_none_of X G z_cu,PySem.W.mg_none_of X G z_cv,PySem.W.mg_none_of X G z_cw,PySem.W.mg_none_of X G z_cx,PySem.W.mg_none_of X G z_cy,PySem.W.mg_none_of X G z_cz,PySem.W.mg_none_of X G z_c0,PySem.W.mg_none_of X G z_c1,PySem.W.mg_none_of X G z_c2,PySem.W.mg_none_of X G z_c3,PySem.W.mg_none_of X G z_c4,PySem.W.mg_none_of X G z_c5,PySem.W.mg_none_of X G z_c6,PySem.W.mg_none_of X G z_c7,PySem.W.mg_none_of X G z_c8,PySem.W.mg_none_of X G z_c9,PySem.W.mg_none_of X G z_da,z_dt,z_du,z_dv,z_dw,z_dx,z_dy,z_dz,z_d0,z_d1,z_d2,z_d3,z_d4,z_d5,z_d6,z_d7,z_d8,z_d9,z_ea,z_eb,z_ec,z_ed,z_ee,z_ef,z_eg,⟨_,mg_of X G z_db⟩,⟨_,mg_of X G z_dc⟩,⟨_,mg_of X G z_dd⟩,⟨_,mg_of X G z_de⟩,⟨_,mg_of X G z_df⟩,⟨_,mg_of X G z_dg⟩,tG,tK,z_dh,z_dn,z_di,z_do,z_dj,z_dp,z_dk,z_dq,z_dl,z_dr,z_dm,z_ds,M6,⟨R3,ce75,ch75⟩⟩
 have TO:Zk9 K h U.tabs:=⟨List.forall_mem_cons.mpr ⟨⟨R3,ch75⟩,fun _ z=>nomatch z⟩,List.forall_mem_cons.mpr ⟨tm M6 (by simp),fun _ z=>nomatch z⟩,List.forall_mem_cons.mpr ⟨⟨_,rfl,by decide⟩,fun _ z=>nomatch z⟩,tn,tq⟩
 exact ⟨fnOf "law" "law" (Xt Zho) (Xa Zho) (Zi Zho) .none kV79 dc79 pm79 an79 cd79 ct79,U.tabs,TO,fun s v=>.of_eq rfl,fun base _ _=>Zz5 (Zkg (st:=Zho) l79 e79 k79) U⟩
theorem tabs_all{K:Params->Frag}{as:List Addr}{e:∀P,as=(K P).map (·.1)}{ts ps:List Addr}{w:World}{h:Heap}(Y:(PySem.W.kmHook K as e ts).says w h)(i:(ps.all fun p=>ts.contains p)=true:=by decide):∀p∈ps,h.get? p=some (PySem.W.tabObj #[]):=fun p hp =>
 PySem.W.km_tabs_of Y p (List.contains_iff_mem.mp (List.all_eq_true.mp i p hp))
theorem walk{l:PySem.W.OpenLaw}{q:Program}{C0:List Str}{XP:(Str->Option Value)->Heap->Prop}{YP:World->Heap->Prop}{d:DefRec}{K:Params->Frag}(hn:l.most=some 63)(hdf:d.params.defaults=[])
  (hY:∀(w:World) (h:Heap),YP w h->(K w.params).In h)
  (F:∀(w:World) (mg:Str->Option Value) (fa:Addr) (h:Heap),YP w h->(K w.params).In h->h.Ns mainGlobals mg->mg d.name=some (.ref fa) ->
   ∃(fd:FuncData) (tabs:List (Addr×Array Value)),Zk9 (K w.params) h tabs/\(∀(s:Shared) (u:Value),BindsTo s fd ⟨[u],[]⟩ [("_law_script",u)])/\∀base:Heap,(K w.params).In base->base.Ns mainGlobals mg->(∃mm,base.Ns sysModules mm)->Z2 l.prog w (K w.params) mg base CX0 9 fa fd ["_law_script"] (Zkw (K w.params) tabs)) (hq:PyProof.Rows.importsNone q=true) :
  PySem.W.WalkO q C0 XP YP l.row.toRowW d [] (fun f vs=>PySem.call f vs):=L2.walk_ofS (k:=9) (x := "_law_script") hn hdf ⟨rfl,by decide,by decide,rfl⟩ hY F hq
end K54
namespace PySem.W.Fast
def tw2846053891047412675:=True
def tw7547125630437980726:=True
def tw10474258984899249180:=True
def tw1963005223341967807:=True
def tw6135351603050465998:=True
def tw11059598965984439019:=True
def tw9565120598953402760:=True
def tw16654637714684496411:=True
def tw842994670257938706:=True
def tw13746410506484836352:=True
def tw11553260385947519662:=True
def tw16495388926497319762:=True
def tw5573502424192353698:=True
def tw10745334542575542636:=True
def tw9439193043928349185:=True
def tw6101438608951601715:=True
def tw13757705586193530964:=True
def tw12105012140316889236:=True
def tw16068912899566832133:=True
def tw7412160380268478565:=True
def tw9201942199084344147:=True
def tw9469497615461059428:=True
def tw15813403849079612589:=True
def tw4561546813620743869:=True
def tw411622659918901645:=True
def tw4005864173431457765:=True
def tw15025890068014073156:=True
def tw1808977656235994816:=True
def tw13728183166381741311:=True
def tw17632623253286001738:=True
def tw12596178017306888909:=True
def tw3141196811789290580:=True
def tw14220479452921736543:=True
def tw10891280370302305584:=True
def tw15623331782988279340:=True
def tw17334762014107306943:=True
def tw12228751901997632276:=True
def tw6798104870315875131:=True
def tw8529432350058858422:=True
def tw2990564011008684555:=True
def tw12064930716615010289:=True
def tw2944676171544686641:=True
def tw11997648991280595516:=True
def tw8487321509714816447:=True
def tw16828453834534714085:=True
def tw7028945430987535466:=True
def tw12983534360037150169:=True
def tw6305664164387119596:=True
def tw6344130662450376915:=True
def tw15825073331828061492:=True
def tw14498516320939854460:=True
def tw2433526189740571563:=True
def tw128296187680812623:=True
def tw14161753206958918967:=True
def tw1773092683044981585:=True
def tw1112479139757788491:=True
def tw196944535747618709:=True
def tw6515377436904121208:=True
def tw17410612981247997295:=True
def tw17874331778472110301:=True
def tw5994345951295738418:=True
def tw2785541545844959504:=True
def tw18269706450564673987:=True
def tw15192857723814864151:=True
def tw4037617381833475445:=True
def tw7854433126992438127:=True
def tw6803600325501917685:=True
def tw6099169732028253358:=True
def tw15908253343878308133:=True
def tw10021345570149903616:=True
def tw12302280923005722526:=True
def tw12335917130530983558:=True
def tw4278468287166592702:=True
def tw10326148724647013960:=True
def tw17111585888838183573:=True
def tw927275676361857295:=True
def tw1458988908531665640:=True
def tw13687960390229849124:=True
def tw6681510725419494717:=True
def tw11312613723909562365:=True
def tw7645028244333157769:=True
def tw16560066824101623824:=True
def tw659340319296700744:=True
def tw5337700751662286178:=True
def tw11232190250944054696:=True
def tw9104377001665108912:=True
def tw17509215478138971522:=True
def tw17552670899694425686:=True
def tw8705777011160647952:=True
def tw7520821445315505607:=True
def tw13245126430702025134:=True
def tw12162322150002285631:=True
def tw7349114856807567031:=True
def tw18126532733915798457:=True
def tw3311764394605372053:=True
def tw12111763711078845643:=True
def tw9553402761876860769:=True
def tw7737194436788282997:=True
def tw13358166455284493318:=True
def tw81378854131666420:=True
def tw7751634976312706068:=True
def tw5455005714626000078:=True
def tw4304673379409820239:=True
def tw6719420803025725140:=True
def tw551186648326140239:=True
def tw11171218544537492813:=True
def tw15023779464575776667:=True
def tw9589466054152860808:=True
def tw17272344489664008609:=True
def tw6296831360693154077:=True
def tw11966149299806705899:=True
def tw11235924068692428640:=True
def tw6369537685776120708:=True
def tw6951420668674515131:=True
def tw11679693732397072426:=True
def tw2256943603416298394:=True
def tw5691795342462842291:=True
def tw5984117808379493633:=True
def tw7815943906131944398:=True
def tw10685799597464523129:=True
def tw8006353149166951132:=True
def tw1569455692062667110:=True
def tw1743749883530197256:=True
def tw13810408647734201248:=True
def tw14567791707632501848:=True
def tw15854676471379244086:=True
def tw13553273322603150291:=True
def tw15486888698477831779:=True
def tw13484440782821844888:=True
def tw12936891703305666465:=True
def tw16546056774987834317:=True
def tw11487417301639255739:=True
def tw8822702702513355299:=True
def tw1072981337910526971:=True
def tw7019051258562324471:=True
def tw11216153385687520784:=True
def tw4372792898333321524:=True
def tw13442111332659000199:=True
def tw6746623366089582483:=True
def tw5157525364728223515:=True
def tw3095189444969498882:=True
def tw2939611454818928405:=True
def tw2496617070855909766:=True
def tw5755333860676729170:=True
def tw11282109610785591825:=True
def tw18443055837865792509:=True
def tw5226007531915646373:=True
def tw7230542555579055140:=True
def tw18082441395264028740:=True
def tw2947273564551811459:=True
def tw4433286170747115410:=True
def tw5806094412984121439:=True
def tw16348267665998625583:=True
def tw10023231838743975598:=True
def tw8856458993263204209:=True
def tw7530860249060711350:=True
def tw12119691218451484798:=True
def tw1913845086961534933:=True
def tw3084152553770817004:=True
def tw4677254493603154426:=True
def tw16707700611141210562:=True
def tw14670838630258691215:=True
def tw3958323850636496237:=True
def tw8144825650196524747:=True
def tw6022192918017431002:=True
def tw5303970731565277638:=True
def tw16823824472676006188:=True
def tw1766324371204450138:=True
def tw10710220674003766516:=True
def tw8825770198465459213:=True
def tw12469946963596998555:=True
def tw374355047751289787:=True
def tw2834412422052821863:=True
def tw1115099552877422483:=True
def tw7618697851666371910:=True
def tw2587046563336870569:=True
def tw3033350002065968179:=True
def tw15836969061560368448:=True
def tw8275498685467271496:=True
def tw14288407276800765863:=True
def tw6880136809280845687:=True
def tw5565949975838323529:=True
def tw20735605318094145:=True
def tw11600024265678323909:=True
def tw12719099177524521076:=True
def tw12157746228780512338:=True
def tw2517568835271839496:=True
def tw7256727960742496017:=True
def tw4411700383167391007:=True
def tw8617991847866803857:=True
def tw3294947447986909593:=True
def tw10323619649396124353:=True
def tw14503170264697396932:=True
def tw15818090620738350920:=True
def tw6377508978503566096:=True
def tw12006870658180368898:=True
def tw9464785298266264276:=True
def tw14436751010363977140:=True
def tw12077111854050490458:=True
def tw17811771921816624387:=True
def tw12865487124799893815:=True
def tw17669862766693740252:=True
def tw6240051866280862413:=True
def tw9267445873861433624:=True
def tw11968064827143794539:=True
def tw2004804867647655451:=True
end PySem.W.Fast
open PySem PySem.W PyProof.Rows
set_option maxRecDepth 100000 in
set_option maxHeartbeats 0 in
theorem PySem.Challenge.cw_yardkeep_k54_whole_world_holds : PySem.Challenge.rw_yardkeep_k54_whole_world.Holds := by
  w_on; o_law; k_head; (case hw=>w_witness2)
  k_fill
  refine K54.walk (l:=PySem.Challenge.rw_yardkeep_k54_whole_world) rfl rfl (fun w h Y=>PySem.W.km_in_of Y) ?F ?Qz
  case Qz=>kernel_rfl
  case F =>
    intro w mg fa h Y KX G hmg
    refine' K54.all_mk KX G hmg ?q0a ?q0b ?q0c ?q0d ?q0e ?q0f ?q0g ?q0h ?q0i ?q0j ?q0k ?q0l ?q0m ?q0n ?q0o ?q0p ?q0q ?q0r ?q0s ?q0t ?q0u ?q0v ?q0w ?q0x ?q0y ?q0z ?q00 ?q01 ?q02 ?q03 ?q04 ?q05 ?q06 ?q07 ?q08 ?q09 ?q1a ?q1b ?q1c ?q1d ?q1e ?q1f ?q1g ?q1h ?q1i ?q1j ?q1k ?q1l ?q1m ?q1n ?q1o ?q1p ?q1q ?q1r ?q1s ?q1t ?q1u ?q1v ?q1w ?q1x ?q1y ?q1z ?q10 ?q11 ?q12 ?q13 ?q14 ?q15 ?q16 ?q17 ?q18 ?q19 ?q2a ?q2b ?q2c ?q2d ?q2e ?q2f ?q2g ?q2h ?q2i ?q2j ?q2k ?q2l ?q2m ?q2n ?q2o ?q2p ?q2q ?q2r ?q2s ?q2t ?q2u ?q2v ?q2w ?q2x ?q2y ?q2z ?q20 ?q21 ?q22 ?q23 ?q24 ?q25 ?q26 ?q27 ?q28 ?q29 ?q3a ?q3b ?q3c ?q3d ?q3e ?q3f ?q3g ?q3h ?q3i ?q3j ?q3k ?q3l ?q3m ?q3n ?q3o ?q3p ?q3q ?q3r ?q3s ?q3t ?q3u ?q3v ?q3w ?q3x ?q3y ?q3z ?q30 ?q31 ?q32 ?q33 ?q34 ?q35 ?q36 ?q37 ?q38 ?q39 ?q4a ?q4b ?q4c ?q4d ?q4e ?q4f ?q4g ?q4h ?q4i ?q4j ?q4k ?q4l ?q4m ?q4n ?q4o ?q4p ?q4q ?q4r ?q4s ?q4t ?q4u ?q4v ?q4w ?q4x ?q4y ?q4z ?q40 ?q41 ?q42 ?q43 ?q44 ?q45 ?q46 ?q47 ?q48 ?q49 ?q5a ?q5b ?q5c ?q5d ?q5e ?q5f ?q5g ?q5h ?q5i ?q5j ?q5k ?q5l ?q5m ?q5n ?q5o ?q5p ?q5q ?q5r ?q5s ?q5t ?q5u ?q5v ?q5w ?q5x ?q5y ?q5z ?q50 ?q51 ?q52 ?q53 ?q54 ?q55 ?q56 ?q57 ?q58 ?q59 ?q6a ?q6b ?q6c ?q6d ?q6e ?q6f ?q6g ?q6h ?q6i ?q6j ?q6k ?q6l ?q6m ?q6n ?q6o ?q6p ?q6q ?q6r ?q6s ?q6t ?q6u ?q6v ?q6w ?q6x ?q6y ?q6z ?q60 ?q61 ?q62 ?q63 ?q64 ?q65 ?q66 ?q67 ?q68 ?q69 ?q7a ?q7b
    case q0a|q0b|q0c|q0d|q0e|q0f|q0g|q0h|q0i=>(delta K54.NI;k_is)
    case q0j|q0k|q0l|q0m|q0n|q0o|q0p|q0q|q0r|q0s|q0t|q0u|q0v|q0w|q0x|q0y|q0z|q00|q01|q02|q03|q04|q05|q06|q07|q08|q09|q1a|q1b|q1c|q1d|q1e|q1f|q1g|q1h|q1i|q1j|q1k|q1l|q1m|q1n|q1o|q1p|q1q|q1r|q1s|q1t|q1u|q1v|q1w|q1x|q1y|q1z|q10|q11|q12|q13|q14|q15|q16|q17|q18|q19|q2a|q2b|q2c|q2d|q2e|q2f|q2g|q2h|q2i|q2j|q2k|q2l|q2m=>(refine' ⟨?xqz,?xqa,?xqb,?xqc⟩;(case xqz=>k_is);(case xqa=>k_is);(case xqb=>k_is);(case xqc=>k_is))
    case q2n|q2o|q2p|q2q|q2r|q2s|q2t|q2u|q2v|q2w|q2x|q2y|q2z|q20|q21|q22|q23|q24=>k_is
    case q25|q26|q27|q28|q29|q3a|q3b|q3c|q3d|q3e|q3f|q3g|q3h|q3i|q3j|q3k|q3l|q3m=>refine ⟨?_,?_,?_,?_⟩<;>k_is
    case q3n|q3o|q3p|q3q|q3r|q3s|q3t|q3u|q3v|q3w|q3x|q3y|q3z|q30|q31|q32|q33|q34|q35|q36|q37|q38|q39|q4a|q4b|q4c|q4d|q4e|q4f|q4g|q4h|q4i|q4j|q4k|q4l|q4m|q4n|q4o|q4p|q4q|q4r|q4s|q4t|q4u|q4v|q4w|q4x|q4y=>refine ⟨?_,?_,?_⟩<;>k_is
    case q4z|q40|q41|q42|q43|q44|q45|q46|q47|q48|q49|q5a|q5b|q5c|q5d|q5e|q5f|q5g|q5h|q5i|q5j|q5k|q5l|q5m|q5n|q5o|q5p|q5q|q5r|q5s|q5t|q5u|q5v|q5w|q5x|q5y|q5z|q50|q51|q52|q53|q54|q55|q56|q57|q58|q59|q6a|q6b|q6c|q6d|q6e|q6f|q6g=>k_is
    case q6h|q6i|q6j|q6k|q6l|q6m|q6n|q6o|q6p|q6q|q6r|q6s|q6t|q6u|q6v|q6w|q6x|q6y|q6z|q60|q61|q62|q63|q64=>kit_is
    case q65=>rfl
    case q66=>k_is
    case q67=>rfl
    case q68=>kernel_rfl
    case q69=>exact K54.tabs_all Y
    case q7a=>decide
    case q7b=>kernel_rfl
