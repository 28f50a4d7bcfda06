import PyProof.Rows.All
import Wide.All
import OpenK.AllK
import PySem.Challenge.RW_yardkeep_k52_world_refuses
set_option Elab.async false
set_option linter.all false
set_option maxRecDepth 100000
set_option maxHeartbeats 4000000
local macro_rules|`(tactic|trivial)=>`(tactic|decide +kernel)
open PySem.W (Frag kitOne keepIn findIn nsIn mg_of fnOf codeIn)
namespace L2
open PySem PySem.Spec PyProof.Rows
abbrev Key:=Sum Int Str
def Zhg:Key->Value->Bool
 | .inl k,v=>Value.isInt k v
 | .inr x,v=>Value.isStrOf x v
def Yaw(w:World):Key->Int
 | .inl k=>hashInt k
 | .inr x=>hashStr w x
theorem Y2:∀{k:Key} {v:Value},Zhg k v=true->(∃i t,k=Sum.inl i/\v=Value.int i t)\/(∃x t,k=Sum.inr x/\v=Value.str x t)
 | .inl i,v,h=>by
  obtain ⟨t,e⟩:=Value.isInt_shape (k:=i) (v:=v) h;exact .inl ⟨i,t,rfl,e⟩
 | .inr x,v,h=>by
  obtain ⟨t,e⟩:=Value.isStrOf_shape (x:=x) (v:=v) h;exact .inr ⟨x,t,rfl,e⟩
theorem Zrq(i:Int)(t:Tok):Zhg (.inl i) (.int i t)=true:=by simp [Zhg,Value.isInt]
theorem Zrc(x:Str)(t:Tok):Zhg (.inr x) (.str x t)=true:=by simp [Zhg,Value.isStrOf]
theorem Zw5(a b:Int):decide ((Sum.inl a:Key)=Sum.inl b)=(a ==b):=by
 by_cases e:a=b
 ·subst e;simp
 ·have h:¬(Sum.inl a:Key)=Sum.inl b:=fun q=>e (Sum.inl.inj q)
  rw [decide_eq_false h];exact (beq_eq_false_iff_ne.mpr e).symm
theorem Zx4(a b:Str):decide ((Sum.inr a:Key)=Sum.inr b)=decide (a=b):=by
 by_cases e:a=b
 ·subst e;simp
 ·have h:¬(Sum.inr a:Key)=Sum.inr b:=fun q=>e (Sum.inr.inj q)
  rw [decide_eq_false h,decide_eq_false e]
theorem Zwo(a:Int)(b:Str):decide ((Sum.inl a:Key)=Sum.inr b)=false:=decide_eq_false (fun q=>nomatch q)
theorem Zx8(a:Str)(b:Int):decide ((Sum.inr a:Key)=Sum.inl b)=false:=decide_eq_false (fun q=>nomatch q)
def Zz(prog:Program)(w:World):PySem.KeyKind prog w Key where
 is:=Zhg
 hash:=Yaw w
 inj:=fun v a b ha hb=>by
  rcases Y2 ha with ⟨i,t,rfl,rfl⟩|⟨x,t,rfl,rfl⟩
  ·rcases Y2 hb with ⟨j,u,rfl,e⟩|⟨y,u,rfl,e⟩
   ·injection e with e1 _;rw [e1]
   ·exact nomatch e
  ·rcases Y2 hb with ⟨j,u,rfl,e⟩|⟨y,u,rfl,e⟩
   ·exact nomatch e
   ·injection e with e1 _;rw [e1]
 byValue:=fun k v h=>by
  rcases Y2 h with ⟨i,t,rfl,rfl⟩|⟨x,t,rfl,rfl⟩ <;>rfl
 pyHash:=fun hv h=>by
  rcases Y2 hv with ⟨i,t,rfl,rfl⟩|⟨x,t,rfl,rfl⟩
  ·exact wpAny_pyHash_int h
  ·exact wpAny_pyHash_str h
 eqBool:=fun hu hv h=>by
  rcases Y2 hu with ⟨i,t,rfl,rfl⟩|⟨x,t,rfl,rfl⟩
  ·rcases Y2 hv with ⟨j,u,rfl,rfl⟩|⟨y,u,rfl,rfl⟩
   ·rw [Zw5] at h;exact wpAny_eqBool_int h
   ·rw [Zwo] at h;exact SeqAt.EqAt.int_str i t y u _ _ _ _ h
  ·rcases Y2 hv with ⟨j,u,rfl,rfl⟩|⟨y,u,rfl,rfl⟩
   ·rw [Zx8] at h;exact SeqAt.EqAt.str_int x t j u _ _ _ _ h
   ·rw [Zx4] at h;exact wpAny_eqBool_str h
 «strs» :=fun k x t v h=>by
  rcases Y2 h with ⟨i,u,rfl,e⟩|⟨y,u,rfl,e⟩
  ·exact nomatch e
  ·injection e with e1 _
   subst e1;cases v <;>rfl
theorem Zm4(prog:Program)(w:World)(i:Int)(t:Tok):(Zz prog w).is (.inl i) (.int i t)=true:=Zrq i t
theorem Zni(prog:Program)(w:World)(x:Str)(t:Tok):(Zz prog w).is (.inr x) (.str x t)=true:=Zrc x t
end L2
namespace L2
open PySem PySem.Spec PyProof.Rows
inductive V where
 | non | bl (b:Bool) | int (i:Int) | str (x:Str) | byt (b:Array UInt8) | flt (b:UInt64) | ref (a:Addr) | ty (n:String)
 deriving DecidableEq
def Ye:V->Value->Prop
 | .non,u=>u=Value.none
 | .bl b,u=>u=Value.bool b
 | .int i,u=>∃t,u=Value.int i t
 | .str x,u=>∃t,u=Value.str x t
 | .byt b,u=>∃t,u=Value.bytes b t
 | .flt b,u=>∃t,u=Value.float b t
 | .ref a,u=>u=Value.ref a
 | .ty n,u=>u=Value.type n
abbrev Z5:List V->List Value->Prop:=Paired Ye
theorem Z5.length{xs:List V}{us:List Value}(r:Z5 xs us):xs.length=us.length:=Paired.length r
theorem Z5.get:∀{xs:List V} {us:List Value} {i:Nat} {x:V},Z5 xs us->xs[i]? =some x->∃u,us[i]? =some u/\Ye x u
 | _,_,_,_,.nil,e=>by simp at e
 | _,_,0,_,.cons r _,e=>by simp at e;subst e;exact ⟨_,rfl,r⟩
 | _,_,i+1,x,.cons _ t,e=>by
  obtain ⟨u,h1,h2⟩:=Z5.get (i:=i) (x:=x) t (by simpa using e);exact ⟨u,by simpa using h1,h2⟩
theorem Z5.set{x:V}{u:Value}(r:Ye x u):∀{xs:List V} {us:List Value} (i:Nat),Z5 xs us->Z5 (xs.set i x) (us.set i u)
 | _,_,_,.nil=>.nil
 | _,_,0,.cons _ t=>.cons r t
 | _,_,i+1,.cons q t=>.cons q (Z5.set r i t)
theorem Z5.append:∀{xs ys:List V} {us ws:List Value},Z5 xs us->Z5 ys ws->Z5 (xs++ys) (us++ws)
 | _,_,_,_,.nil,s=>s
 | _,_,_,_,.cons r t,s=>.cons r (Z5.append t s)
theorem Z5.take:∀{xs:List V} {us:List Value} (n:Nat),Z5 xs us->Z5 (xs.take n) (us.take n)
 | _,_,0,_=>.nil
 | _,_,_+1,.nil=>.nil
 | _,_,n+1,.cons r t=>.cons r (Z5.take n t)
theorem Z5.drop:∀{xs:List V} {us:List Value} (n:Nat),Z5 xs us->Z5 (xs.drop n) (us.drop n)
 | _,_,0,r=>r
 | _,_,_+1,.nil=>.nil
 | _,_,n+1,.cons _ t=>Z5.drop n t
def Zc0:Option V->Option Value->Prop
 | some v,some u=>Ye v u
 | none,none=>True
 | _,_=>False
def KV{κ:Type}:List (κ×V)->List (κ×Value)->Prop:=Paired fun (p:κ×V) (q:κ×Value)=>p.1=q.1/\Ye p.2 q.2
def kV:Key->V
 | .inl i=>.int i
 | .inr x=>.str x
inductive HO where
  | lst (xs:List V)
  | tup (xs:List V)
  | dK (kvs:List (Key×V)) | dT (kvs:List (List Key×V))
  | set (S:Int->Bool) (n:Nat)
  | ins (C dx:Addr) (fs:List (Str×V))
  | own (x:Addr)
  | xd (fs:List (Str×V))
  | met (f x:Addr)
  | rng (lo hi:Int)
  | frz (o:Obj) (u:HO)
  | tbl (ps:Array Value)
  | ext (φ:Heap->Prop)
abbrev Hp:=Addr->Option HO
def upd(H:Hp)(a:Addr)(o:HO):Hp:=fun b=>if b=a then some o else H b
theorem Zi{H:Hp}{a:Addr}{o:HO}:upd H a o a=some o:=by unfold upd;rw [if_pos rfl]
theorem Zd{H:Hp}{a b:Addr}{o:HO}(h:b≠a):upd H a o b=H b:=by unfold upd;rw [if_neg h]
theorem Zwc{H:Hp}{a b:Addr}{o u:HO}(h:H a=some o)(h':H b=some u)(d:o≠u):a≠b:=by
 intro e;subst e;rw [h] at h';exact d (Option.some.inj h')
theorem Zg{H:Hp}{a b:Addr}{o:HO}(h:H a=some o)(h':H b=none):a≠b:=by
 intro e;subst e;rw [h] at h';cases h'
def Zk4(oc:Obj)(c Pn:Addr):Prop:=∀h:Heap,h.get? c=some oc->PySem.W.CodeHd h c Pn
def Xl(ls:List (Nat×Nat×Str)):Array Value:=(ls.flatMap fun p=>[rawInt p.1,rawInt p.2.1,.str p.2.2 0]).toArray
def Zbe(fs:List (Nat×Nat×Str×Addr)):Array Value:=(fs.flatMap fun f=>[rawInt f.1,rawInt f.2.1,.ref f.2.2.2]).toArray
theorem Zis{m n:Nat}(h:rawInt m=rawInt n):m=n:=by
 unfold rawInt at h
 injection h with h
 lia
theorem Zs2:∀{ls ms:List (Nat×Nat×Str)},Xl ls=Xl ms->ls=ms:=by
 intro ls ms h;have h:(ls.flatMap fun p=>[rawInt p.1,rawInt p.2.1,Value.str p.2.2 0])=ms.flatMap fun p=>[rawInt p.1,rawInt p.2.1,Value.str p.2.2 0]:=by
  unfold Xl at h;simpa using h
 induction ls generalizing ms with
 | nil=>cases ms with
  | nil=>rfl
  | cons m r=>simp at h
 | cons l r ih=>cases ms with
  | nil=>simp at h
  | cons m r2 =>
   simp only [List.flatMap_cons,List.cons_append,List.nil_append,List.cons.injEq] at h;obtain ⟨h1,h2,h3,h4⟩:=h;obtain ⟨l1,l2,l3⟩:=l;obtain ⟨m1,m2,m3⟩:=m;have e1:l1=m1:=Zis h1;have e2:l2=m2:=Zis h2;have e3:l3=m3:=by injection h3
   have e4:r=r2:=by first | exact ih (congrArg List.toArray h4) h4 | exact ih (congrArg List.toArray h4)
   rw [e1,e2,e3,e4]
theorem Zpl:∀{ls:List (Nat×Nat×Str)},Xl ls ≠ #[Value.none]
 | [],h=>by simp [Xl] at h
 | _ ::_,h=>by simp [Xl] at h
theorem Zdq:∀fs:List (Nat×Nat×Str×Addr),TriplesOk (Zbe fs).toList
 | []=>trivial
 | f ::fs=>by
  have:=Zdq fs;unfold Zbe at this ⊢;simpa [TriplesOk,rawInt] using this
theorem Zjf{pos:Pos}{cv:Value}:∀{fs:List (Nat×Nat×Str×Addr)},codeAmong pos (Zbe fs).toList=some cv->∃f∈fs,cv=.ref f.2.2.2/\f.1=pos.line/\f.2.1=pos.col
 | [],h=>by simp [Zbe,codeAmong] at h
 | f ::fs,h=>by
  have e:(Zbe (f ::fs)).toList=rawInt f.1 ::rawInt f.2.1 ::Value.ref f.2.2.2 ::(Zbe fs).toList:=by simp [Zbe]
  rw [e] at h;have h:(if ((f.1:Int) ==(pos.line:Int) && (f.2.1:Int) ==(pos.col:Int))=true then some (Value.ref f.2.2.2) else codeAmong pos (Zbe fs).toList)=some cv:=h;split at h
  ·rename_i z;simp only [Bool.and_eq_true,beq_iff_eq] at z;exact ⟨f,List.mem_cons_self,(Option.some.inj h).symm,by lia,by lia⟩
  ·obtain ⟨g,hg,r⟩:=Zjf h;exact ⟨g,List.mem_cons_of_mem _ hg,r⟩
theorem Zqm(fs:List (Nat×Nat×Str×Addr))(f:Nat×Nat×Str×Addr):Zbe (fs++[f])=Zbe fs ++ #[rawInt f.1,rawInt f.2.1,.ref f.2.2.2]:=by
 unfold Zbe;simp
section
variable (P:Program) (w:World)
def Yf(H:Hp)(h:Heap)(a:Addr):HO->Prop
 | .lst xs=>xs.length<=sizeLine/\∃(a8:List Value) (n:Nat),Z5 xs a8/\h.get? a=some { cls:=.type "list",data:=.seq a8.toArray n }
 | .tup xs=>xs.length<=sizeLine/\∃a8:List Value,Z5 xs a8/\IsTup h a a8.toArray
 | .dK kvs=>kvs.length<=sizeLine/\(a ==sysModules)=false/\∃vs,KV kvs vs/\h.DictOf (Zz P w) a vs
 | .dT kvs=>kvs.length<=sizeLine/\(a ==sysModules)=false/\∃xs:List (List Key×Addr×Value),
   Paired (fun (p:List Key×V) (q:List Key×Addr×Value)=>p.1=q.1/\H q.2.1=some (.tup (p.1.map kV))/\Ye p.2 q.2.2) kvs xs /\
   ∃o es ep,h.get? a=some o/\o.ExactDict/\o.data=.dict es ep/\es.toList=xs.map (entryOfKey (tupleKind (Zz P w)))/\(xs.map (·.1)).Nodup
 | .set S n=>h.SetOf (intKind P w) a S n
 | .ins C dx fs=>H dx=some (.own a)/\fs.length<=1000/\dx≠a/\h.get? a=some (PySem.W.instObj C dx) /\
   ∃mA,h.Ns1 dx mA/\(∀f,Zc0 (fs.lookup f) (mA f))/\PySem.Within mA (fs.map (·.1))
 | .own _=>∃o,h.get? a=some o
 | .xd fs=>∃mA,h.Ns1 a mA/\∀f,Zc0 (fs.lookup f) (mA f)
 | .rng lo hi=>∃t u v,h.get? a=some { cls:=.type "range",data:=.fields #[.int lo t,.int hi u,.int 1 v] }
 | .frz o u=>h.get? a=some o/\Yf H h a u
 | .tbl ps=>∃qs:Array Value,h.get? a=some { cls:=.none,data:=.fields qs }/\(ps=#[.none]/\TriplesOk qs.toList\/∃(ls:List (Nat×Nat×Str)) (fs:List (Nat×Nat×Str×Addr)),ps=Xl ls/\(ls.map fun p=>(p.1,p.2.1)).Nodup/\qs=Zbe fs /\
   ∀f∈fs,((f.1,f.2.1,f.2.2.1):Nat×Nat×Str)∈ls/\∃(oc:Obj) (vs:Array Value) (tt:Nat) (Pn:Addr),H f.2.2.2=some (.frz oc (.own a))/\oc.data=.fields vs/\vs[1]? =some (.str f.2.2.1 tt)/\H Pn=some (.tbl #[.none])/\Zk4 oc f.2.2.2 Pn)
 | .met f x=>h.get? a=some (PySem.W.methodObj (.ref f) (.ref x))
 | .ext φ=>φ h/\(∃o,h.get? a=some o)/\∀h1 h2:Heap,φ h1->(∀o,h1.get? a=some o->h2.get? a=some o)->φ h2
def HOk(H:Hp)(h:Heap):Prop:=∀a o,H a=some o->Yf P w H h a o
end
section
variable {P:Program} {w:World} {H H':Hp} {h h':Heap} {a:Addr} {o:HO}
theorem Yf.lt(x:Yf P w H h a o):a<h.objs.size:=by
 cases o with
 | lst xs=>obtain ⟨_,_,_,_,e⟩:=x;exact Heap.lt_size e
 | tup xs=>obtain ⟨_,_,_,p⟩:=x;exact p.lt
 | dK kvs=>obtain ⟨_,_,_,_,o,_,_,e,_⟩:=x;exact Heap.lt_size e
 | dT kvs=>obtain ⟨_,_,_,_,o,_,_,e,_⟩:=x;exact Heap.lt_size e
 | set S n=>obtain ⟨o,_,_,_,e,_⟩:=x;exact Heap.lt_size e
 | ins C dx fs=>obtain ⟨_,_,_,e,_⟩:=x;exact Heap.lt_size e
 | own y=>obtain ⟨_,e⟩:=x;exact Heap.lt_size e
 | xd fs=>obtain ⟨_,⟨_,_,_,e,_⟩,_⟩:=x;exact Heap.lt_size e
 | rng lo hi=>obtain ⟨_,_,_,e⟩:=x;exact Heap.lt_size e
 | frz ob u=>obtain ⟨e,_⟩:=x;exact Heap.lt_size e
 | tbl ps =>
  obtain ⟨_,e,_⟩:=x;exact Heap.lt_size e
 | met f y=>exact Heap.lt_size (show h.get? a=some _ from x)
 | ext φ=>obtain ⟨_,⟨_,e⟩,_⟩:=x;exact Heap.lt_size e
theorem Paired.mapP{α β:Type}{F G:α->β->Prop}:∀{l₁:List α} {l₂:List β},Paired F l₁ l₂->(∀a b,F a b->G a b)->Paired G l₁ l₂
 | _,_,.nil,_=>.nil
 | _,_,.cons r t,f=>.cons (f _ _ r) (Paired.mapP t f)
theorem Yf.stay(x:Yf P w H h a o)(k:∀b u,(b=a\/H b=some (.own a))->h.get? b=some u->h'.get? b=some u)
  (ho:∀b,H b=some (.own a)->H' b=some (.own a)) (ht:∀b xs,H b=some (.tup xs)->H' b=some (.tup xs))
  (hz:∀b o,H b=some (.frz o (.own a))->H' b=some (.frz o (.own a)):=by first | exact fun _ _ q=>q | (intro b o q;rw [Zd (Zg q (by assumption))];exact q))
  (hw:∀b ps,H b=some (.tbl ps)->H' b=some (.tbl ps):=by first | exact fun _ _ q=>q | (intro b o q;rw [Zd (Zg q (by assumption))];exact q)):Yf P w H' h' a o:=by
 induction o with
 | lst xs=>obtain ⟨z,a8,n,r,e⟩:=x;exact ⟨z,a8,n,r,k _ _ (.inl rfl) e⟩
 | tup xs=>obtain ⟨z,a8,r,ob,e,c⟩:=x;exact ⟨z,a8,r,ob,k _ _ (.inl rfl) e,c⟩
 | dK kvs=>obtain ⟨z,y,vs,r,ob,es,ep,e,c⟩:=x;exact ⟨z,y,vs,r,ob,es,ep,k _ _ (.inl rfl) e,c⟩
 | dT kvs =>
  obtain ⟨z,y,xs,r,ob,es,ep,e,c⟩:=x;exact ⟨z,y,xs,Paired.mapP r fun p q z=>⟨z.1,ht _ _ z.2.1,z.2.2⟩,ob,es,ep,k _ _ (.inl rfl) e,c⟩
 | set S n=>obtain ⟨ob,es,ep,t,e,c⟩:=x;exact ⟨ob,es,ep,t,k _ _ (.inl rfl) e,c⟩
 | ins C dx fs =>
  obtain ⟨d,z,ne,e,mA,⟨od,es,ep,e2,c⟩,r⟩:=x;exact ⟨ho _ d,z,ne,k _ _ (.inl rfl) e,mA,⟨od,es,ep,k _ _ (.inr d) e2,c⟩,r⟩
 | own y=>obtain ⟨ob,e⟩:=x;exact ⟨ob,k _ _ (.inl rfl) e⟩
 | xd fs=>obtain ⟨mA,⟨od,es,ep,e,c⟩,r⟩:=x;exact ⟨mA,⟨od,es,ep,k _ _ (.inl rfl) e,c⟩,r⟩
 | rng lo hi=>obtain ⟨t,u,v,e⟩:=x;exact ⟨t,u,v,k _ _ (.inl rfl) e⟩
 | frz ob u ih=>obtain ⟨e,q⟩:=x;exact ⟨k _ _ (.inl rfl) e,ih q⟩
 | tbl ps =>
  obtain ⟨qs,e,q⟩:=x;exact ⟨qs,k a _ (.inl rfl) e,q.imp_right fun ⟨ls,fs,e1,e2,e3,q⟩=>⟨ls,fs,e1,e2,e3,fun f hf=>let ⟨z1,oc,vs,tt,Pn,f1,f2,f3,f4,f5⟩:=q f hf;⟨z1,oc,vs,tt,Pn,hz _ _ f1,f2,f3,hw _ _ f4,f5⟩⟩⟩
 | met f y =>
  have e:h.get? a=some (PySem.W.methodObj (.ref f) (.ref y)):=x;show h'.get? a=some (PySem.W.methodObj (.ref f) (.ref y));exact k a _ (.inl rfl) e
 | ext φ=>obtain ⟨p,⟨o,e⟩,st⟩:=x;exact ⟨st _ _ p fun o q=>k _ _ (.inl rfl) q,⟨o,k _ _ (.inl rfl) e⟩,st⟩
theorem HOk.lt(x:HOk P w H h)(e:H a=some o):a<h.objs.size:=(x a o e).lt
theorem HOk.fresh(x:HOk P w H h)(e:h.objs.size<=a):H a=none:=by
 cases q:H a with
 | none=>rfl
 | some u=>exact absurd (Nat.lt_of_lt_of_le (x.lt q) e) (Nat.lt_irrefl _)
theorem HOk.kept(x:HOk P w H h)(k:∀b u,h.get? b=some u->h'.get? b=some u):HOk P w H h':=fun a o e =>
 (x a o e).stay (fun b u _ q=>k b u q) (fun _ q=>q) fun _ _ q=>q
theorem HOk.laid(x:HOk P w H h)(k:∀b u,h.get? b=some u->h'.get? b=some u)(hp:h.objs.size<=a)(new:Yf P w (upd H a o) h' a o):HOk P w (upd H a o) h':=fun b u e=>by
 have hn:=x.fresh hp
 by_cases hb:b=a
 ·subst hb;rw [Zi] at e;cases e;exact new
 ·rw [Zd hb] at e;exact (x b u e).stay (fun c v _ q=>k c v q) (fun c q=>by rw [Zd (Zg q hn)];exact q) fun c xs q=>by rw [Zd (Zg q hn)];exact q
end
def Rd(H:Hp)(a:Addr)(u:HO):Prop:=H a=some u\/∃o,H a=some (.frz o u)
theorem Rd.ok{P:Program}{w:World}{H:Hp}{h:Heap}{a:Addr}{u:HO}(r:Rd H a u)(x:HOk P w H h):Yf P w H h a u:=by
 rcases r with r|⟨o,r⟩
 ·exact x a u r
 ·obtain ⟨_,q⟩:=x a _ r;exact q
def Mut:Option HO->Prop
 | some (.lst _)=>True
 | some (.dK _)=>True
 | some (.dT _)=>True
 | some (.set _ _)=>True
 | some (.ins _ _ _)=>True
 | some (.ext _)=>True
 | _=>False
section
variable {P:Program} {w:World} {H:Hp} {h h':Heap} {x e:Addr} {o':HO}
theorem HOk.write(ok:HOk P w H h)(mu:Mut (H x))(he:e=x\/H e=some (.own x))(k:∀b u,b≠e->h.get? b=some u->h'.get? b=some u)(heo:∃u,h'.get? e=some u)
  (new:Yf P w (upd H x o') h' x o'):HOk P w (upd H x o') h':=fun b u q=>by
 have nown:∀c y,H c=some (.own y)->c≠x:=fun c y r z=>by subst z;rw [r] at mu;exact mu
 have ntup:∀c xs,H c=some (.tup xs)->c≠x:=fun c xs r z=>by subst z;rw [r] at mu;exact mu
 have nfrz:∀c o y,H c=some (.frz o (.own y))->c≠x:=fun c o y r z=>by subst z;rw [r] at mu;exact mu
 by_cases hb:b=x
 ·subst hb;rw [Zi] at q;cases q;exact new
 ·rw [Zd hb] at q
  by_cases hbe:b=e
  ·have q':H b=some (.own x):=by
    rcases he with z|z
    ·exact absurd (hbe.trans z) hb
    ·rw [hbe];exact z
   rw [q] at q';cases q';obtain ⟨v,hv⟩:=heo;exact ⟨v,by rw [hbe];exact hv⟩
  ·refine (ok b u q).stay (fun c v hc r=>k c v ?_ r) (fun c r=>by rw [Zd (nown c b r)];exact r) (fun c xs r=>by rw [Zd (ntup c xs r)];exact r) (fun c o r=>by rw [Zd (nfrz c o b r)];exact r) (fun c ps r=>by rw [Zd fun z=>by subst z;rw [r] at mu;exact mu];exact r);rcases hc with rfl|hc
   ·exact hbe
   ·rintro rfl;rcases he with z|z
    ·exact nown c b hc z
    ·rw [hc] at z;cases z;exact hb rfl
end
structure Un(fs ex:List Addr)(H H':Hp)(h h':Heap):Prop where
 keep:∀b o,h.get? b=some o->H b=none->b∉fs->b∉ex->h'.get? b=some o
 slot:∀b o,h.get? b=some o->H b=none->b∈fs->b∉ex->∃sl,h'.get? b=some { o with slots:=sl }
 free:∀b o,h.get? b=some o->H b=none->b∉ex->H' b=none
 there:∀b o,h.get? b=some o->b∉ex->∃o',h'.get? b=some o'
 tups:∀b xs,H b=some (.tup xs)->H' b=some (.tup xs)
 frzs:∀b o u,H b=some (.frz o u)->H' b=some (.frz o u)
 tbls:∀b ps,H b=some (.tbl ps)->∃more,H' b=some (.tbl (ps++more))
section
variable {fs fs' ex ex':List Addr} {H H1 H2:Hp} {h h1 h2 h':Heap} {a x e:Addr} {o:HO}
theorem Un.any(u:Un fs ex H H1 h h1){b:Addr}{ob:Obj}(q:h.get? b=some ob)(n:H b=none)(hx:b∉ex):∃sl,h1.get? b=some { ob with slots:=sl }:=by
 by_cases hb:b∈fs
 ·exact u.slot b ob q n hb hx
 ·exact ⟨ob.slots,u.keep b ob q n hb hx⟩
theorem Un.kept(k:∀b u,h.get? b=some u->h'.get? b=some u):Un fs ex H H h h' :=
 ⟨fun b ob q _ _ _=>k b ob q,fun b ob q _ _ _=>⟨ob.slots,k b ob q⟩,fun _ _ _ n _=>n,fun b ob q _=>⟨ob,k b ob q⟩,fun _ _ q=>q,fun _ _ _ q=>q,fun _ ps q=>⟨#[],by rw [q];simp⟩⟩
theorem Un.refl:Un fs ex H H h h:=Un.kept fun _ _ q=>q
theorem Un.laid(k:∀b u,h.get? b=some u->h'.get? b=some u)(hp:h.objs.size<=a)(hn:H a=none):Un fs ex H (upd H a o) h h' where
 keep:=fun b u q _ _ _=>k b u q
 slot:=fun b u q _ _ _=>⟨u.slots,k b u q⟩
 free:=fun b u q n _=>by rw [Zd (Nat.ne_of_lt (Nat.lt_of_lt_of_le (Heap.lt_size q) hp))];exact n
 there:=fun b u q _=>⟨u,k b u q⟩
 tups:=fun b xs q=>by rw [Zd (Zg q hn)];exact q
 frzs:=fun b u xs q=>by rw [Zd (Zg q hn)];exact q
 tbls:=fun b ps q=>⟨#[],by rw [Zd (Zg q hn),q];simp⟩
theorem Un.write(mu:Mut (H x))(he:e=x\/H e=some (.own x))(k:∀b u,b≠e->h.get? b=some u->h'.get? b=some u)(heo:∃u,h'.get? e=some u):Un fs ex H (upd H x o) h h':=by
 have hx:∀b,H b=none->b≠x:=fun b n z=>by subst z;rw [n] at mu;exact mu
 have hb:∀b,H b=none->b≠e:=fun b n z=>by
  subst z;rcases he with r|r
  ·exact hx b n r
  ·rw [n] at r;cases r
 have hm:∀b u,H b=some u->¬Mut (some u)->b≠x:=fun b u q nm z=>by subst z;rw [q] at mu;exact nm mu
 refine ⟨fun b u q n _ _=>k b u (hb b n) q,fun b u q n _ _=>⟨u.slots,k b u (hb b n) q⟩,fun b u q n _=>by rw [Zd (hx b n)];exact n,fun b u q _=>?_,
  fun b xs q=>by rw [Zd (hm b _ q fun z=>z)];exact q,fun b u xs q=>by rw [Zd (hm b _ q fun z=>z)];exact q,fun b ps q=>⟨#[],by rw [Zd (hm b _ q fun z=>z),q];simp⟩⟩
 by_cases hbe:b=e
 ·subst hbe;exact heo
 ·exact ⟨u,k b u hbe q⟩
end
def trk(h:Heap)(H:Hp):List Addr:=(List.range h.objs.size).filter fun a=>(H a).isSome
def Zmq(h:Heap)(H:Hp):Heap:=PySem.W.hideAll h (trk h H)
theorem Zq7(h:Heap)(H:Hp):(Zmq h H).objs.size=h.objs.size:=PySem.W.hideAll_size _ _
theorem Zta{h:Heap}{H:Hp}{b:Addr}{o:Obj}(e:h.get? b=some o)(n:H b=none):(Zmq h H).get? b=some o :=
 PySem.W.hideAll_get _ e fun hm=>by
  have q:(H b).isSome=true:=(List.mem_filter.mp hm).2;rw [n] at q;simp at q
theorem Zvp{h:Heap}{H:Hp}{b:Addr}{o:Obj}(e:(Zmq h H).get? b=some o):h.get? b=some o/\H b=none:=by
 have e':h.get? b=some o:=PySem.W.of_hideAll (trk h H) e;refine ⟨e',?_⟩;cases q:H b with
 | none=>rfl
 | some x =>
  have hm:b∈trk h H:=List.mem_filter.mpr ⟨List.mem_range.mpr (Heap.lt_size e'),by simp [q]⟩;have z:(Zmq h H).get? b=none:=PySem.W.hideAll_none (trk h H) hm;rw [z] at e;cases e
def Zvv(g h:Heap)(L:Addr):List (Addr×Obj):=(List.range h.objs.size).filterMap fun a=>if a=L\/(g.get? a).isSome=true then none else (h.get? a).map fun o=>(a,o)
def Z3(g h:Heap)(L d:Addr):List (Addr×Obj):=(Zvv g h L).filter fun p=>decide (p.1≠d)
end L2
namespace L2
open PySem PySem.Spec PyProof.Rows
def Zv1(mg:Str->Option Value)(h:Heap):Prop:=∃bm ob,mg "__builtins__" =some (.ref bm)/\bm≠builtinsNs/\h.get? bm=some ob/\ob.cls=.type "module" /\ob.dict=some builtinsNs/\ob.data=.plain
structure Mod(K:Frag)(mg:Str->Option Value)(base:Heap):Prop where
 kin:K.In base
 glob:base.Ns mainGlobals mg
 blt:∃mb,base.Ns builtinsNs mb/\∀x:Str,x ≠ "__name__" ->mb x=bootBuiltins x
 nolimit:base.NoLimit
 bm:Zv1 mg base
structure Cx where
 prog:Program
 w:World
 K:Frag
 mg:Str->Option Value
 base:Heap
 A:Around
 N:List Str
 s₀:Shared
 H₀:Hp
 env:Env
 outer:List Env
 stack:List Env
 ex:List Addr
 fn:Str->Bool
 calm:Bool
 pn:List (Addr×Obj)
 xe:Value->Shared->Prop
def frs(l:List Env):List Addr:=l.filterMap (·.frame)
abbrev Cx.fs(X:Cx):List Addr:=frs X.outer
def Vis(sc:Scope)(x:Str):Prop:=sc.names.lookup x=some .local\/sc.names.lookup x=some .cell\/sc.names.lookup x=some .free
def Loc(sc:Scope)(x:Str):Prop:=sc.names.lookup x=some .local\/sc.names.lookup x=some .cell
def Yap(env:Env)(h:Heap)(m:Str->Option Value)(x:Str)(u:Value):Prop :=
 (env.kindOf x=some .local/\m x=some u)\/((env.kindOf x=some .cell\/env.kindOf x=some .free)/\∃c,env.cells.lookup x=some c/\h.IsCell c (some u))
structure Cx.Ok(X:Cx):Prop where
 mod:Mod X.K X.mg X.base
 kind:X.env.scope.kind=.function
 glob:X.env.globals=mainGlobals
 blt:X.env.builtins=builtinsNs
 above:X.s₀.heap.objs.size<=X.env.locals
 inj:∀x y c,X.env.cells.lookup x=some c->X.env.cells.lookup y=some c->x=y
 has:∀x,(X.env.kindOf x=some .cell\/X.env.kindOf x=some .free)->∃c,X.env.cells.lookup x=some c
 cab:∀x c,X.fn x=true->X.env.cells.lookup x=some c->X.s₀.heap.objs.size<=c
 hd:X.calm=true->X.A.handled=none
 frames:X.A.frames=some X.stack
 stk:X.stack=X.outer\/(X.stack=X.env ::X.outer/\X.env.frame=some X.env.locals)
 exf:∀b∈X.ex,b≠X.env.locals/\∀x c,X.env.cells.lookup x=some c->c≠b
 bs:∀b o,X.base.get? b=some o->X.s₀.heap.get? b=some o/\X.H₀ b=none
 bsz:X.base.objs.size<=X.s₀.heap.objs.size
 noex:∀b o,X.base.get? b=some o->b∉X.ex
 exfs:∀b∈X.ex,b∉X.fs
 funs:X.s₀.heap.FunFrames X.base X.outer
 frf:∀b∈X.fs,X.H₀ b=none
structure Inv(X:Cx)(a7:List (Addr×Obj))(σ:List (Option V))(H:Hp)(s:Shared):Prop where
 ok:X.Ok
 os:s.os=X.s₀.os
 bare:AllBare s.gens
 base:Un X.fs X.ex X.H₀ H X.s₀.heap s.heap
 loc:∃m,s.heap.Ns X.env.locals m/\∀(i:Nat) (x:Str) (v:V),X.N[i]? =some x->σ[i]? =some (some v)->Vis X.env.scope x->∃u,Ye v u/\Yap X.env s.heap m x u
 cell:∀x c,X.env.cells.lookup x=some c->∃v,s.heap.IsCell c v
 free:H X.env.locals=none
 freeC:∀x c,X.env.cells.lookup x=some c->H c=none
 pin:∀p∈X.pn++a7,s.heap.get? p.1=some p.2/\H p.1=none/\p.1≠X.env.locals/\p.1∉X.fs/\∀v,p.2.data ≠ .cell v
 hok:HOk X.prog X.w H s.heap
 len:σ.length=X.N.length
section
variable {X:Cx} {a7:List (Addr×Obj)} {σ:List (Option V)} {H H':Hp} {s:Shared} {h':Heap}
theorem Cx.Ok.nofr(ok:X.Ok){b:Addr}{o:Obj}(e:X.base.get? b=some o):b∉X.fs:=fun hb=>by
 have:=(ok.funs.mem hb).1;rw [e] at this;cases this
theorem Inv.bs(I:Inv X a7 σ H s):∀b o,X.base.get? b=some o->s.heap.get? b=some o/\H b=none:=fun b o e =>
 ⟨I.base.keep b o (I.ok.bs b o e).1 (I.ok.bs b o e).2 (I.ok.nofr e) (I.ok.noex b o e),I.base.free b o (I.ok.bs b o e).1 (I.ok.bs b o e).2 (I.ok.noex b o e)⟩
theorem Inv.bk(I:Inv X a7 σ H s):∀b o,X.base.get? b=some o->s.heap.get? b=some o:=fun b o e=>(I.bs b o e).1
theorem Inv.mod(I:Inv X a7 σ H s):Mod X.K X.mg X.base:=I.ok.mod
theorem Inv.kIn(I:Inv X a7 σ H s):X.K.In s.heap:=I.ok.mod.kin.keeps I.bk
theorem Inv.fr(I:Inv X a7 σ H s):∃m,Fr X.base X.env.locals s.heap m :=
 let ⟨m,hn,_⟩:=I.loc
 ⟨m,hn,I.bk,Nat.le_trans I.ok.bsz I.ok.above⟩
theorem Inv.lt(I:Inv X a7 σ H s):X.env.locals<s.heap.objs.size:=let ⟨_,hn,_⟩:=I.loc;hn.lt
theorem Inv.sz(I:Inv X a7 σ H s):X.s₀.heap.objs.size<=s.heap.objs.size:=Nat.le_trans I.ok.above (Nat.le_of_lt I.lt)
theorem Inv.nofs(I:Inv X a7 σ H s){a:Addr}(h:s.heap.objs.size<=a):a∉X.fs:=fun hb=>by
 obtain ⟨_,o,ho,_⟩:=I.ok.funs.mem hb;exact absurd (Nat.lt_of_lt_of_le (Heap.lt_size ho) (Nat.le_trans I.sz h)) (Nat.lt_irrefl _)
theorem Inv.cne(I:Inv X a7 σ H s):∀x c,X.env.cells.lookup x=some c->c≠X.env.locals:=fun x c e z=>by
 obtain ⟨v,o,ho,hd⟩:=I.cell x c e;obtain ⟨m,⟨o',es,ep,R4,hd',_⟩,_⟩:=I.loc;rw [z,R4] at ho;cases ho;rw [hd'] at hd;cases hd
theorem Inv.funs(I:Inv X a7 σ H s):s.heap.FunFrames X.base X.outer:=by
 have all:∀(l:List Env),(∀b∈frs l,b∈X.fs)->X.s₀.heap.FunFrames X.base l->s.heap.FunFrames X.base l:=by
  intro l
  induction l with
  | nil=>intro _ _;trivial
  | cons env r ih =>
   intro hs hl;obtain ⟨hk,⟨L,o,hf,hn,ho,hd⟩,hr⟩:=hl;have hL:L∈X.fs:=hs L (by unfold frs;rw [List.filterMap_cons,hf];exact List.mem_cons_self);obtain ⟨sl,e⟩:=I.base.slot L o ho (I.ok.frf L hL) hL fun z=>I.ok.exfs L z hL
   exact ⟨hk,⟨L,_,hf,hn,e,hd⟩,ih (fun b hb=>hs b (by unfold frs;rw [List.filterMap_cons,hf];exact List.mem_cons_of_mem _ hb)) hr⟩
 exact all X.outer (fun _ hb=>hb) I.ok.funs
theorem Inv.stack(I:Inv X a7 σ H s):s.heap.FunFrames X.base X.stack:=by
 rcases I.ok.stk with e|⟨e,hf⟩
 ·rw [e];exact I.funs
 ·rw [e];obtain ⟨m,hn,_⟩:=I.loc;refine .cons (by rw [I.ok.kind];decide) hf hn ?_ I.funs;exact Heap.get?_none_of_le (Nat.le_trans I.ok.bsz I.ok.above)
theorem Inv.stkSub(I:Inv X a7 σ H s):∀b∈frs X.stack,b∈X.env.locals ::X.fs:=fun b hb=>by
 rcases I.ok.stk with e|⟨e,hf⟩
 ·rw [e] at hb;exact List.mem_cons_of_mem _ hb
 ·rw [e] at hb;unfold frs at hb;rw [List.filterMap_cons,hf] at hb;exact hb
theorem Inv.stkFree(I:Inv X a7 σ H s):∀b∈frs X.stack,H b=none:=fun b hb=>by
 rcases List.mem_cons.mp (I.stkSub b hb) with e|hb
 ·rw [e];exact I.free
 ·obtain ⟨_,o,ho,_⟩:=I.ok.funs.mem hb;exact I.base.free b o ho (I.ok.frf b hb) fun z=>I.ok.exfs b z hb
theorem Inv.step{g':Array GenState}{t':Nat}{d':Drawn}{ch:List Addr}(I:Inv X a7 σ H s)
  (J7:∀b∈ch,(b∈X.ex\/X.s₀.heap.objs.size<=b)/\b≠X.env.locals/\(∀x c,X.env.cells.lookup x=some c->c≠b)/\∀p∈X.pn++a7,p.1≠b)
  (keep:∀b o,b≠X.env.locals->b∉X.fs->b∉ch->s.heap.get? b=some o->H b=none->h'.get? b=some o)
  (slot:∀b o,b≠X.env.locals->b∈X.fs->b∉ch->s.heap.get? b=some o->H b=none->∃sl,h'.get? b=some { o with slots:=sl }) (free:∀b o,b∉ch->s.heap.get? b=some o->H b=none->H' b=none)
  (there:∀b o,b∉ch->s.heap.get? b=some o->∃o',h'.get? b=some o')
  (tups:∀b xs,H b=some (.tup xs)->H' b=some (.tup xs)) (frzs:∀b o u,H b=some (.frz o u)->H' b=some (.frz o u)) (tbls:∀b ps,H b=some (.tbl ps)->∃more,H' b=some (.tbl (ps++more)))
  (ns:∀m,s.heap.Ns X.env.locals m->h'.Ns X.env.locals m) (hok:HOk X.prog X.w H' h') (hg:AllBare g') :
  Inv X a7 σ H' { s with heap:=h',gens:=g',drawn:=d',toks:=t' }:=by
 have neL:∀b o,X.s₀.heap.get? b=some o->b≠X.env.locals:=fun b o e=>Nat.ne_of_lt (Nat.lt_of_lt_of_le (Heap.lt_size e) I.ok.above)
 have neC:∀b o,X.s₀.heap.get? b=some o->b∉X.ex->b∉ch:=fun b o e hx hb=>by
  rcases (J7 b hb).1 with z|z
  ·exact hx z
  ·exact absurd (Nat.lt_of_lt_of_le (Heap.lt_size e) z) (Nat.lt_irrefl _)
 have U1:∀x c,X.env.cells.lookup x=some c->∀v,s.heap.IsCell c v->h'.IsCell c v:=fun x c e v ⟨o,ho,hd⟩=>by
  have nch:c∉ch:=fun z=>(J7 c z).2.2.1 x c e rfl
  by_cases hc:c∈X.fs
  ·obtain ⟨sl,q⟩:=slot c o (I.cne x c e) hc nch ho (I.freeC x c e);exact ⟨_,q,hd⟩
  ·exact ⟨o,keep c o (I.cne x c e) hc nch ho (I.freeC x c e),hd⟩
 refine ⟨I.ok,I.os,hg,⟨fun b o e n hb hx=>?_,fun b o e n hb hx=>?_,fun b o e n hx=>?_,fun b o e hx=>?_,fun b xs e=>tups b xs (I.base.tups b xs e),fun b o xs e=>frzs b o xs (I.base.frzs b o xs e),fun b ps e=>?_⟩,?_,fun x c e=>?_,?_,fun x c e=>?_,fun p hp=>?_,hok,I.len⟩
 ·exact keep b o (neL b o e) hb (neC b o e hx) (I.base.keep b o e n hb hx) (I.base.free b o e n hx)
 ·obtain ⟨sl,e1⟩:=I.base.slot b o e n hb hx;obtain ⟨L3,e2⟩:=slot b _ (neL b o e) hb (neC b o e hx) e1 (I.base.free b o e n hx);exact ⟨L3,e2⟩
 ·obtain ⟨o',e1⟩:=I.base.there b o e hx;exact free b o' (neC b o e hx) e1 (I.base.free b o e n hx)
 ·obtain ⟨o',e1⟩:=I.base.there b o e hx;exact there b o' (neC b o e hx) e1
 ·obtain ⟨m1,e1⟩:=I.base.tbls b ps e;obtain ⟨m2,e2⟩:=tbls b _ e1;exact ⟨m1++m2,by rw [e2,Array.append_assoc]⟩
 ·obtain ⟨m,hn,hl⟩:=I.loc;refine ⟨m,ns m hn,fun i x v e1 e2 e3=>?_⟩;obtain ⟨u,r,l⟩:=hl i x v e1 e2 e3;refine ⟨u,r,?_⟩;rcases l with l|⟨k,c,e,z⟩
  ·exact .inl l
  ·exact .inr ⟨k,c,e,U1 x c e _ z⟩
 ·obtain ⟨v,z⟩:=I.cell x c e;exact ⟨v,U1 x c e v z⟩
 ·obtain ⟨m,⟨o,_,_,ho,_⟩,_⟩:=I.loc;exact free _ o (fun z=>(J7 _ z).2.1 rfl) ho I.free
 ·obtain ⟨v,o,ho,hd⟩:=I.cell x c e;exact free c o (fun z=>(J7 c z).2.2.1 x c e rfl) ho (I.freeC x c e)
 ·obtain ⟨e,n,ne,nf,d⟩:=I.pin p hp;have nch:p.1∉ch:=fun z=>(J7 p.1 z).2.2.2 p hp rfl
  exact ⟨keep p.1 p.2 ne nf nch e n,free p.1 p.2 nch e n,ne,nf,d⟩
theorem Inv.un{t':Nat}(I:Inv X a7 σ H s)(u:Un X.fs [] H H' s.heap h')(hok:HOk X.prog X.w H' h'):Inv X a7 σ H' { s with heap:=h',toks:=t' }:=by
 obtain ⟨m,⟨o,es,ep,ho,r⟩,_⟩:=id I.loc;obtain ⟨sl,hL⟩:=u.any ho I.free (by simp);exact I.step (g':=s.gens) (d':=s.drawn) (ch:=[]) (fun _ z=>nomatch z) (fun b o _ hb _ e n=>u.keep b o e n hb (by simp)) (fun b o _ hb _ e n=>u.slot b o e n hb (by simp)) (fun b o _ e n=>u.free b o e n (by simp)) (fun b o _ e=>u.there b o e (by simp)) u.tups u.frzs u.tbls (fun m' hm=>by
  obtain ⟨o',es',ep',R4,r'⟩:=hm;rw [ho] at R4;cases R4;exact ⟨_,es',ep',hL,r'⟩) hok I.bare
theorem Inv.call{g':Array GenState}{t':Nat}{d':Drawn}{ch:List Addr}(I:Inv X a7 σ H s)(u:Un (frs X.stack) ch H H' s.heap h')(hok:HOk X.prog X.w H' h')(hg:AllBare g')
  (J7:∀b∈ch,(b∈X.ex\/X.s₀.heap.objs.size<=b)/\b≠X.env.locals/\(∀x c,X.env.cells.lookup x=some c->c≠b)/\∀p∈X.pn++a7,p.1≠b) :
  Inv X a7 σ H' { s with heap:=h',gens:=g',drawn:=d',toks:=t' }:=by
 obtain ⟨m,⟨o,es,ep,ho,r⟩,_⟩:=id I.loc;obtain ⟨sl,hL⟩:=u.any ho I.free fun z=>(J7 _ z).2.1 rfl
 exact I.step (ch:=ch) J7 (fun b o hL hb hc e n=>u.keep b o e n (fun z=>(List.mem_cons.mp (I.stkSub b z)).elim hL hb) hc) (fun b o _ _ hc e n=>u.any e n hc) (fun b o hc e n=>u.free b o e n hc) (fun b o hc e=>u.there b o e hc) u.tups u.frzs u.tbls (fun m' hm=>by
  obtain ⟨o',es',ep',R4,r'⟩:=hm;rw [ho] at R4;cases R4;exact ⟨_,es',ep',hL,r'⟩) hok hg
theorem Inv.turned{t':Nat}{it:Addr}(I:Inv X a7 σ H s)(k:∀b o,b≠it->s.heap.get? b=some o->h'.get? b=some o)(hn:H it=none)(hL:it≠X.env.locals)
  (h1:it∈X.ex\/X.s₀.heap.objs.size<=it) (h2:∀x c,X.env.cells.lookup x=some c->c≠it) (h3:∀p∈X.pn++a7,p.1≠it):Inv X a7 σ H { s with heap:=h',toks:=t' }:=by
 have nit:∀b u,H b=some u->b≠it:=fun b u e z=>by rw [z,hn] at e;cases e
 refine I.step (g':=s.gens) (d':=s.drawn) (ch:=[it]) (fun b hb=>?_) (fun b o _ _ hc e _=>k b o (fun z=>hc (by simp [z])) e) (fun b o _ _ hc e _=>⟨o.slots,k b o (fun z=>hc (by simp [z])) e⟩) (fun _ _ _ _ n=>n)
  (fun b o hc e=>⟨o,k b o (fun z=>hc (by simp [z])) e⟩) (fun _ _ e=>e) (fun _ _ _ e=>e) (fun b ps e=>⟨#[],by rw [e];simp⟩) (fun m hm=>?_) (fun b u e=>?_) I.bare
 ·have e:b=it:=by simpa using hb
  subst e;exact ⟨h1,hL,h2,h3⟩
 ·obtain ⟨o,es,ep,ho,r⟩:=hm;exact ⟨o,es,ep,k _ o (Ne.symm hL) ho,r⟩
 ·refine (I.hok b u e).stay (fun c v hc q=>k c v ?_ q) (fun _ q=>q) fun _ _ q=>q
  rcases hc with z|z
  ·rw [z];exact nit b u e
  ·exact nit c _ z
theorem Inv.tok(I:Inv X a7 σ H s)(t:Nat):Inv X a7 σ H { s with toks:=t }:=I.un (h':=s.heap) (t':=t) Un.refl I.hok
theorem Inv.kept{t':Nat}(I:Inv X a7 σ H s)(k:∀b u,s.heap.get? b=some u->h'.get? b=some u):Inv X a7 σ H { s with heap:=h',toks:=t' }:=I.un (Un.kept k) (I.hok.kept k)
theorem Inv.laid{a:Addr}{o:HO}{t':Nat}(I:Inv X a7 σ H s)(k:∀b u,s.heap.get? b=some u->h'.get? b=some u)(hp:s.heap.objs.size<=a)(new:Yf X.prog X.w (upd H a o) h' a o) :
  Inv X a7 σ (upd H a o) { s with heap:=h',toks:=t' }:=I.un (Un.laid k hp (I.hok.fresh hp)) (I.hok.laid k hp new)
theorem Inv.write{x e:Addr}{o:HO}{t':Nat}(I:Inv X a7 σ H s)(mu:Mut (H x))(he:e=x\/H e=some (.own x))(k:∀b u,b≠e->s.heap.get? b=some u->h'.get? b=some u)(heo:∃u,h'.get? e=some u)
  (new:Yf X.prog X.w (upd H x o) h' x o):Inv X a7 σ (upd H x o) { s with heap:=h',toks:=t' }:=I.un (Un.write mu he k heo) (I.hok.write mu he k heo new)
theorem Inv.weak{σ':List (Option V)}(I:Inv X a7 σ H s)(hl:σ'.length=σ.length)(w:∀(i:Nat) v,σ'[i]? =some (some v)->σ[i]? =some (some v)):Inv X a7 σ' H s :=
 ⟨I.ok,I.os,I.bare,I.base,let ⟨m,hn,G0⟩:=I.loc;⟨m,hn,fun i x v e1 e2 e3=>G0 i x v e1 (w i v e2) e3⟩,I.cell,I.free,I.freeC,I.pin,I.hok,hl.trans I.len⟩
theorem Inv.pins_of{j7:List (Addr×Obj)}(I:Inv X a7 σ H s)(h:∀p∈j7,s.heap.get? p.1=some p.2/\H p.1=none/\p.1≠X.env.locals/\p.1∉X.fs/\∀v,p.2.data ≠ .cell v):Inv X j7 σ H s :=
 ⟨I.ok,I.os,I.bare,I.base,I.loc,I.cell,I.free,I.freeC,fun p hp=>(List.mem_append.mp hp).elim (fun z=>I.pin p (List.mem_append_left _ z)) (h p),I.hok,I.len⟩
theorem Zm6{N:List Str}(hN:N.Nodup){i j:Nat}{x:Str}(a:N[i]? =some x)(b:N[j]? =some x):i=j:=by
 obtain ⟨h1,e1⟩:=List.getElem?_eq_some_iff.mp a;obtain ⟨h2,e2⟩:=List.getElem?_eq_some_iff.mp b;exact (List.getElem_inj hN).mp (e1.trans e2.symm)
theorem Zq1{M:Model}{A:Around}{E:Value->Shared->Prop}{i:Nat}{x:Str}{v:V}{u:Value}{Q:Unit->Shared->Prop}(I:Inv X a7 σ H s)(hN:X.N.Nodup)(hi:X.N[i]? =some x)(hx:Loc X.env.scope x)(r:Ye v u)
  (h:∀s',Inv X a7 (σ.set i (some v)) H s'->(∃a,Heap.SameBut a s.heap s'.heap/\(a=X.env.locals\/X.env.cells.lookup x=some a))->Q () s') (hf:X.fn x=true\/X.env.scope.names.lookup x=some .local:=by first | exact .inl rfl | exact .inr rfl | assumption):wpAny M A (storeName X.env x u) Q E s:=by
 obtain ⟨m,hn,hl⟩:=id I.loc;have hcls:(X.env.scope.kind ==.class || (X.env.scope.kind ==.module && X.env.locals !=X.env.globals))=false:=by rw [I.ok.kind];rfl
 have hiσ:i<σ.length:=by rw [I.len];exact (List.getElem?_eq_some_iff.mp hi).1
 have cne:=I.cne;have F4:∀{a:Addr} {h':Heap},(∃o,s.heap.get? a=some o/\H a=none)->Heap.SameBut a s.heap h'->HOk X.prog X.w H h':=fun {a h'} ha hs b ob e=>by
  obtain ⟨_,_,C5⟩:=ha;refine (I.hok b ob e).stay (fun c w' hc q=>(hs.2 c ?_).trans q) (fun _ q=>q) fun _ _ q=>q
  rintro rfl;rcases hc with rfl|hc
  ·rw [C5] at e;cases e
  ·rw [C5] at hc;cases hc
 rcases hx with hk|hk
 ·refine wpAny_storeName_local hk hn (fun h' Q6 hs=>?_) hcls;obtain ⟨oL,_,_,hoL,_⟩:=id hn;refine h _ ⟨I.ok,I.os,I.bare,⟨fun b o e n hb hx=>?_,fun b o e n hb hx=>?_,I.base.free,fun b o e hx=>?_,I.base.tups,I.base.frzs,I.base.tbls⟩,⟨_,Q6,fun j y v' e1 e2 e3=>?_⟩,fun y c e=>?_,I.free,I.freeC,fun p hp=>?_,F4 ⟨oL,hoL,I.free⟩ hs,by simpa using I.len⟩ ⟨_,hs,.inl rfl⟩
  ·exact (hs.2 b (Nat.ne_of_lt (Nat.lt_of_lt_of_le (Heap.lt_size e) I.ok.above))).trans (I.base.keep b o e n hb hx)
  ·obtain ⟨sl,e1⟩:=I.base.slot b o e n hb hx;exact ⟨sl,(hs.2 b (Nat.ne_of_lt (Nat.lt_of_lt_of_le (Heap.lt_size e) I.ok.above))).trans e1⟩
  ·obtain ⟨o',e1⟩:=I.base.there b o e hx;exact ⟨o',(hs.2 b (Nat.ne_of_lt (Nat.lt_of_lt_of_le (Heap.lt_size e) I.ok.above))).trans e1⟩
  ·by_cases hj:j=i
   ·subst hj;rw [hi] at e1;cases e1;rw [List.getElem?_set_self hiσ] at e2;cases e2;exact ⟨u,r,.inl ⟨hk,by simp⟩⟩
   ·rw [List.getElem?_set_ne (Ne.symm hj)] at e2;obtain ⟨u',r',q⟩:=hl j y v' e1 e2 e3;refine ⟨u',r',?_⟩;rcases q with ⟨k,e⟩|⟨k,c,e,z⟩
    ·refine .inl ⟨k,?_⟩;have:y≠x:=fun e=>hj (Zm6 hN e1 (e ▸ hi))
     simp [this,e]
    ·exact .inr ⟨k,c,e,z.sameBut hs (cne y c e)⟩
  ·obtain ⟨w',z⟩:=I.cell y c e;exact ⟨w',z.sameBut hs (cne y c e)⟩
  ·obtain ⟨e,n,ne,nf,d⟩:=I.pin p hp;exact ⟨(hs.2 p.1 ne).trans e,n,ne,nf,d⟩
 ·have F6:X.fn x=true:=by
   rcases hf with z|z
   ·exact z
   ·rw [z] at hk;cases hk
  obtain ⟨c,hc⟩:=I.ok.has x (.inl hk);obtain ⟨w',z⟩:=I.cell x c hc;refine wpAny_storeName_cell I.ok.kind hk hc z (fun h' Q7 hs=>?_);obtain ⟨oc,hoc,hocd⟩:=id z;refine h { s with heap:=h' } ⟨I.ok,I.os,I.bare,⟨fun b o e n hb hx=>?_,fun b o e n hb hx=>?_,I.base.free,fun b o e hx=>?_,I.base.tups,I.base.frzs,I.base.tbls⟩,⟨m,hn.sameBut hs (Ne.symm (cne x c hc)),fun j y v' e1 e2 e3=>?_⟩,fun y c' e=>?_,I.free,I.freeC,fun p hp=>?_,F4 ⟨oc,hoc,I.freeC x c hc⟩ hs,by simpa using I.len⟩ ⟨c,hs,.inr hc⟩
  ·exact (hs.2 b (Nat.ne_of_lt (Nat.lt_of_lt_of_le (Heap.lt_size e) (I.ok.cab x c F6 hc)))).trans (I.base.keep b o e n hb hx)
  ·obtain ⟨sl,e1⟩:=I.base.slot b o e n hb hx;exact ⟨sl,(hs.2 b (Nat.ne_of_lt (Nat.lt_of_lt_of_le (Heap.lt_size e) (I.ok.cab x c F6 hc)))).trans e1⟩
  ·obtain ⟨o',e1⟩:=I.base.there b o e hx;exact ⟨o',(hs.2 b (Nat.ne_of_lt (Nat.lt_of_lt_of_le (Heap.lt_size e) (I.ok.cab x c F6 hc)))).trans e1⟩
  ·by_cases hj:j=i
   ·subst hj;rw [hi] at e1;cases e1;rw [List.getElem?_set_self hiσ] at e2;cases e2;exact ⟨u,r,.inr ⟨.inl hk,c,hc,Q7⟩⟩
   ·rw [List.getElem?_set_ne (Ne.symm hj)] at e2;obtain ⟨u',r',q⟩:=hl j y v' e1 e2 e3;refine ⟨u',r',?_⟩;rcases q with q|⟨k,c',e,z'⟩
    ·exact .inl q
    ·refine .inr ⟨k,c',e,z'.sameBut hs ?_⟩;rintro rfl;exact hj (Zm6 hN e1 (I.ok.inj _ _ _ e hc ▸ hi))
  ·by_cases hcc:c'=c
   ·subst hcc;exact ⟨_,Q7⟩
   ·obtain ⟨w2,z2⟩:=I.cell y c' e;exact ⟨w2,z2.sameBut hs hcc⟩
  ·obtain ⟨e,n,ne,nf,d⟩:=I.pin p hp;refine ⟨(hs.2 p.1 ?_).trans e,n,ne,nf,d⟩;intro q;rw [q,hoc] at e;have q':oc=p.2:=Option.some.inj e;exact d w' (by rw [<-q'];exact hocd)
theorem Zi5{M:Model}{A:Around}{E:Value->Shared->Prop}{i:Nat}{x:Str}{v:V}{u:Value}{Q:Unit->Shared->Prop}(I:Inv X a7 σ H s)(hN:X.N.Nodup)(hi:X.N[i]? =some x)(hx:Loc X.env.scope x)(r:Ye v u)
  (h:∀s',Inv X a7 (σ.set i (some v)) H s'->Q () s') (hf:X.fn x=true\/X.env.scope.names.lookup x=some .local:=by first | exact .inl rfl | exact .inr rfl | assumption):wpAny M A (storeName X.env x u) Q E s :=
 Zq1 I hN hi hx r (fun s' I' _=>h s' I') hf
theorem Inv.call'{s':Shared}{ch:List Addr}(I:Inv X a7 σ H s)(ho:s'.os=s.os)(u:Un (frs X.stack) ch H H' s.heap s'.heap)(hok:HOk X.prog X.w H' s'.heap)(hg:AllBare s'.gens)
  (J7:∀b∈ch,(b∈X.ex\/X.s₀.heap.objs.size<=b)/\b≠X.env.locals/\(∀x c,X.env.cells.lookup x=some c->c≠b)/\∀p∈X.pn++a7,p.1≠b):Inv X a7 σ H' s':=by
 obtain ⟨h',g',d',t',o'⟩:=s';have e:o'=s.os:=ho;subst e;exact I.call (g':=g') (t':=t') (d':=d') u hok hg J7
end
abbrev XK:=Value->Option Addr->Hp->Prop
abbrev St:=List (Option V)
abbrev VK:=V->Hp->Prop
abbrev TE:=St->Hp->VK->Prop
abbrev TT:=St->Hp->(Bool->Hp->Prop)->Prop
abbrev TA:=St->Hp->(List V->Hp->Prop)->Prop
structure Zc1 where
 nx:St->Hp->Prop
 rt:VK
 bk:St->Hp->Prop:=fun _ _=>False
 ct:St->Hp->Prop:=fun _ _=>False
abbrev TS:=Zc1->St->Hp->Prop
def EP(X:Cx)(a7:List (Addr×Obj))(σ:St)(Q:VK)(u:Value)(s':Shared):Prop:=∃v H',Inv X a7 σ H' s'/\Ye v u/\Q v H'
def TP(X:Cx)(a7:List (Addr×Obj))(σ:St)(Q:Bool->Hp->Prop)(b:Bool)(s':Shared):Prop:=∃H',Inv X a7 σ H' s'/\Q b H'
def AP(X:Cx)(a7:List (Addr×Obj))(σ:St)(Q:List V->Hp->Prop)(us:List Value)(s':Shared):Prop:=∃vs H',Inv X a7 σ H' s'/\Z5 vs us/\Q vs H'
def SP(X:Cx)(a7:List (Addr×Obj))(D:Zc1)(f:Flow)(s':Shared):Prop :=
 match f with
 | .next=>∃σ' H',Inv X a7 σ' H' s'/\D.nx σ' H'
 | .brk=>∃σ' H',Inv X a7 σ' H' s'/\D.bk σ' H'
 | .cont=>∃σ' H',Inv X a7 σ' H' s'/\D.ct σ' H'
 | .ret u=>∃v σ' H',Inv X a7 σ' H' s'/\Ye v u/\D.rt v H'
def PE(X:Cx)(e:Expr)(t:TE):Prop :=
 ∀(a7:List (Addr×Obj)) (s:Shared) (σ:St) (H:Hp) (Q:VK),Inv X a7 σ H s->t σ H Q->wpAny (model X.prog X.w) X.A (eval e X.env) (EP X a7 σ Q) X.xe s
def PT(X:Cx)(e:Expr)(t:TT):Prop :=
 ∀(a7:List (Addr×Obj)) (s:Shared) (σ:St) (H:Hp) (Q:Bool->Hp->Prop),Inv X a7 σ H s->t σ H Q->wpAny (model X.prog X.w) X.A (isTrue e X.env (eval e X.env)) (TP X a7 σ Q) X.xe s
def PW(X:Cx)(e:Expr)(t:TT):Prop :=
 ∀(J5:Sem Value) (a7:List (Addr×Obj)) (s:Shared) (σ:St) (H:Hp) (Q:Bool->Hp->Prop),Inv X a7 σ H s->t σ H Q->wpAny (model X.prog X.w) X.A (isTrue e X.env J5) (TP X a7 σ Q) X.xe s
theorem PW.pt{X:Cx}{e:Expr}{t:TT}(h:PW X e t):PT X e t:=h _
def PA(X:Cx)(es:List Expr)(t:TA):Prop :=
 ∀(pos:Pos) (a7:List (Addr×Obj)) (s:Shared) (σ:St) (H:Hp) (Q:List V->Hp->Prop),Inv X a7 σ H s->t σ H Q->wpAny (model X.prog X.w) X.A (spliced (backTo pos (starEach es X.env))) (AP X a7 σ Q) X.xe s
def PS(X:Cx)(st:Stmt)(t:TS):Prop :=
 ∀(a7:List (Addr×Obj)) (s:Shared) (σ:St) (H:Hp) (D:Zc1),Inv X a7 σ H s->t D σ H->wpAny (model X.prog X.w) X.A (exec st X.env) (SP X a7 D) X.xe s
def PSs(X:Cx)(st:List Stmt)(t:TS):Prop :=
 ∀(a7:List (Addr×Obj)) (s:Shared) (σ:St) (H:Hp) (D:Zc1),Inv X a7 σ H s->t D σ H->wpAny (model X.prog X.w) X.A (execs st X.env) (SP X a7 D) X.xe s
theorem thn{α:Type}{t:Sem α}{Q Q':α->Shared->Prop}{M:Model}{A:Around}{E:Value->Shared->Prop}{s:Shared}(h:wpAny M A t Q E s)(hQ:∀a s,Q a s->Q' a s):wpAny M A t Q' E s:=wpAny_mono h hQ fun _ _ x=>x
end L2
namespace L2
open PySem PySem.Spec PyProof.Rows
section
variable {X:Cx}
theorem bin{a b:Expr}{ta tb:TE}(ha:PE X a ta)(hb:PE X b tb){a7:List (Addr×Obj)}{s:Shared}{σ:St}{H:Hp}{R:V->V->Hp->Prop}(I:Inv X a7 σ H s)(h:ta σ H fun x H1=>tb σ H1 fun y H2=>R x y H2)
  {α:Type} {Q:α->Shared->Prop} {f:Value->Value->Sem α}
  (hf:∀v u s2 x y H2,Inv X a7 σ H2 s2->Ye x v->Ye y u->R x y H2->wpAny (model X.prog X.w) X.A (f v u) Q X.xe s2) :
  wpAny (model X.prog X.w) X.A (eval a X.env) (fun v s₁=>wpAny (model X.prog X.w) X.A (eval b X.env) (fun u s₂=>wpAny (model X.prog X.w) X.A (f v u) Q X.xe s₂) X.xe s₁) X.xe s:=by
 refine thn (ha a7 s σ H _ I h) fun v s1 ⟨x,H1,I1,r1,q1⟩=>?_
 refine thn (hb a7 s1 σ H1 _ I1 q1) fun u s2 ⟨y,H2,I2,r2,q2⟩=>?_
 exact hf v u s2 x y H2 I2 r1 r2 q2
def Zic(i:Nat):TE:=fun σ H Q=>∃v,σ[i]? =some (some v)/\Q v H
def tC(v:V):TE:=fun _ H Q=>Q v H
theorem Zxp{i:Nat}{x:Str}{pos:Pos}(hN:X.N[i]? =some x)(hv:Vis X.env.scope x) (hd:(x ==("__debug__" :Str))=false:=by decide) (A9:(x ==("__classdict__" :Str))=false:=by decide):PE X (.Name x pos) (Zic i):=by
 intro a7 s σ H Q I h;obtain ⟨v,e,h⟩:=h;obtain ⟨m,hn,hl⟩:=I.loc;obtain ⟨u,r,l⟩:=hl i x v hN e hv;have C2:EP X a7 σ Q u s:=⟨v,H,I,r,h⟩
 rcases l with ⟨hk,hm⟩|⟨hk,c,hc,U2⟩
 ·exact wpAny_Name (wpAny_loadName_local I.ok.kind hk hn hm C2) hd
 ·rcases hk with hk|hk
  ·exact wpAny_Name (wpAny_loadName_cell I.ok.kind hk hc U2 C2) hd
  ·exact wpAny_Name (wpAny_loadName_free I.ok.kind hk hc U2 C2 A9) hd
theorem Ze{i j pos}:PE X (.Constant (.int i) j pos) (tC (.int i)):=fun _ _ _ H _ I h=>wpAny_Constant_int ⟨.int i,H,I.tok _,⟨_,rfl⟩,h⟩
theorem Zcu{b j pos}:PE X (.Constant (.bool b) j pos) (tC (.bl b)):=fun _ _ _ H _ I h=>Constant_bool ⟨.bl b,H,I,rfl,h⟩
theorem Zeg{j pos}:PE X (.Constant .none j pos) (tC .non):=fun _ _ _ H _ I h=>Constant_none ⟨.non,H,I,rfl,h⟩
theorem Zf{x j pos}:PE X (.Constant (.str x) j pos) (tC (.str x)):=fun _ _ _ H _ I h=>Calls.Constant_str ⟨.str x,H,I.tok _,⟨_,rfl⟩,h⟩
def Gl(X:Cx)(x:Str):Prop:=X.env.kindOf x=some .globalImplicit
theorem Zeu{E:Value->Shared->Prop}{a7:List (Addr×Obj)}{s:Shared}{σ:St}{H:Hp}{x:Str}{u:Value}{pos:Pos}{Q:Value->Shared->Prop}(I:Inv X a7 σ H s)(hg:Gl X x)(hm:X.mg x=some u)(h:Q u s)
  (hd:(x ==("__debug__" :Str))=false:=by decide):wpAny (model X.prog X.w) X.A (eval (.Name x pos) X.env) Q E s :=
 Calls.Name_function_global I.ok.kind hg (Calls.loadGlobal_global (by rw [I.ok.glob];exact I.mod.glob.keeps I.bk) hm h) hd
theorem Zfi{E:Value->Shared->Prop}{a7:List (Addr×Obj)}{s:Shared}{σ:St}{H:Hp}{x:Str}{u:Value}{pos:Pos}{Q:Value->Shared->Prop}(I:Inv X a7 σ H s)(hg:Gl X x)(hm:X.mg x=none)(hv:bootBuiltins x=some u)(h:Q u s)
  (hn:x ≠ "__name__" :=by decide) (hd:(x ==("__debug__" :Str))=false:=by decide):wpAny (model X.prog X.w) X.A (eval (.Name x pos) X.env) Q E s:=by
 obtain ⟨mb,h1,h2⟩:=I.mod.blt;exact Calls.Name_function_global I.ok.kind hg (Calls.loadGlobal_builtin (by rw [I.ok.glob];exact I.mod.glob.keeps I.bk) hm (by rw [I.ok.blt];exact h1.keeps I.bk) ((h2 x hn).trans hv) h) hd
theorem Zbr{x:Str}{v:V}{u:Value}{pos:Pos}(hg:Gl X x)(hm:X.mg x=some u)(r:Ye v u) (hd:(x ==("__debug__" :Str))=false:=by decide):PE X (.Name x pos) (tC v) :=
 fun _ _ _ H _ I h=>Zeu I hg hm ⟨v,H,I,r,h⟩ hd
theorem Xw{x:Str}{v:V}{u:Value}{pos:Pos}(hg:Gl X x)(hm:X.mg x=none)(hv:bootBuiltins x=some u)(r:Ye v u) (hn:x ≠ "__name__" :=by decide) (hd:(x ==("__debug__" :Str))=false:=by decide):PE X (.Name x pos) (tC v) :=
 fun _ _ _ H _ I h=>Zfi I hg hm hv ⟨v,H,I,r,h⟩ hn hd
variable {a b:Expr} {ta tb:TE} {pos:Pos}
def PC(X:Cx)(op:CmpOp)(a b:Expr)(t:TE):Prop :=
 ∀(a7:List (Addr×Obj)) (s:Shared) (σ:St) (H:Hp) (Q:VK),Inv X a7 σ H s->t σ H Q ->
  wpAny (model X.prog X.w) X.A (eval a X.env) (fun v s₁=>wpAny (model X.prog X.w) X.A (eval b X.env) (fun u s₂=>wpAny (model X.prog X.w) X.A (compareOp op v u) (EP X a7 σ Q) X.xe s₂) X.xe s₁) X.xe s
def tB(t:TE):TT:=fun σ H Q=>t σ H fun x H1=>∃c,x=.bl c/\Q c H1
theorem Yab{op:CmpOp}{t:TE}(h:PC X op a b t)(h1:behindInMarks op b=false:=by first | exact nobehind _ (by decide) (by decide) | rfl):PT X (.Compare a [op] [b] pos) (tB t):=by
 intro a7 s σ H Q I hw;refine wpAny_isTrue_Compare1 (thn (h a7 s σ H _ I hw) fun v s1 h1=>thn h1 fun u s2 h2=>thn h2 fun c s3 ⟨x,H1,I1,r1,q1⟩=>?_) h1;obtain ⟨d,rfl,q⟩:=q1;cases r1;exact wpAny_truthy_bool ⟨H1,I1,q⟩
theorem Yx{e:Expr}{t:TE}(h:PE X e t)(he:∀J5,isTrue e X.env J5=(do let v <-J5;standAt e.pos;holding [v] (truthy v)):=by intro _;rfl):PT X e (tB t):=by
 intro a7 s σ H Q I hw;refine isTrue_plain (thn (h a7 s σ H _ I hw) fun v s1 ⟨x,H1,I1,r1,q1⟩=>?_) (he _);obtain ⟨d,rfl,q⟩:=q1;cases r1;exact wpAny_truthy_bool ⟨H1,I1,q⟩
variable {tA tB':TT} {Z3:List Expr}
def Yam(t u:TT):TT:=fun σ H Q=>t σ H fun c H1=>if c=true then u σ H1 Q else Q false H1
def tOr(t u:TT):TT:=fun σ H Q=>t σ H fun c H1=>if c=true then Q true H1 else u σ H1 Q
def Yan(t:TT):TT:=fun σ H Q=>t σ H fun c H1=>Q (!c) H1
theorem Zbp(ha:PT X a tA):PW X (.BoolOp .And [a] pos) tA:=by
 intro wh a7 s σ H Q I h;refine isTrue_and (thn (ha a7 s σ H Q I h) fun c s1 e=>?_);cases c with
 | true=>exact isTrue_and_nil e
 | false=>exact e
theorem Zcb(ha:PT X a tA):PW X (.BoolOp .Or [a] pos) tA:=by
 intro wh a7 s σ H Q I h;refine isTrue_or (thn (ha a7 s σ H Q I h) fun c s1 e=>?_);cases c with
 | false=>exact isTrue_or_nil e
 | true=>exact e
theorem Zd9(ha:PT X a tA)(hb:PW X (.BoolOp .And (b ::Z3) pos) tB'):PW X (.BoolOp .And (a ::b ::Z3) pos) (Yam tA tB'):=by
 intro wh a7 s σ H Q I h;refine isTrue_and (thn (ha a7 s σ H _ I h) fun c s1 ⟨H1,I1,q1⟩=>?_);cases c with
 | true=>exact hb wh a7 s1 σ H1 Q I1 q1
 | false=>exact ⟨H1,I1,q1⟩
theorem Zbm(ha:PT X a tA)(hb:PW X (.BoolOp .Or (b ::Z3) pos) tB'):PW X (.BoolOp .Or (a ::b ::Z3) pos) (tOr tA tB'):=by
 intro wh a7 s σ H Q I h;refine isTrue_or (thn (ha a7 s σ H _ I h) fun c s1 ⟨H1,I1,q1⟩=>?_);cases c with
 | true=>exact ⟨H1,I1,q1⟩
 | false=>exact hb wh a7 s1 σ H1 Q I1 q1
theorem Xb(ha:PT X a tA):PT X (.UnaryOp .Not a pos) (Yan tA):=by
 intro a7 s σ H Q I h;exact isTrue_not (ha a7 s σ H (fun c H1=>Q (!c) H1) I h)
def Zzv(ta tb:TE):TE:=fun σ H Q=>ta σ H fun x H1=>∃c,x=.bl c/\if c=true then tb σ H1 Q else Q (.bl false) H1
theorem Zmt{op}{t:TE}(h:PE X a t):PE X (.BoolOp op [a] pos) t:=fun a7 s σ H Q I hw=>BoolOp_one (h a7 s σ H Q I hw)
theorem Zgw(ha:PE X a ta)(hb:PE X (.BoolOp .And (b ::Z3) pos) tb):PE X (.BoolOp .And (a ::b ::Z3) pos) (Zzv ta tb):=by
 intro a7 s σ H Q I h;refine BoolOp_and (thn (ha a7 s σ H _ I h) fun v s1 ⟨x,H1,I1,r1,q1⟩=>?_);obtain ⟨c,rfl,q1⟩:=q1;cases r1;refine wpAny_truthy_bool ?_;cases c with
 | true=>exact hb a7 s1 σ H1 Q I1 q1
 | false=>exact ⟨.bl false,H1,I1,rfl,q1⟩
def tIf(t:TT)(ta tb:TE):TE:=fun σ H Q=>t σ H fun c H1=>if c=true then ta σ H1 Q else tb σ H1 Q
theorem Zr9{c:Expr}(hc:PT X c tA)(ha:PE X a ta)(hb:PE X b tb):PE X (.IfExp c a b pos) (tIf tA ta tb):=by
 intro a7 s σ H Q I h;refine wpAny_IfExp (thn (hc a7 s σ H _ I h) fun d s1 ⟨H1,I1,q1⟩=>?_);cases d with
 | true=>exact ha a7 s1 σ H1 Q I1 q1
 | false=>exact hb a7 s1 σ H1 Q I1 q1
end
end L2
namespace L2
open PySem PySem.Spec PyProof.Rows
def SqL(K:Frag)(H:Hp)(a:Addr)(xs:List V):Prop :=
 Rd H a (.lst xs) \/
  ∃(o:Obj) (a8:Array Value) (n:Nat),K.lookup a=some o/\o.cls=.type "list" /\o.dict=none/\o.data=.seq a8 n/\a8.size<=sizeLine/\Z5 xs a8.toList
def SqT(K:Frag)(H:Hp)(a:Addr)(xs:List V):Prop :=
 Rd H a (.tup xs) \/
  ∃(o:Obj) (a8:Array Value) (n:Nat),K.lookup a=some o/\o.cls=.type "tuple" /\o.data=.seq a8 n/\a8.size<=sizeLine/\Z5 xs a8.toList
def Zz8:Value->Option V
 | .none=>some .non
 | .bool b=>some (.bl b)
 | .int i _=>some (.int i)
 | .str x _=>some (.str x)
 | .bytes b _=>some (.byt b)
 | .float b _=>some (.flt b)
 | .ref a=>some (.ref a)
 | .type n=>some (.ty n)
 | _=>none
theorem Ye.abs{x:V}{u:Value}(r:Ye x u):Zz8 u=some x:=by
 cases x with
 | non=>cases r;rfl
 | bl _=>cases r;rfl
 | int _=>obtain ⟨t,rfl⟩:=r;rfl
 | str _=>obtain ⟨t,rfl⟩:=r;rfl
 | byt _=>obtain ⟨t,rfl⟩:=r;rfl
 | flt _=>obtain ⟨t,rfl⟩:=r;rfl
 | ref _=>cases r;rfl
 | ty _=>cases r;rfl
theorem Ye.inj{x y:V}{u:Value}(r:Ye x u)(q:Ye y u):x=y:=Option.some.inj (r.abs.symm.trans q.abs)
theorem Z5.inj{xs ys:List V}{us:List Value}(h:Z5 xs us)(h':Z5 ys us):xs=ys:=by
 induction h generalizing ys with
 | nil=>cases h';rfl
 | cons r t ih=>cases h' with
  | cons r' t'=>rw [r.inj r',ih t']
section
variable {X:Cx} {a7:List (Addr×Obj)} {σ:St} {H:Hp} {s:Shared} {a:Addr} {xs ys:List V}
theorem SqL.of{K:Frag}(h:H a=some (.lst xs)):SqL K H a xs:=.inl (.inl h)
theorem SqT.of{K:Frag}(h:H a=some (.tup xs)):SqT K H a xs:=.inl (.inl h)
theorem Inv.list(I:Inv X a7 σ H s)(h:SqL X.K H a xs):∃a8:List Value,Z5 xs a8/\PlainL s.heap a a8.toArray/\xs.length<=sizeLine:=by
 rcases h with h|⟨o,a8,n,hk,hc,hd,hs,hz,r⟩
 ·obtain ⟨z,a8,n,r,e⟩:=h.ok I.hok;exact ⟨a8,r,⟨_,n,e,rfl,rfl,rfl⟩,z⟩
 ·refine ⟨a8.toList,r,⟨o,n,I.kIn a o hk,hc,hd,by simpa using hs⟩,?_⟩;have e:=r.length;simp only [Array.length_toList] at e;lia
theorem Inv.tuple(I:Inv X a7 σ H s)(h:SqT X.K H a xs):∃a8:List Value,Z5 xs a8/\IsTup s.heap a a8.toArray/\xs.length<=sizeLine:=by
 rcases h with h|⟨o,a8,n,hk,hc,hs,hz,r⟩
 ·obtain ⟨z,a8,r,p⟩:=h.ok I.hok;exact ⟨a8,r,p,z⟩
 ·refine ⟨a8.toList,r,⟨o,I.kIn a o hk,hc,n,by simpa using hs⟩,?_⟩;have e:=r.length;simp only [Array.length_toList] at e;lia
theorem Inv.list_inj(I:Inv X a7 σ H s)(h:SqL X.K H a xs)(h':SqL X.K H a ys):xs=ys:=by
 obtain ⟨a8,r,⟨o,n,e,_,_,d⟩,_⟩:=I.list h;obtain ⟨its',r',⟨o',n',e',_,_,d'⟩,_⟩:=I.list h';rw [e] at e';cases e';rw [d] at d'
 injection d' with d1 _
 have:a8=its':=by simpa using congrArg Array.toList d1
 subst this;exact r.inj r'
theorem Inv.tuple_inj(I:Inv X a7 σ H s)(h:SqT X.K H a xs)(h':SqT X.K H a ys):xs=ys:=by
 obtain ⟨a8,r,⟨o,e,_,n,d⟩,_⟩:=I.tuple h;obtain ⟨its',r',⟨o',e',_,n',d'⟩,_⟩:=I.tuple h';rw [e] at e';cases e';rw [d] at d'
 injection d' with d1 _
 have:a8=its':=by simpa using congrArg Array.toList d1
 subst this;exact r.inj r'
end
abbrev Cx.wish(X:Cx)(E:Value->Shared->Prop):Cx:={ X with xe:=E }
abbrev Cx.nox(X:Cx):Cx:=X.wish fun _ _=>False
theorem Cx.Ok.wish{X:Cx}(ok:X.Ok)(E:Value->Shared->Prop):(X.wish E).Ok :=
 ⟨ok.mod,ok.kind,ok.glob,ok.blt,ok.above,ok.inj,ok.has,ok.cab,ok.hd,ok.frames,ok.stk,ok.exf,ok.bs,ok.bsz,ok.noex,ok.exfs,ok.funs,ok.frf⟩
theorem Cx.Ok.unwish{X:Cx}{E:Value->Shared->Prop}(ok:(X.wish E).Ok):X.Ok :=
 ⟨ok.mod,ok.kind,ok.glob,ok.blt,ok.above,ok.inj,ok.has,ok.cab,ok.hd,ok.frames,ok.stk,ok.exf,ok.bs,ok.bsz,ok.noex,ok.exfs,ok.funs,ok.frf⟩
section
variable {X:Cx} {a7:List (Addr×Obj)} {σ:St} {H:Hp} {s:Shared} {E:Value->Shared->Prop}
theorem Inv.wish(I:Inv X a7 σ H s)(E:Value->Shared->Prop):Inv (X.wish E) a7 σ H s:=⟨I.ok.wish E,I.os,I.bare,I.base,I.loc,I.cell,I.free,I.freeC,I.pin,I.hok,I.len⟩
theorem Inv.unwish(I:Inv (X.wish E) a7 σ H s):Inv X a7 σ H s:=⟨I.ok.unwish,I.os,I.bare,I.base,I.loc,I.cell,I.free,I.freeC,I.pin,I.hok,I.len⟩
theorem SP.unwish{D:Zc1}{f:Flow}{s':Shared}(h:SP (X.wish E) a7 D f s'):SP X a7 D f s':=by
 cases f with
 | next=>obtain ⟨σ',H',I,q⟩:=h;exact ⟨σ',H',I.unwish,q⟩
 | brk=>obtain ⟨σ',H',I,q⟩:=h;exact ⟨σ',H',I.unwish,q⟩
 | cont=>obtain ⟨σ',H',I,q⟩:=h;exact ⟨σ',H',I.unwish,q⟩
 | ret u=>obtain ⟨v,σ',H',I,r,q⟩:=h;exact ⟨v,σ',H',I.unwish,r,q⟩
theorem PSs.nox{st:List Stmt}{t:TS}(h:PSs X.nox st t):PSs X st t:=fun a7 s σ H D I hw =>
 wpAny_mono (h a7 s σ H D (I.wish _) hw) (fun _ _ q=>q.unwish) fun _ _ z=>False.elim z
end
section
variable {X:Cx} {st:Stmt} {Z3:List Stmt} {t u:TS} {e:Expr} {te:TE} {pos:Pos}
def Zzi:TS:=fun D σ H=>D.nx σ H
def Yau(t u:TS):TS:=fun D σ H=>t { D with nx:=u D } σ H
theorem Zn:PSs X [] Zzi:=fun _ _ σ H _ I h=>wpAny_execs_nil ⟨σ,H,I,h⟩
theorem Ztb(h1:PS X st t)(h2:PSs X Z3 u):PSs X (st ::Z3) (Yau t u):=by
 intro a7 s σ H D I h;refine wpAny_execs_cons (thn (h1 a7 s σ H { D with nx:=u D } I h) fun f s1 q=>?_);cases f with
 | next =>
  obtain ⟨σ',H',I',q⟩:=q;exact h2 a7 s1 σ' H' D I' q
 | ret v=>exact q
 | brk=>exact q
 | cont=>exact q
theorem Zu9(h1:PS X st t):PSs X [st] t:=by
 intro a7 s σ H D I h;refine wpAny_execs_cons (thn (h1 a7 s σ H D I h) fun f s1 q=>?_);cases f with
 | next=>exact wpAny_execs_nil q
 | ret v=>exact q
 | brk=>exact q
 | cont=>exact q
def Zzd:TS:=fun D σ H=>D.ct σ H
theorem Zm9:PS X (.Continue pos) Zzd:=fun _ _ σ H _ I h=>wpAny_Continue ⟨σ,H,I,h⟩
theorem Inv.quiet{a7:List (Addr×Obj)}{σ:St}{H:Hp}{s:Shared}(I:Inv X a7 σ H s):interactive X.env=false:=by simp [interactive,I.ok.kind]
def Zzb(te:TE):TS:=fun D σ H=>te σ H fun _ H1=>D.nx σ H1
theorem Z4(he:PE X e te)(hs:swapsWith e none pos.line X.env=pure false:=by rfl):PS X (.Expr e pos) (Zzb te):=by
 intro a7 s σ H D I h;exact wpAny_Expr_any (thn (he a7 s σ H _ I h) fun v s1 ⟨x,H1,I1,r1,q1⟩=>⟨σ,H1,I1,q1⟩) I.quiet hs
def Yaz(te:TE):TS:=fun D σ H=>te σ H D.rt
theorem Zt(he:PE X e te):PS X (.Return (some e) pos) (Yaz te):=by
 intro a7 s σ H D I h;exact wpAny_Return_some (thn (he a7 s σ H _ I h) fun v s1 ⟨x,H1,I1,r1,q1⟩=>⟨x,σ,H1,I1,r1,q1⟩)
def Zz6(c:TT)(t u:TS):TS:=fun D σ H=>c σ H fun b H1=>if b=true then t D σ H1 else u D σ H1
theorem Z0{c:Expr}{a b:List Stmt}{tc:TT}(hc:PT X c tc)(ha:PSs X a t)(hb:PSs X b u):PS X (.If c a b pos) (Zz6 tc t u):=by
 intro a7 s σ H D I h;refine wpAny_If (thn (hc a7 s σ H _ I h) fun d s1 ⟨H1,I1,q1⟩=>?_);cases d with
 | true=>exact ha a7 s1 σ H1 D I1 q1
 | false=>exact hb a7 s1 σ H1 D I1 q1
end
abbrev TG:=V->St->Hp->(St->Hp->Prop)->Prop
abbrev TGs:=List V->St->Hp->(St->Hp->Prop)->Prop
def PG(X:Cx)(v5:Expr)(t:TG):Prop :=
 ∀(a7:List (Addr×Obj)) (s:Shared) (σ:St) (H:Hp) (v:V) (u:Value) (Q:St->Hp->Prop),Inv X a7 σ H s->Ye v u->t v σ H Q ->
  wpAny (model X.prog X.w) X.A (assign v5 X.env u) (fun _ s'=>∃σ' H',Inv X a7 σ' H' s'/\Q σ' H') X.xe s
def PGs(X:Cx)(ts:List Expr)(t:TGs):Prop :=
 ∀(a7:List (Addr×Obj)) (s:Shared) (σ:St) (H:Hp) (vs:List V) (us:List Value) (Q:St->Hp->Prop),Inv X a7 σ H s->Z5 vs us->t vs σ H Q ->
  wpAny (model X.prog X.w) X.A (assignInOrder ((assignEach ts X.env).map (·.2)) us) (fun _ s'=>∃σ' H',Inv X a7 σ' H' s'/\Q σ' H') X.xe s
section
variable {X:Cx} {pos:Pos}
def Zdt(i:Nat):TG:=fun v σ H Q=>Q (σ.set i (some v)) H
theorem Zmh{i:Nat}{x:Str}(hN:X.N.Nodup)(hi:X.N[i]? =some x)(hx:Loc X.env.scope x)(hf:X.fn x=true\/X.env.scope.names.lookup x=some .local:=by first | exact .inl rfl | exact .inr rfl | assumption):PG X (.Name x pos) (Zdt i):=by
 intro a7 s σ H v u Q I r h;exact wpAny_assign_Name (Zi5 I hN hi hx r (fun s' I'=>⟨_,H,I',h⟩) hf)
def Zz3:TGs:=fun vs σ H Q=>vs=[]/\Q σ H
def Ztf(t:TG)(u:TGs):TGs:=fun vs σ H Q=>∃v r,vs=v ::r/\t v σ H fun σ' H'=>u r σ' H' Q
theorem X8:PGs X [] Zz3:=by
 intro a7 s σ H vs us Q I r h;obtain ⟨e,h⟩:=h;subst e;cases r;exact assignInOrder_nil ⟨σ,H,I,h⟩
theorem Z7{e:Expr}{es:List Expr}{t:TG}{u:TGs}(h1:PG X e t)(h2:PGs X es u)
  (hs:(assignEach (e ::es) X.env).map (·.2)=assign e X.env ::(assignEach es X.env).map (·.2):=by rfl):PGs X (e ::es) (Ztf t u):=by
 intro a7 s σ H vs us Q I r h;obtain ⟨v,vr,e1,h⟩:=h;subst e1;cases r with
 | cons r rr =>
  rw [hs];refine assignInOrder_cons (thn (h1 a7 s σ H _ _ _ I r h) fun _ s1 ⟨σ1,H1,I1,q1⟩=>?_);exact h2 a7 s1 σ1 H1 _ _ Q I1 rr q1
def Zx2(K:Frag)(n:Nat)(t:TGs):TG:=fun v σ H Q=>∃a xs,v=.ref a/\SqT K H a xs/\xs.length=n/\t xs σ H Q
theorem Zd6{es:List Expr}{k:Nat}{t:TGs}{n:Nat}(hc:X.calm=true)(h:PGs X es t)
  (hn:(assignEach es X.env).length=n:=by rfl) (A6:(assignEach es X.env).findIdx? (·.1)=none:=by rfl):PG X (.Tuple es k pos) (Zx2 X.K n t):=by
 intro a7 s σ H v u Q I r hw;obtain ⟨a,xs,e1,hq,hl,hw⟩:=hw;subst e1;cases r;obtain ⟨a8,rv,ht,hz⟩:=I.tuple hq;refine assign_Tuple_tuple (I.ok.hd hc) ht (by simp [hn,<-hl,rv.length]) A6 fun h' hx=>?_
 have I1:Inv X a7 σ H { s with heap:=h' }:=I.kept (t':=s.toks) fun b o e=>hx b o (Nat.ne_of_lt (Heap.lt_size e)) e
 exact h a7 _ σ H xs _ Q I1 (by simpa using rv) hw
def Zu1(te:TE)(g:TG):TS:=fun D σ H=>te σ H fun x H1=>g x σ H1 D.nx
theorem Ztd{tg e:Expr}{te:TE}{g:TG}(he:PE X e te)(hg:PG X tg g)(hs:swapsWithSole [tg] e pos.line X.env=pure false:=by rfl)(hw:swappedStores [tg] e X.env=pure none:=by rfl)
  (h1:(assignEach [tg] X.env).map (·.2)=[assign tg X.env]:=by rfl):PS X (.Assign [tg] e pos) (Zu1 te g):=by
 intro a7 s σ H D I h;refine wpAny_Assign_stores (thn (he a7 s σ H _ I h) fun v s1 ⟨x,H1,I1,r1,q1⟩=>?_) hs hw;rw [h1];exact thn (hg a7 s1 σ H1 x v _ I1 r1 q1) fun _ s2 q=>q
theorem Zwx{i:Nat}{x:Str}{e:Expr}{te:TE}{v6:Pos}(hN:X.N.Nodup)(hi:X.N[i]? =some x)(hx:Loc X.env.scope x)(he:PE X e te)(hs:swapsWith e (some (.Name x v6)) pos.line X.env=pure false:=by rfl)(hf:X.fn x=true\/X.env.scope.names.lookup x=some .local:=by first | exact .inl rfl | exact .inr rfl | assumption) :
  PS X (.Assign [.Name x v6] e pos) (Zu1 te (Zdt i)):=by
 intro a7 s σ H D I h;refine wpAny_Assign_Name (thn (he a7 s σ H _ I h) fun v s1 ⟨y,H1,I1,r1,q1⟩=>?_) hs;exact Zi5 I1 hN hi hx r1 (fun s2 I2=>⟨_,H1,I2,q1⟩) hf
theorem Zv{i:Nat}{x:Str}{e:Expr}{te:TE}{v6:Pos}(hN:X.N.Nodup)(he:PE X e te)(hi:X.N[i]? =some x:=by rfl)(hx:Loc X.env.scope x:=by first | exact Or.inl rfl | exact Or.inr rfl)(hs:swapsWith e (some (.Name x v6)) pos.line X.env=pure false:=by rfl)(hf:X.fn x=true\/X.env.scope.names.lookup x=some .local:=by first | exact .inl rfl | exact .inr rfl | assumption):PS X (.Assign [.Name x v6] e pos) (Zu1 te (Zdt i)):=Zwx hN hi hx he hs hf
theorem Xn{i:Nat}{x:Str}(hN:X.N.Nodup)(hi:X.N[i]? =some x:=by rfl)(hx:Loc X.env.scope x:=by first | exact Or.inl rfl | exact Or.inr rfl)(hf:X.fn x=true\/X.env.scope.names.lookup x=some .local:=by first | exact .inl rfl | exact .inr rfl | assumption):PG X (.Name x pos) (Zdt i):=Zmh hN hi hx hf
theorem Zbo{i:Nat}{x:Str}(hN:X.N.Nodup)(hi:X.N[i]? =some x:=by rfl)(hx:Loc X.env.scope x:=by exact Or.inl (lookup_relabel_local rfl))(hf:X.fn x=true\/X.env.scope.names.lookup x=some .local:=by exact Or.inr (lookup_relabel_local rfl)):PG X (.Name x pos) (Zdt i):=Zmh hN hi hx hf
end
section
variable {X:Cx} {pos:Pos}
end
structure It where
 go:Nat->Hp->Prop
 yld:Nat->Hp->V->Hp->Prop
 stop:Nat->Hp->Prop
def Zhy(X:Cx)(a7:List (Addr×Obj))(H:Hp)(b:Addr):Prop :=
 H b=none/\b≠X.env.locals/\b∉X.fs/\(b∈X.ex\/X.s₀.heap.objs.size<=b)/\(∀x c,X.env.cells.lookup x=some c->c≠b)/\∀p∈X.pn++a7,p.1≠b
theorem Inv.fpOk{X:Cx}{a7:List (Addr×Obj)}{σ:St}{H H':Hp}{s:Shared}{b:Addr}(I:Inv X a7 σ H s)(hb:s.heap.objs.size<=b)(hn:H' b=none):Zhy X a7 H' b:=by
 refine ⟨hn,Nat.ne_of_gt (Nat.lt_of_lt_of_le I.lt hb),I.nofs hb,.inr (Nat.le_trans I.sz hb),fun x c e z=>?_,fun p hp z=>?_⟩
 ·obtain ⟨v,q⟩:=I.cell x c e;exact absurd (Nat.lt_of_lt_of_le q.lt (by rw [z];exact hb)) (Nat.lt_irrefl _)
 ·exact absurd (Nat.lt_of_lt_of_le (Heap.lt_size (I.pin p hp).1) (by rw [z];exact hb)) (Nat.lt_irrefl _)
structure Zlz(P:Program)(w:World)(K:Frag)(tg:Expr)(J:It)(fp:List Addr)(it:Addr)(tn:Nat->Heap->Prop):Prop where
 mem:it∈fp
 obj:∀i h,tn i h->∀b∈fp,∃o,h.get? b=some o/\∀v,o.data ≠ .cell v
 keep:∀i h h',tn i h->(∀b∈fp,∀o,h.get? b=some o->h'.get? b=some o)->tn i h'
 item:∀(X:Cx),X.prog=P->X.w=w->X.K=K->X.calm=true->∀(i:Nat) (a7:List (Addr×Obj)) (s:Shared) (σ:St) (H:Hp) (E:Value->Shared->Prop),Inv X a7 σ H s->(∀b∈fp,Zhy X a7 H b)->tn i s.heap->J.go i H ->
  wpAny (model P w) X.A (pyNext (.ref it)) (fun r s1=>∃u,r=some u /\
   wpAny (model P w) X.A (letOwnedTupleGo tg (.ref it) u) (fun _ s2=>∃x H',Inv X a7 σ H' s2/\Ye x u/\J.yld i H x H'/\tn (i+1) s2.heap/\∀b∈fp,H' b=none) E s1) E s
 done:∀(X:Cx),X.prog=P->X.w=w->X.K=K->X.calm=true->∀(i:Nat) (a7:List (Addr×Obj)) (s:Shared) (σ:St) (H:Hp) (E:Value->Shared->Prop),Inv X a7 σ H s->(∀b∈fp,Zhy X a7 H b)->tn i s.heap->J.stop i H ->
  wpAny (model P w) X.A (pyNext (.ref it)) (fun r s1=>r=none/\Inv X a7 σ H s1) E s
 self:∀(A:Around) (i:Nat) (s:Shared) (Q:Value->Shared->Prop) (E:Value->Shared->Prop),tn i s.heap->Q (.ref it) s->wpAny (model P w) A (pyIter (.ref it)) Q E s
abbrev TI:=St->Hp->(It->Hp->Prop)->Prop
def PIE(X:Cx)(a7:List (Addr×Obj))(σ:St)(tg:Expr)(R:It->Hp->Prop)(itv:Value)(s2:Shared):Prop :=
 ∃(it:Addr) (fp:List Addr) (tn:Nat->Heap->Prop) (J:It) (H':Hp),itv=.ref it/\Inv X a7 σ H' s2/\Zlz X.prog X.w X.K tg J fp it tn/\tn 0 s2.heap/\(∀b∈fp,Zhy X a7 H' b)/\R J H'
def PI(X:Cx)(tg k9:Expr)(wi:TI):Prop :=
 ∀(a7:List (Addr×Obj)) (s:Shared) (σ:St) (H:Hp) (R:It->Hp->Prop),Inv X a7 σ H s->wi σ H R ->
  wpAny (model X.prog X.w) X.A (eval k9 X.env) (fun v s1=>wpAny (model X.prog X.w) X.A (pyIter v) (PIE X a7 σ tg R) X.xe s1) X.xe s
theorem Zlq{M:Model}{A:Around}{E:Value->Shared->Prop}{s:Shared}{tg:Expr}{it:Addr}{u:Value}{o:Obj}{n:String}{vs:Array Value}{Q:Unit->Shared->Prop}(ho:s.heap.get? it=some o)(hc:o.cls=.type n)(hd:o.data=.fields vs)
    (hn:["enumerate", "zip", "dict_itemiterator", "dict_reverseitemiterator", "odict_iterator", "itertools.zip_longest", "itertools.pairwise"].contains n=false) (hQ:Q () s):wpAny M A (letOwnedTupleGo tg (.ref it) u) Q E s:=by
  unfold letOwnedTupleGo;cases tg <;>first
    | exact wpAny_pure hQ
    | (cases u <;>first
        | exact wpAny_pure hQ
        | (refine wpAny_bind (wpAny_load ho ?_)
           rw [hc,hd];show wpAny M A (if (["enumerate", "zip", "dict_itemiterator", "dict_reverseitemiterator", "odict_iterator", "itertools.zip_longest", "itertools.pairwise"].contains n && vs[0]? ==some (rawInt _))=true then _ else _) Q E s;rw [if_neg (by intro h;rw [hn,Bool.false_and] at h;cases h)];exact wpAny_pure hQ))
def Itl(K:Frag)(a:Addr):It :=
 ⟨fun i H=>∃xs x,SqL K H a xs/\xs[i]? =some x,fun i H x H'=>H'=H/\∀xs,SqL K H a xs->xs[i]? =some x,fun i H=>∃xs,SqL K H a xs/\xs.length<=i⟩
def Itt(K:Frag)(a:Addr):It :=
 ⟨fun i H=>∃xs x,SqT K H a xs/\xs[i]? =some x,fun i H x H'=>H'=H/\∀xs,SqT K H a xs->xs[i]? =some x,fun i H=>∃xs,SqT K H a xs/\xs.length<=i⟩
def Itr(lo:Int)(n:Nat):It:=⟨fun i _=>i<n,fun i H x H'=>H'=H/\x=.int (lo+i),fun i _=>n<=i⟩
theorem Zqx{P:Program}{w:World}{K:Frag}{tg:Expr}(a it:Addr):Zlz P w K tg (Itl K a) [it] it (fun i h=>h.IsListIter it a i) where
 mem:=by simp
 obj:=fun i h st b hb=>by
  have e:b=it:=by simpa using hb
  subst e;obtain ⟨o,e,c,d⟩:=st;exact ⟨o,e,fun v z=>by rw [d] at z;cases z⟩
 keep:=fun i h h' st k=>st.at fun o e=>k it (by simp) o e
 item:=by
  intro X hP hw hK hc i a7 s σ H E I hf st hg;subst hP hw hK;obtain ⟨xs,x,hq,hx⟩:=hg;obtain ⟨a8,rv,p,hz⟩:=I.list hq;obtain ⟨u,hu,ru⟩:=rv.get hx;obtain ⟨f0,f1,f2,f3,f4,f5⟩:=hf it (by simp);refine wpAny_pyNext_list_item st p.isList (x:=u) (by simpa using hu) fun h' A7 sb=>?_
  have I1:Inv X a7 σ H { s with heap:=h' }:=I.turned (t':=s.toks) (fun b o hb e=>(sb.2 b hb).trans e) f0 f1 f3 f4 f5;obtain ⟨o,e,c,d⟩:=id A7;exact ⟨u,rfl,Zlq (s:={ s with heap:=h' }) e c d (by decide) ⟨x,H,I1,ru,⟨rfl,fun ys hy=>by rw [I.list_inj hy hq];exact hx⟩,A7,fun b hb=>(hf b hb).1⟩⟩
 done:=by
  intro X hP hw hK hc i a7 s σ H E I hf st hg;subst hP hw hK;obtain ⟨xs,hq,hx⟩:=hg;obtain ⟨a8,rv,p,hz⟩:=I.list hq;obtain ⟨f0,f1,f2,f3,f4,f5⟩:=hf it (by simp);have hl:=rv.length;exact wpAny_pyNext_list_end (I.ok.hd hc) st p.isList (by simp;lia) fun h' eb=>⟨rfl,I.turned (t':=s.toks) (fun b o hb e=>eb b o hb e) f0 f1 f3 f4 f5⟩
 self:=fun _ _ _ _ _ st h=>wpAny_pyIter_listiter st h
theorem Zoy{P:Program}{w:World}{K:Frag}{tg:Expr}(a it:Addr):Zlz P w K tg (Itt K a) [it] it (fun i h=>h.IsTupleIter it a i) where
 mem:=by simp
 obj:=fun i h st b hb=>by
  have e:b=it:=by simpa using hb
  subst e;obtain ⟨o,e,c,d⟩:=st;exact ⟨o,e,fun v z=>by rw [d] at z;cases z⟩
 keep:=fun i h h' st k=>st.at fun o e=>k it (by simp) o e
 item:=by
  intro X hP hw hK hc i a7 s σ H E I hf st hg;subst hP hw hK;obtain ⟨xs,x,hq,hx⟩:=hg;obtain ⟨a8,rv,p,hz⟩:=I.tuple hq;obtain ⟨u,hu,ru⟩:=rv.get hx;obtain ⟨f0,f1,f2,f3,f4,f5⟩:=hf it (by simp);refine wpAny_pyNext_tuple_item st (show s.heap.IsTuple a a8.toArray from p) (x:=u) (by simpa using hu) fun h' A7 sb=>?_
  have I1:Inv X a7 σ H { s with heap:=h' }:=I.turned (t':=s.toks) (fun b o hb e=>(sb.2 b hb).trans e) f0 f1 f3 f4 f5;obtain ⟨o,e,c,d⟩:=id A7;exact ⟨u,rfl,Zlq (s:={ s with heap:=h' }) e c d (by decide) ⟨x,H,I1,ru,⟨rfl,fun ys hy=>by rw [I.tuple_inj hy hq];exact hx⟩,A7,fun b hb=>(hf b hb).1⟩⟩
 done:=by
  intro X hP hw hK hc i a7 s σ H E I hf st hg;subst hP hw hK;obtain ⟨xs,hq,hx⟩:=hg;obtain ⟨a8,rv,p,hz⟩:=I.tuple hq;obtain ⟨f0,f1,f2,f3,f4,f5⟩:=hf it (by simp);have hl:=rv.length;exact wpAny_pyNext_tuple_end (I.ok.hd hc) st (show s.heap.IsTuple a a8.toArray from p) (by simp;lia) fun h' eb=>⟨rfl,I.turned (t':=s.toks) (fun b o hb e=>eb b o hb e) f0 f1 f3 f4 f5⟩
 self:=fun _ _ _ _ _ st h=>wpAny_pyIter_tupleiter st h
theorem Zoq{P:Program}{w:World}{K:Frag}{tg:Expr}(it:Addr)(lo:Int)(n:Nat):Zlz P w K tg (Itr lo n) [it] it (fun i h=>IsRangeIter h it (lo+(i:Nat) * 1) ((n:Int)-(i:Nat)) 1) where
 mem:=by simp
 obj:=fun i h st b hb=>by
  have e:b=it:=by simpa using hb
  subst e;exact ⟨_,st,fun v z=>by
   have z':Data.fields _=Data.cell v:=z;cases z'⟩
 keep:=fun i h h' st k=>k it (by simp) _ st
 item:=by
  intro X hP hw hK hc i a7 s σ H E I hf st hg;subst hP hw hK;obtain ⟨f0,f1,f2,f3,f4,f5⟩:=hf it (by simp);have W:=Walks.range (prog:=X.prog) (w:=X.w) (I.ok.hd hc) it lo 1 n;refine W.item i s _ _ hg st fun v h' tk hv A7 kk=>?_
  obtain ⟨t,rfl⟩:=hv;have I1:Inv X a7 σ H { s with heap:=h',toks:=tk }:=I.turned (fun b o hb e=>kk b o (by simpa using hb) e) f0 f1 f3 f4 f5;refine ⟨_,rfl,Zlq (s:={ s with heap:=h',toks:=tk }) (n := "range_iterator") A7 rfl rfl (by decide) ⟨.int (lo+i),H,I1,⟨t,?_⟩,⟨rfl,rfl⟩,A7,fun b hb=>(hf b hb).1⟩⟩;rw [Int.mul_one]
 done:=by
  intro X hP hw hK hc i a7 s σ H E I hf st hg;subst hP hw hK;obtain ⟨f0,f1,f2,f3,f4,f5⟩:=hf it (by simp);exact wpAny_pyNext_range_end (I.ok.hd hc) st (by have:n<=i:=hg;lia) fun h' eb=>⟨rfl,I.turned (t':=s.toks) (fun b o hb e=>eb b o hb e) f0 f1 f3 f4 f5⟩
 self:=fun _ _ _ _ _ st h=>wpAny_pyIter_rangeiter st h
end L2
namespace L2
open PySem PySem.Spec PyProof.Rows
section
variable {X:Cx} {tg:Expr}
def Zy3(K:Frag)(tl:TE):TI:=fun σ H R=>tl σ H fun x H1=>∃a,x=.ref a/\(∃xs,SqL K H1 a xs)/\R (Itl K a) H1
def Yaa(K:Frag)(tl:TE):TI:=fun σ H R=>tl σ H fun x H1=>∃a,x=.ref a/\(∃xs,SqT K H1 a xs)/\R (Itt K a) H1
theorem Y0{l:Expr}{tl:TE}(hl:PE X l tl):PI X tg l (Zy3 X.K tl):=by
 intro a7 s σ H R I h;refine thn (hl a7 s σ H _ I h) fun v s1 ⟨x,H1,I1,r1,q1⟩=>?_
 obtain ⟨a,e,⟨xs,hq⟩,q⟩:=q1;subst e;cases r1;obtain ⟨a8,rv,p,hz⟩:=I1.list hq;refine wpAny_pyIter_list p.isList ?_;refine ⟨s1.heap.objs.size,[s1.heap.objs.size],_,_,H1,rfl,I1.kept (t':=s1.toks) fun b o e=>Heap.get?_push_of_some _ e,Zqx a _,⟨_,Heap.get?_push_size _ rfl,rfl,rfl⟩,fun b hb=>?_,q⟩;have e:b=s1.heap.objs.size:=by simpa using hb
 subst e;exact I1.fpOk (Nat.le_refl _) (I1.hok.fresh (Nat.le_refl _))
theorem Zwq{l:Expr}{tl:TE}(hl:PE X l tl):PI X tg l (Yaa X.K tl):=by
 intro a7 s σ H R I h;refine thn (hl a7 s σ H _ I h) fun v s1 ⟨x,H1,I1,r1,q1⟩=>?_
 obtain ⟨a,e,⟨xs,hq⟩,q⟩:=q1;subst e;cases r1;obtain ⟨a8,rv,p,hz⟩:=I1.tuple hq;refine wpAny_pyIter_tuple (show s1.heap.IsTuple a a8.toArray from p) ?_;refine ⟨s1.heap.objs.size,[s1.heap.objs.size],_,_,H1,rfl,I1.kept (t':=s1.toks) fun b o e=>Heap.get?_push_of_some _ e,Zoy a _,⟨_,Heap.get?_push_size _ rfl,rfl,rfl⟩,fun b hb=>?_,q⟩;have e:b=s1.heap.objs.size:=by simpa using hb
 subst e;exact I1.fpOk (Nat.le_refl _) (I1.hok.fresh (Nat.le_refl _))
theorem Znj{a7:List (Addr×Obj)}{σ:St}{H:Hp}{s:Shared}{R:It->Hp->Prop}{E:Value->Shared->Prop}{lo hi:Int}{t u v:Tok}{tk:Nat}(I:Inv X a7 σ H s)(h1:-(2 ^ 62)<=lo)(h2:lo<2 ^ 62)(h3:-(2 ^ 62)<=hi)(h4:hi<2 ^ 62)
  (q:R (Itr lo (hi-lo).toNat) H):wpAny (model X.prog X.w) X.A (pyIter (.ref s.heap.objs.size)) (PIE X a7 σ tg R) E { s with heap:=s.heap.push { cls:=.type "range",data:=.fields #[.int lo t,.int hi u,.int 1 v] },toks:=tk }:=by
 refine wpAny_pyIter_range (IsRange.new ..) (small_one h1 h2 h3 h4) ?_;have I1:Inv X a7 σ H { s with heap:=s.heap.push { cls:=.type "range",data:=.fields #[.int lo t,.int hi u,.int 1 v] },toks:=tk }:=I.kept fun b o e=>Heap.get?_push_of_some _ e
 refine ⟨(s.heap.push { cls:=.type "range",data:=.fields #[.int lo t,.int hi u,.int 1 v] }).objs.size,[(s.heap.push { cls:=.type "range",data:=.fields #[.int lo t,.int hi u,.int 1 v] }).objs.size],_,_,H,rfl,
  I1.kept (t':=tk) fun b o e=>Heap.get?_push_of_some _ e,Zoq _ lo (hi-lo).toNat,?_,fun b hb=>?_,q⟩
 ·have e1:lo+((0:Nat):Int) * 1=lo:=by simp
  have e2:(((hi-lo).toNat:Nat):Int)-((0:Nat):Int)=Builtin.Range.rangeSize lo hi 1:=by rw [rangeSize_one];split <;>lia
  show IsRangeIter _ _ (lo+((0:Nat):Int) * 1) ((((hi-lo).toNat:Nat):Int)-((0:Nat):Int)) 1;rw [e1,e2];exact Heap.get?_push_size _ rfl
 ·have e:b=(s.heap.push { cls:=.type "range",data:=.fields #[.int lo t,.int hi u,.int 1 v] }).objs.size:=by simpa using hb
  subst e;exact I1.fpOk (Nat.le_refl _) (I1.hok.fresh (Nat.le_refl _))
def Zzj(ta:TA):TI:=fun σ H R=>ta σ H fun vs H1=>∃j:Int,vs=[.int j]/\-(2 ^ 62)<=j/\j<2 ^ 62/\R (Itr 0 j.toNat) H1
def Zzk(ta:TA):TI:=fun σ H R=>ta σ H fun vs H1=>∃i j:Int,vs=[.int i,.int j]/\(-(2 ^ 62)<=i/\i<2 ^ 62/\-(2 ^ 62)<=j/\j<2 ^ 62)/\R (Itr i (j-i).toNat) H1
theorem Zqs{a:Expr}{ta:TA}{p pos:Pos} (hg:Gl X "range") (hm:X.mg "range" =none) (ha:PA X [a] ta) (hs:starEach [a] X.env=[(false,eval a X.env)]:=by rfl):PI X tg (.Call (.Name "range" p) [a] [] pos) (Zzj ta):=by
 intro a7 s σ H R I h;refine Call_ (Zfi I hg hm boot_range (PyProof.Rows.callWith_type1 (thn (ha pos a7 s σ H _ I h) fun us s1 ⟨vs,H1,I1,r1,q1⟩=>?_) hs rfl));obtain ⟨j,e,q1,q2,q⟩:=q1;subst e;cases r1 with
 | cons r rr =>
  cases rr;obtain ⟨t,rfl⟩:=r;exact call_range_1 (Znj I1 (by lia) (by lia) q1 q2 (by simpa using q))
theorem Zky{a b:Expr}{ta:TA}{p pos:Pos} (hg:Gl X "range") (hm:X.mg "range" =none) (ha:PA X [a,b] ta) (hs:starEach [a,b] X.env=[(false,eval a X.env),(false,eval b X.env)]:=by rfl) (hs2:starEach [b] X.env=[(false,eval b X.env)]:=by rfl) :
  PI X tg (.Call (.Name "range" p) [a,b] [] pos) (Zzk ta):=by
 intro a7 s σ H R I h;refine Call_ (Zfi I hg hm boot_range (PyProof.Rows.callWith_type1 (thn (ha pos a7 s σ H _ I h) fun us s1 ⟨vs,H1,I1,r1,q1⟩=>?_) (by rw [hs,hs2]) (by rw [hs2];rfl)));obtain ⟨i,j,e,⟨q1,q2,q3,q4⟩,q⟩:=q1;subst e;cases r1 with
 | cons r rr =>
  cases rr with
  | cons r' rr =>
   cases rr;obtain ⟨t,rfl⟩:=r;obtain ⟨t',rfl⟩:=r';exact call_range_2 (Znj I1 q1 q2 q3 q4 q)
def Zz5(wi:TI)(g:TG)(tb:TS):TS:=fun D σ H=>wi σ H fun J H1=>∃W:Nat->Nat->St->Hp->Prop,(∃m,W 0 m σ H1)/\∀i m σ H,W i m σ H ->
 (J.stop i H/\D.nx σ H)\/(J.go i H/\∃N:St->Hp->Prop,(∀σ' H',N σ' H'->∃m',m'<m/\W (i+1) m' σ' H')/\∀x H',J.yld i H x H'->g x σ H' fun σ2 H2=>tb { D with nx:=N,ct:=N,bk:=D.nx } σ2 H2)
def Zg4(fp:List Addr)(h:Heap):List (Addr×Obj):=fp.filterMap fun b=>(h.get? b).map fun o=>(b,o)
theorem W7{fp:List Addr}{h:Heap}{b:Addr}{o:Obj}(hb:b∈fp)(e:h.get? b=some o):(b,o)∈Zg4 fp h:=List.mem_filterMap.mpr ⟨b,hb,by rw [e];rfl⟩
theorem Zrv{fp:List Addr}{h:Heap}{p:Addr×Obj}(hp:p∈Zg4 fp h):p.1∈fp/\h.get? p.1=some p.2:=by
 obtain ⟨b,hb,e⟩:=List.mem_filterMap.mp hp;cases q:h.get? b with
 | none=>rw [q] at e;cases e
 | some o =>
  rw [q] at e;have e':(b,o)=p:=Option.some.inj e;subst e';exact ⟨hb,q⟩
theorem Inv.pinned{a7:List (Addr×Obj)}{σ:St}{H:Hp}{s:Shared}{fp:List Addr}(I:Inv X a7 σ H s)(hf:∀b∈fp,Zhy X a7 H b)(ho:∀b∈fp,∃o,s.heap.get? b=some o/\∀v,o.data ≠ .cell v):Inv X (a7++Zg4 fp s.heap) σ H s :=
 I.pins_of fun p hp=>(List.mem_append.mp hp).elim (fun z=>I.pin p (List.mem_append_right _ z)) fun z=>by
  obtain ⟨hb,e⟩:=Zrv z;obtain ⟨f0,f1,f2,_⟩:=hf p.1 hb;obtain ⟨o,e',d⟩:=ho p.1 hb;rw [e] at e';cases e';exact ⟨e,f0,f1,f2,d⟩
theorem Inv.unpinned{a7 pl:List (Addr×Obj)}{σ:St}{H:Hp}{s:Shared}(I:Inv X (a7++pl) σ H s):Inv X a7 σ H s:=I.pins_of fun p hp=>I.pin p (List.mem_append_right _ (List.mem_append_left _ hp))
theorem We{k9:Expr}{body:List Stmt}{wi:TI}{g:TG}{tb:TS}{pos:Pos}(hp:PassesOwn (model X.prog X.w) X.A X.env X.xe)(hc:X.calm=true)(hi:PI X tg k9 wi)(hg:PG X tg g)(hb:PSs X body tb)
  (hs:∀x,foldedSetIterable k9 X.env x=pure x:=by intro _;rfl):PS X (.For tg k9 body [] pos) (Zz5 wi g tb):=by
 intro a7 s σ H D I h;refine wpAny_For (thn (hi a7 s σ H _ I h) fun v s1 h1=>thn h1 fun itv s2 h2=>?_) hs;obtain ⟨it,fp,tn,J,H2,e,I2,T,st2,f2,W,⟨m0,w0⟩,D8⟩:=h2;subst e;have z7:∀{H':Hp},(∀b∈fp,H' b=none)->∀b∈fp,Zhy X a7 H' b:=fun hn b hb=>⟨hn b hb,(f2 b hb).2⟩
 refine codeAny_forLoop_any (fun n s'=>∃i σ' H',Inv X a7 σ' H' s'/\tn i s'.heap/\(∀b∈fp,H' b=none)/\W i n σ' H') ?_ m0 ⟨0,σ,H2,I2,st2,fun b hb=>(f2 b hb).1,w0⟩;rintro n s3 ⟨i,σ3,H3,I3,U3,U4,w3⟩;rcases D8 i n σ3 H3 w3 with ⟨stop,qn⟩|⟨go,N,hN,step⟩
 ·refine wpAny_passesOwn hp (thn (T.done X rfl rfl rfl hc i a7 s3 σ3 H3 X.xe I3 (z7 U4) U3 stop) fun r s4 ⟨hr,I4⟩=>?_);subst hr;exact wpAny_execs_nil ⟨σ3,H3,I4,qn⟩
 ·refine wpAny_passesOwn hp (thn (T.item X rfl rfl rfl hc i a7 s3 σ3 H3 X.xe I3 (z7 U4) U3 go) fun r s4 ⟨u,hr,h4⟩=>?_);subst hr;refine wpAny_passesOwn hp (thn h4 fun _ s5 ⟨x,H5,I5,r5,y5,M2,fr5⟩=>?_);have I5':=I5.pinned (z7 fr5) (T.obj _ _ M2);refine wpAny_passesOwn hp (thn (hg _ s5 σ3 H5 x u _ I5' r5 (step x H5 y5)) fun _ s6 ⟨σ6,H6,I6,q6⟩=>?_);refine wpAny_passesOwn hp (thn (hb _ s6 σ6 H6 _ I6 q6) fun f s7 q7=>?_);have w5:∀{σ7:St} {H7:Hp},Inv X (a7++Zg4 fp s5.heap) σ7 H7 s7->N σ7 H7->∃m,m<n/\∃i σ' H',Inv X a7 σ' H' s7/\tn i s7.heap/\(∀b∈fp,H' b=none)/\W i m σ' H':=fun {σ7 H7} I7 n7=>by
   obtain ⟨m',hm,w7⟩:=hN σ7 H7 n7;refine ⟨m',hm,i+1,σ7,H7,I7.unpinned,T.keep _ _ _ M2 fun b hb o e=>(I7.pin (b,o) (List.mem_append_right _ (List.mem_append_right _ (W7 hb e)))).1,fun b hb=>?_,w7⟩;obtain ⟨o,e,d⟩:=T.obj _ _ M2 b hb;exact (I7.pin (b,o) (List.mem_append_right _ (List.mem_append_right _ (W7 hb e)))).2.1
  cases f with
  | next=>obtain ⟨σ7,H7,I7,n7⟩:=q7;exact w5 I7 n7
  | cont=>obtain ⟨σ7,H7,I7,n7⟩:=q7;exact w5 I7 n7
  | brk=>obtain ⟨σ7,H7,I7,q7⟩:=q7;exact ⟨σ7,H7,I7.unpinned,q7⟩
  | ret v=>obtain ⟨x7,σ7,H7,I7,r7,q7⟩:=q7;exact ⟨x7,σ7,H7,I7.unpinned,r7,q7⟩
end
theorem Zbg{K:Frag}{a:Addr}{xs:List V}{g:TG}{tb:TS}{D:Zc1}{σ:St}{H:Hp}(Pv:Nat->St->Hp->Prop)(h0:Pv 0 σ H)(hl:∀i σ H,i<=xs.length->Pv i σ H->SqL K H a xs)
  (hs:∀i x σ H,xs[i]? =some x->Pv i σ H->g x σ H fun σ2 H2=>tb { D with nx:=Pv (i+1),ct:=Pv (i+1),bk:=D.nx } σ2 H2) (hd:∀σ H,Pv xs.length σ H->D.nx σ H) :
  ∃W:Nat->Nat->St->Hp->Prop,(∃m,W 0 m σ H)/\∀i m σ H,W i m σ H ->
   ((Itl K a).stop i H/\D.nx σ H)\/((Itl K a).go i H/\∃N:St->Hp->Prop,(∀σ' H',N σ' H'->∃m',m'<m/\W (i+1) m' σ' H')/\∀x H',(Itl K a).yld i H x H'->g x σ H' fun σ2 H2=>tb { D with nx:=N,ct:=N,bk:=D.nx } σ2 H2):=by
 refine ⟨fun i m σ H=>m=xs.length-i/\i<=xs.length/\Pv i σ H,⟨xs.length,by simp,Nat.zero_le _,h0⟩,?_⟩;rintro i m σ H ⟨rfl,hi,p⟩;have q:=hl i σ H hi p
 by_cases d5:i<xs.length
 ·refine .inr ⟨⟨xs,xs[i],q,by simp [d5]⟩,Pv (i+1),fun σ' H' p'=>⟨xs.length-(i+1),by lia,rfl,d5,p'⟩,fun x H' y=>?_⟩;obtain ⟨e,y⟩:=y;subst e;exact hs i x σ _ (y xs q) p
 ·have e:i=xs.length:=by lia
  subst e;exact .inl ⟨⟨xs,q,Nat.le_refl _⟩,hd σ H p⟩
theorem Zvw{K:Frag}{a:Addr}{xs:List V}{g:TG}{tb:TS}{D:Zc1}{σ:St}{H:Hp}(Pv:Nat->St->Hp->Prop)(h0:Pv 0 σ H)(hl:∀i σ H,i<=xs.length->Pv i σ H->SqT K H a xs)
  (hs:∀i x σ H,xs[i]? =some x->Pv i σ H->g x σ H fun σ2 H2=>tb { D with nx:=Pv (i+1),ct:=Pv (i+1),bk:=D.nx } σ2 H2) (hd:∀σ H,Pv xs.length σ H->D.nx σ H) :
  ∃W:Nat->Nat->St->Hp->Prop,(∃m,W 0 m σ H)/\∀i m σ H,W i m σ H ->
   ((Itt K a).stop i H/\D.nx σ H)\/((Itt K a).go i H/\∃N:St->Hp->Prop,(∀σ' H',N σ' H'->∃m',m'<m/\W (i+1) m' σ' H')/\∀x H',(Itt K a).yld i H x H'->g x σ H' fun σ2 H2=>tb { D with nx:=N,ct:=N,bk:=D.nx } σ2 H2):=by
 refine ⟨fun i m σ H=>m=xs.length-i/\i<=xs.length/\Pv i σ H,⟨xs.length,by simp,Nat.zero_le _,h0⟩,?_⟩;rintro i m σ H ⟨rfl,hi,p⟩;have q:=hl i σ H hi p
 by_cases d5:i<xs.length
 ·refine .inr ⟨⟨xs,xs[i],q,by simp [d5]⟩,Pv (i+1),fun σ' H' p'=>⟨xs.length-(i+1),by lia,rfl,d5,p'⟩,fun x H' y=>?_⟩;obtain ⟨e,y⟩:=y;subst e;exact hs i x σ _ (y xs q) p
 ·have e:i=xs.length:=by lia
  subst e;exact .inl ⟨⟨xs,q,Nat.le_refl _⟩,hd σ H p⟩
theorem Zlk{lo:Int}{n:Nat}{g:TG}{tb:TS}{D:Zc1}{σ:St}{H:Hp}(Pv:Nat->St->Hp->Prop)(h0:Pv 0 σ H)
  (hs:∀i σ H,i<n->Pv i σ H->g (.int (lo+i)) σ H fun σ2 H2=>tb { D with nx:=Pv (i+1),ct:=Pv (i+1),bk:=D.nx } σ2 H2) (hd:∀σ H,Pv n σ H->D.nx σ H) :
  ∃W:Nat->Nat->St->Hp->Prop,(∃m,W 0 m σ H)/\∀i m σ H,W i m σ H ->
   ((Itr lo n).stop i H/\D.nx σ H)\/((Itr lo n).go i H/\∃N:St->Hp->Prop,(∀σ' H',N σ' H'->∃m',m'<m/\W (i+1) m' σ' H')/\∀x H',(Itr lo n).yld i H x H'->g x σ H' fun σ2 H2=>tb { D with nx:=N,ct:=N,bk:=D.nx } σ2 H2):=by
 refine ⟨fun i m σ H=>m=n-i/\i<=n/\Pv i σ H,⟨n,by simp,Nat.zero_le _,h0⟩,?_⟩;rintro i m σ H ⟨rfl,hi,p⟩
 by_cases d5:i<n
 ·refine .inr ⟨d5,Pv (i+1),fun σ' H' p'=>⟨n-(i+1),by lia,rfl,d5,p'⟩,fun x H' y=>?_⟩;obtain ⟨e,y⟩:=y;subst e y;exact hs i σ _ d5 p
 ·have e:i=n:=by lia
  subst e;exact .inl ⟨Nat.le_refl _,hd σ H p⟩
end L2
namespace L2
open PySem PySem.Spec PyProof.Rows
abbrev R2:=V->V->Hp->VK->Prop
def OpR(X:Cx)(f:Value->Value->Sem Value)(r:R2):Prop :=
 ∀(a7:List (Addr×Obj)) (s:Shared) (σ:St) (H:Hp) (x y:V) (v u:Value) (Q:VK),Inv X a7 σ H s->Ye x v->Ye y u->r x y H Q ->
  wpAny (model X.prog X.w) X.A (f v u) (EP X a7 σ Q) X.xe s
def UnR(X:Cx)(f:Value->Sem Value)(r:V->Hp->VK->Prop):Prop :=
 ∀(a7:List (Addr×Obj)) (s:Shared) (σ:St) (H:Hp) (x:V) (v:Value) (Q:VK),Inv X a7 σ H s->Ye x v->r x H Q ->
  wpAny (model X.prog X.w) X.A (f v) (EP X a7 σ Q) X.xe s
def Xe(X:Cx)(f:Value)(r:List V->Hp->VK->Prop):Prop :=
 ∀(a7:List (Addr×Obj)) (s:Shared) (σ:St) (H:Hp) (xs:List V) (us:List Value) (Q:VK),Inv X a7 σ H s->Z5 xs us->r xs H Q ->
  wpAny (model X.prog X.w) X.A (call f us) (EP X a7 σ Q) X.xe s
def tOp(r:R2)(ta tb:TE):TE:=fun σ H Q=>ta σ H fun x H1=>tb σ H1 fun y H2=>r x y H2 Q
def tUn(r:V->Hp->VK->Prop)(ta:TE):TE:=fun σ H Q=>ta σ H fun x H1=>r x H1 Q
def rI(C:Int->Int->Prop)(g:Int->Int->V):R2:=fun x y H Q=>∃i j,x=.int i/\y=.int j/\C i j/\Q (g i j) H
def rI0(g:Int->Int->V):R2:=fun x y H Q=>∃i j,x=.int i/\y=.int j/\Q (g i j) H
def rU(g:Int->V):V->Hp->VK->Prop:=fun x H Q=>∃i,x=.int i/\Q (g i) H
section
variable {X:Cx} {a b c:Expr} {ta tb tc:TE} {pos:Pos}
theorem Zxa(ha:PE X a ta)(hb:PE X b tb){a7:List (Addr×Obj)}{s:Shared}{σ:St}{H:Hp}{R:V->V->Hp->Prop}(I:Inv X a7 σ H s)
  (h:ta σ H fun x H1=>tb σ H1 fun y H2=>R x y H2) {Q:Value->Shared->Prop} {f:Value->Value->Sem Value}
  (hf:∀v u s2 x y H2,Inv X a7 σ H2 s2->Ye x v->Ye y u->R x y H2->wpAny (model X.prog X.w) X.A (f v u) Q X.xe s2) :
  wpAny (model X.prog X.w) X.A (eval a X.env) (fun v s₁=>wpAny (model X.prog X.w) X.A (eval b X.env) (fun u s₂=>wpAny (model X.prog X.w) X.A (f v u) Q X.xe s₂) X.xe s₁) X.xe s:=by
 refine thn (ha a7 s σ H _ I h) fun v s1 ⟨x,H1,I1,r1,q1⟩=>?_
 refine thn (hb a7 s1 σ H1 _ I1 q1) fun u s2 ⟨y,H2,I2,r2,q2⟩=>?_
 exact hf v u s2 x y H2 I2 r1 r2 q2
theorem Zl{op:Operator}{r:R2}(ho:OpR X (binaryOp op) r)(ha:PE X a ta)(hb:PE X b tb):PE X (.BinOp a op b pos) (tOp r ta tb):=by
 intro a7 s σ H Q I h;exact wpAny_BinOp (Zxa ha hb I h fun v u s2 x y H2 I2 rx ry q=>ho a7 s2 σ H2 x y v u Q I2 rx ry q)
theorem Zr0{op:UnaryOp}{r:V->Hp->VK->Prop}(ho:UnR X (unaryOp op) r)(ha:PE X a ta):PE X (.UnaryOp op a pos) (tUn r ta):=by
 intro a7 s σ H Q I h;exact UnaryOp_ (thn (ha a7 s σ H _ I h) fun v s1 ⟨x,H1,I1,r1,q1⟩=>ho a7 s1 σ H1 x v Q I1 r1 q1)
theorem opI{f:Value->Value->Sem Value}{C:Int->Int->Prop}{g:Int->Int->Int}
  (E9:∀(i j:Int) (t u:Tok) (s:Shared) (Q:Value->Shared->Prop) (E:Value->Shared->Prop),C i j->Q (.int (g i j) s.toks) { s with toks:=s.toks+1 }->wpAny (model X.prog X.w) X.A (f (.int i t) (.int j u)) Q E s) :
  OpR X f (rI C fun i j=>.int (g i j)):=by
 intro a7 s σ H x y v u Q I rx ry h;obtain ⟨i,j,rfl,rfl,hc,q⟩:=h;obtain ⟨t,rfl⟩:=rx;obtain ⟨t',rfl⟩:=ry;exact E9 i j t t' s _ _ hc ⟨.int (g i j),H,I.tok _,⟨_,rfl⟩,q⟩
theorem Zz0{f:Value->Value->Sem Value}{g:Int->Int->Int}
  (E9:∀(i j:Int) (t u:Tok) (s:Shared) (Q:Value->Shared->Prop) (E:Value->Shared->Prop),Q (.int (g i j) s.toks) { s with toks:=s.toks+1 }->wpAny (model X.prog X.w) X.A (f (.int i t) (.int j u)) Q E s) :
  OpR X f (rI0 fun i j=>.int (g i j)):=by
 intro a7 s σ H x y v u Q I rx ry h;obtain ⟨i,j,rfl,rfl,q⟩:=h;obtain ⟨t,rfl⟩:=rx;obtain ⟨t',rfl⟩:=ry;exact E9 i j t t' s _ _ ⟨.int (g i j),H,I.tok _,⟨_,rfl⟩,q⟩
theorem Zya{f:Value->Value->Sem Value}{g:Int->Int->Bool}
  (E9:∀(i j:Int) (t u:Tok) (s:Shared) (Q:Value->Shared->Prop) (E:Value->Shared->Prop),Q (.bool (g i j)) s->wpAny (model X.prog X.w) X.A (f (.int i t) (.int j u)) Q E s) :
  OpR X f (rI0 fun i j=>.bl (g i j)):=by
 intro a7 s σ H x y v u Q I rx ry h;obtain ⟨i,j,rfl,rfl,q⟩:=h;obtain ⟨t,rfl⟩:=rx;obtain ⟨t',rfl⟩:=ry;exact E9 i j t t' s _ _ ⟨.bl (g i j),H,I,rfl,q⟩
def Yat(i j:Int):Prop:=0<j/\j<1073741824
def Zwz(i j:Int):Prop:=(-(2 ^ 64)<i/\i<2 ^ 64)\/(-(2 ^ 64)<j/\j<2 ^ 64)
theorem Zwz.ok{i j:Int}(h:Zwz i j):IntMulOk i j:=by
 rcases h with ⟨h1,h2⟩|⟨h1,h2⟩
 ·exact .of_left (intBits_le_64 h1 h2)
 ·exact .of_right (intBits_le_64 h1 h2)
theorem Zwt:OpR X (binaryOp .Add) (rI0 fun i j=>.int (i+j)):=Zz0 fun _ _ _ _ _ _ _ q=>add_int q
theorem Zso:OpR X (binaryOp .Sub) (rI0 fun i j=>.int (i-j)):=Zz0 fun _ _ _ _ _ _ _ q=>sub_int q
theorem Zg3:OpR X (binaryOp .Mult) (rI Zwz fun i j=>.int (i * j)):=opI fun _ _ _ _ _ _ _ hc q=>mul_int q hc.ok
theorem Z9:OpR X (binaryOp .FloorDiv) (rI Yat fun i j=>.int (i / j)):=opI fun i j _ _ _ _ _ hc q=>by
 have h1:(0:Int)<j:=hc.1;have h2:j<1073741824:=hc.2;exact floordiv_int (by lia) (by rw [Int.fdiv_eq_ediv_of_nonneg i (by lia)];exact q) (.inl (PyProof.noPylong_small (by lia)))
theorem Yc:OpR X (binaryOp .Mod) (rI (fun _ j=>0<j) fun i j=>.int (i%j)):=opI fun i j _ _ _ _ _ hc q=>by
 have h1:(0:Int)<j:=hc;exact mod_int' (by lia) (by rw [Int.fmod_eq_emod_of_nonneg i (by lia)];exact q)
theorem unI{f:Value->Sem Value}{g:Int->Int}
  (E9:∀(i:Int) (t:Tok) (s:Shared) (Q:Value->Shared->Prop) (E:Value->Shared->Prop),Q (.int (g i) s.toks) { s with toks:=s.toks+1 }->wpAny (model X.prog X.w) X.A (f (.int i t)) Q E s) :
  UnR X f (rU fun i=>.int (g i)):=by
 intro a7 s σ H x v Q I rx h;obtain ⟨i,rfl,q⟩:=h;obtain ⟨t,rfl⟩:=rx;exact E9 i t s _ _ ⟨.int (g i),H,I.tok _,⟨_,rfl⟩,q⟩
theorem Zor:UnR X (unaryOp .USub) (rU fun i=>.int (-i)):=unI fun _ _ _ _ _ q=>neg_int q
end
def Zzu:V->V->Bool
 | .non,.non=>true | .non,.int _=>true | .int _,.non=>true | .non,.bl _=>true | .bl _,.non=>true | .non,.str _=>true | .str _,.non=>true
 | .int _,.int _=>true | .bl _,.bl _=>true | .str _,.str _=>true | .byt _,.byt _=>true
 | .int _,.str _=>true | .str _,.int _=>true | .bl _,.str _=>true | .str _,.bl _=>true
 | _,_=>false
def rEq:R2:=fun x y H Q=>Zzu x y=true/\Q (.bl (decide (x=y))) H
def rNe:R2:=fun x y H Q=>Zzu x y=true/\Q (.bl (!decide (x=y))) H
theorem Zpj{i j:Int}:decide (V.int i=V.int j)=(i ==j):=by
 rw [Bool.eq_iff_iff];simp
theorem Ztj{i j:Bool}:decide (V.bl i=V.bl j)=(i ==j):=by
 rw [Bool.eq_iff_iff];simp
theorem Zpn{i j:Str}:decide (V.str i=V.str j)=(i ==j):=by
 rw [Bool.eq_iff_iff];simp
theorem Zp8{i j:Array UInt8}:decide (V.byt i=V.byt j)=(i.toList ==j.toList):=by
 rw [Bool.eq_iff_iff];cases i;cases j;simp
section
variable {X:Cx} {a b c:Expr} {ta tb tc:TE} {pos:Pos}
theorem Yq{a7:List (Addr×Obj)}{σ:St}{H:Hp}{s:Shared}{Q:VK}{k k':Bool}(I:Inv X a7 σ H s)(q:Q (.bl k) H)(e:k=k'):EP X a7 σ Q (.bool k') s:=by
 subst e;exact ⟨.bl k,H,I,rfl,q⟩
theorem Zv5:OpR X (compareOp .Eq) rEq:=by
 intro a7 s σ H x y v u Q I rx ry h;obtain ⟨hs,q⟩:=h;cases x with
 | non =>
  cases rx;cases y with
  | non=>cases ry;exact PySem.EqNone.eq_none_none (Yq I q (by simp))
  | bl j=>cases ry;exact PySem.EqNone.eq_none_bool (Yq I q (by simp))
  | int j=>obtain ⟨t',rfl⟩:=ry;exact PySem.EqNone.eq_none_int (Yq I q (by simp))
  | str j=>obtain ⟨t',rfl⟩:=ry;exact PySem.EqNone.eq_none_str (Yq I q (by simp))
  | _=>exact absurd (show false=true from hs) Bool.false_ne_true
 | bl i =>
  cases rx;cases y with
  | non=>cases ry;exact PySem.EqNone.eq_bool_none (Yq I q (by simp))
  | bl j=>cases ry;exact eq_bool (Yq I q Ztj)
  | str j=>obtain ⟨t',rfl⟩:=ry;exact PySem.EqMixed.eq_bool_str (Yq I q (by simp))
  | _=>exact absurd (show false=true from hs) Bool.false_ne_true
 | int i =>
  obtain ⟨t,rfl⟩:=rx;cases y with
  | non=>cases ry;exact PySem.EqNone.eq_int_none (Yq I q (by simp))
  | int j=>obtain ⟨t',rfl⟩:=ry;exact eq_int (Yq I q Zpj)
  | str j=>obtain ⟨t',rfl⟩:=ry;exact PySem.EqMixed.eq_int_str (Yq I q (by simp))
  | _=>exact absurd (show false=true from hs) Bool.false_ne_true
 | str i =>
  obtain ⟨t,rfl⟩:=rx;cases y with
  | non=>cases ry;exact PySem.EqNone.eq_str_none (Yq I q (by simp))
  | bl j=>cases ry;exact PySem.EqMixed.eq_str_bool (Yq I q (by simp))
  | int j=>obtain ⟨t',rfl⟩:=ry;exact PySem.EqMixed.eq_str_int (Yq I q (by simp))
  | str j=>obtain ⟨t',rfl⟩:=ry;exact eq_str (Yq I q Zpn)
  | _=>exact absurd (show false=true from hs) Bool.false_ne_true
 | byt i =>
  obtain ⟨t,rfl⟩:=rx;cases y with
  | byt j=>obtain ⟨t',rfl⟩:=ry;exact PySem.W.eq_bytes (Yq I q Zp8)
  | _=>exact absurd (show false=true from hs) Bool.false_ne_true
 | _=>cases y <;>exact absurd (show false=true from hs) Bool.false_ne_true
theorem Zyz:OpR X (compareOp .NotEq) rNe:=by
 intro a7 s σ H x y v u Q I rx ry h;obtain ⟨hs,q⟩:=h;cases x with
 | non =>
  cases rx;cases y with
  | non=>cases ry;exact PySem.EqNone.ne_none_none (Yq I q (by simp))
  | bl j=>cases ry;exact PySem.EqNone.ne_none_bool (Yq I q (by simp))
  | int j=>obtain ⟨t',rfl⟩:=ry;exact PySem.EqNone.ne_none_int (Yq I q (by simp))
  | str j=>obtain ⟨t',rfl⟩:=ry;exact PySem.EqNone.ne_none_str (Yq I q (by simp))
  | _=>exact absurd (show false=true from hs) Bool.false_ne_true
 | bl i =>
  cases rx;cases y with
  | non=>cases ry;exact PySem.EqNone.ne_bool_none (Yq I q (by simp))
  | bl j=>cases ry;exact ne_bool (Yq I q (congrArg not Ztj))
  | str j=>obtain ⟨t',rfl⟩:=ry;exact PySem.EqMixed.ne_bool_str (Yq I q (by simp))
  | _=>exact absurd (show false=true from hs) Bool.false_ne_true
 | int i =>
  obtain ⟨t,rfl⟩:=rx;cases y with
  | non=>cases ry;exact PySem.EqNone.ne_int_none (Yq I q (by simp))
  | int j=>obtain ⟨t',rfl⟩:=ry;exact ne_int (Yq I q (congrArg not Zpj))
  | str j=>obtain ⟨t',rfl⟩:=ry;exact PySem.EqMixed.ne_int_str (Yq I q (by simp))
  | _=>exact absurd (show false=true from hs) Bool.false_ne_true
 | str i =>
  obtain ⟨t,rfl⟩:=rx;cases y with
  | non=>cases ry;exact PySem.EqNone.ne_str_none (Yq I q (by simp))
  | bl j=>cases ry;exact PySem.EqMixed.ne_str_bool (Yq I q (by simp))
  | int j=>obtain ⟨t',rfl⟩:=ry;exact PySem.EqMixed.ne_str_int (Yq I q (by simp))
  | str j=>obtain ⟨t',rfl⟩:=ry;exact ne_str (Yq I q (congrArg not Zpn))
  | _=>exact absurd (show false=true from hs) Bool.false_ne_true
 | byt i =>
  obtain ⟨t,rfl⟩:=rx;cases y with
  | byt j=>obtain ⟨t',rfl⟩:=ry;exact PySem.W.ne_bytes (Yq I q (congrArg not Zp8))
  | _=>exact absurd (show false=true from hs) Bool.false_ne_true
 | _=>cases y <;>exact absurd (show false=true from hs) Bool.false_ne_true
theorem Zk3:OpR X (compareOp .Lt) (rI0 fun i j=>.bl (decide (i<j))):=Zya fun _ _ _ _ _ _ _ q=>lt_int q
theorem Zfa:OpR X (compareOp .LtE) (rI0 fun i j=>.bl (decide (i<=j))):=Zya fun _ _ _ _ _ _ _ q=>le_int q
theorem Zls:OpR X (compareOp .Gt) (rI0 fun i j=>.bl (decide (j<i))):=Zya fun _ _ _ _ _ _ _ q=>gt_int q
theorem Zrm:OpR X (compareOp .In) (fun x y H Q=>∃i j,x=.str i/\y=.str j/\Q (.bl (!(Builtin.Str.occurrences j i 0 j.length 1).isEmpty)) H):=by
 intro a7 s σ H x y v u Q I rx ry h;obtain ⟨i,j,rfl,rfl,q⟩:=h;obtain ⟨t,rfl⟩:=rx;obtain ⟨t',rfl⟩:=ry;exact in_str (Yq I q rfl)
theorem Zxl:OpR X (compareOp .Is) (fun x y H Q=>y=.non/\Q (.bl (decide (x=.non))) H):=by
 intro a7 s σ H x y v u Q I rx ry h;obtain ⟨rfl,q⟩:=h;cases ry;refine is_none_gen (Yq I q ?_);cases x <;>first
  | (cases rx;rfl)
  | (obtain ⟨t,rfl⟩:=rx;rfl)
theorem OpR.or{f:Value->Value->Sem Value}{r r':R2}(h:OpR X f r)(h':OpR X f r'):OpR X f (fun x y H Q=>r x y H Q\/r' x y H Q):=by
 intro a7 s σ H x y v u Q I rx ry q;rcases q with q|q
 ·exact h a7 s σ H x y v u Q I rx ry q
 ·exact h' a7 s σ H x y v u Q I rx ry q
theorem Zu(b:Expr){op:CmpOp}(h:op ≠ .In:=by decide)(h2:op ≠ .NotIn:=by decide):behindInMarks op b=false:=by
 have e1:(op ==CmpOp.In)=false:=by cases op <;>first | rfl | exact absurd rfl h
 have e2:(op ==CmpOp.NotIn)=false:=by cases op <;>first | rfl | exact absurd rfl h2
 cases b <;>simp [behindInMarks,e1,e2]
theorem X9{op:CmpOp}{r:R2}(ho:OpR X (compareOp op) r)(ha:PE X a ta)(hb:PE X b tb)(hm:behindInMarks op b=false):PE X (.Compare a [op] [b] pos) (tOp r ta tb):=by
 intro a7 s σ H Q I h;exact wpAny_Compare1 (Zxa ha hb I h fun v u s2 x y H2 I2 rx ry q=>ho a7 s2 σ H2 x y v u Q I2 rx ry q) hm
def Zsk(t:TE):TT:=fun σ H Q=>t σ H fun x H'=>∃k,x=.bl k/\Q k H'
theorem Zm{op:CmpOp}{r:R2}(ho:OpR X (compareOp op) r)(ha:PE X a ta)(hb:PE X b tb)(hm:behindInMarks op b=false):PT X (.Compare a [op] [b] pos) (Zsk (tOp r ta tb)):=by
 intro a7 s σ H Q I h;refine wpAny_isTrue_Compare1 (thn (ha a7 s σ H _ I h) fun v s1 ⟨x,H1,I1,r1,q1⟩=>thn (hb a7 s1 σ H1 _ I1 q1) fun u s2 ⟨y,H2,I2,r2,q2⟩ =>
  thn (ho a7 s2 σ H2 x y v u _ I2 r1 r2 q2) fun c s3 ⟨z,H3,I3,r3,k,e,q3⟩=>?_) hm
 subst e;cases r3;exact wpAny_truthy_bool ⟨H3,I3,q3⟩
def Zxq(r r':R2)(ta tb tc:TE):TE:=fun σ H Q=>ta σ H fun x H1=>tb σ H1 fun y H2=>r x y H2 fun z H3=>∃k,z=.bl k /\
 (if k=true then tc σ H3 fun w' H4=>r' y w' H4 Q else Q (.bl false) H3)
theorem Zej{op op':CmpOp}{r r':R2}(ho:OpR X (compareOp op) r)(R4:OpR X (compareOp op') r')(ha:PE X a ta)(hb:PE X b tb)(hc:PE X c tc)
  (hm:lastMarks [op,op'] [b,c]=false:=by with_unfolding_all rfl):PT X (.Compare a [op,op'] [b,c] pos) (Zsk (Zxq r r' ta tb tc)):=by
 intro a7 s σ H Q I h;refine isTrue_chain (thn (ha a7 s σ H _ I h) fun v s1 ⟨x,H1,I1,r1,q1⟩=>test_link (thn (hb a7 s1 σ H1 _ I1 q1) fun u s2 ⟨y,H2,I2,r2,q2⟩ =>
  thn (ho a7 s2 σ H2 x y v u _ I2 r1 r2 q2) fun d s3 ⟨z,H3,I3,r3,k,e,q3⟩=>?_)) hm
 subst e;cases r3;refine wpAny_truthy_bool ?_;cases k with
 | false =>
  obtain ⟨k',e',q'⟩:=q3;cases e';exact ite_ff ⟨H3,I3,q'⟩
 | true =>
  refine ite_tt (test_last (thn (hc a7 s3 σ H3 _ I3 q3) fun w' s4 ⟨z',H4,I4,r4,q4⟩=>thn (R4 a7 s4 σ H4 y z' u w' _ I4 r2 r4 q4) fun d' s5 ⟨z2,H5,I5,r5,k2,e2,q5⟩=>?_));subst e2;cases r5;exact wpAny_truthy_bool ⟨H5,I5,q5⟩
theorem Zi9:(sizeLine:Nat)<2 ^ 63:=by rw [sizeLine_eq];decide
theorem Zoe:OpR X (binaryOp .Add) (fun x y H Q=>∃i j,x=.str i/\y=.str j/\i.length+j.length<=sizeLine/\Q (.str (i++j)) H):=by
 intro a7 s σ H x y v u Q I rx ry h;obtain ⟨i,j,rfl,rfl,hz,q⟩:=h;obtain ⟨t,rfl⟩:=rx;obtain ⟨t',rfl⟩:=ry;exact add_str (fun t' tk=>⟨.str (i++j),H,I.tok _,⟨_,rfl⟩,q⟩) hz
theorem Za0{x:V}{us:List Value}(r:Z5 [x] us):∃u,us=[u]/\Ye x u:=by
 cases r with
 | cons r1 r2=>cases r2;exact ⟨_,rfl,r1⟩
theorem Zk6{x y:V}{us:List Value}(r:Z5 [x,y] us):∃u w',us=[u,w']/\Ye x u/\Ye y w':=by
 cases r with
 | cons r1 r2 =>
  cases r2 with
  | cons r3 r4=>cases r4;exact ⟨_,_,rfl,r1,r3⟩
theorem Zq4(hc:X.calm=true):Xe X (.builtin "max") (fun xs H Q=>∃i j,xs=[.int i,.int j]/\Q (.int (if j >i then j else i)) H):=by
 intro a7 s σ H xs us Q I r h;obtain ⟨i,j,rfl,q⟩:=h;obtain ⟨u,w',rfl,⟨t,rfl⟩,⟨t',rfl⟩⟩:=Zk6 r;refine max_two_ints (I.ok.hd hc) fun h' tk k=>⟨_,H,I.kept k,?_,q⟩
 by_cases hj:j >i
 ·rw [if_pos hj,if_pos hj];exact ⟨_,rfl⟩
 ·rw [if_neg hj,if_neg hj];exact ⟨_,rfl⟩
theorem Zrt(hc:X.calm=true):Xe X (.builtin "min") (fun xs H Q=>∃i j,xs=[.int i,.int j]/\Q (.int (if j<i then j else i)) H):=by
 intro a7 s σ H xs us Q I r h;obtain ⟨i,j,rfl,q⟩:=h;obtain ⟨u,w',rfl,⟨t,rfl⟩,⟨t',rfl⟩⟩:=Zk6 r;refine min_two_ints (I.ok.hd hc) fun h' tk k=>⟨_,H,I.kept k,?_,q⟩
 by_cases hj:j<i
 ·rw [if_pos hj,if_pos hj];exact ⟨_,rfl⟩
 ·rw [if_neg hj,if_neg hj];exact ⟨_,rfl⟩
theorem Zru:Xe X (.type "int") (fun xs H Q=>(∃i,xs=[.int i]/\Q (.int i) H)\/∃k,xs=[.bl k]/\Q (.int (if k then 1 else 0)) H):=by
 intro a7 s σ H xs us Q I r h;rcases h with ⟨i,rfl,q⟩|⟨k,rfl,q⟩
 ·obtain ⟨u,rfl,t,rfl⟩:=Za0 r;exact call_int_int ⟨.int i,H,I,⟨_,rfl⟩,q⟩
 ·obtain ⟨u,rfl,r1⟩:=Za0 r;cases r1;exact call_int_bool ⟨.int (if k then 1 else 0),H,I.tok _,⟨_,rfl⟩,q⟩
theorem Za2:Xe X (.type "str") (fun xs H Q=>∃i,xs=[.int i]/\i.natAbs.log2<1920/\Q (.str (toString i)) H):=by
 intro a7 s σ H xs us Q I r h;obtain ⟨i,rfl,hz,q⟩:=h;obtain ⟨u,rfl,t,rfl⟩:=Za0 r;exact PySem.P.str_of_int hz ⟨.str _,H,I.tok _,⟨_,rfl⟩,q⟩
end
end L2
namespace L2
open PySem PySem.Spec PyProof.Rows
structure Zox(h:Heap)(x dx C:Addr)(mA:Str->Option Value):Prop where
 obj:h.get? x=some (PySem.W.instObj C dx)
 ns:h.Ns1 dx mA
 ne:dx≠x
theorem Zq2{h:Heap}{dx:Addr}{mA:Str->Option Value}(n:h.Ns1 dx mA):∃od,h.get? dx=some od/\∀name,PySem.W.lookIn name od=some (mA name):=by
 obtain ⟨o,es,ep,ho,hd,hk,_,hm⟩:=n;refine ⟨o,ho,fun name=>?_⟩;have e:=hm name;unfold nsFind findBy at e;rw [<-Array.find?_toList] at e;unfold PySem.W.lookIn;rw [hd];dsimp only;split
 ·rename_i y q;rw [q] at e;exact congrArg some e
 ·rename_i q;rw [q] at e;have a:es.toList.any (·.refKey)=false:=by
   rw [List.any_eq_false];intro y hy;obtain ⟨z,t,D7⟩:=hk y (Array.mem_toList_iff.mp hy);simp [DictEntry.refKey,D7]
  have a':¬es.toList.any (·.refKey)=true:=by rw [a];exact Bool.false_ne_true
  rw [if_neg a'];exact congrArg some e
theorem Zox.look{h:Heap}{x dx C:Addr}{mA:Str->Option Value}(I:Zox h x dx C mA):∃od,PySem.W.InstAt h x (PySem.W.instObj C dx) C (some od)/\∀name,PySem.W.lookIn name od=some (mA name) :=
 let ⟨od,ho,hl⟩:=Zq2 I.ns
 ⟨od,⟨I.obj,rfl,rfl,ho⟩,hl⟩
section
variable {prog:Program} {w:World} {A:Around} {E:Value->Shared->Prop} {s:Shared} {K:Frag} {x dx C f:Addr} {mA:Str->Option Value} {name:Str} {v:Value}
theorem Zvr{expr:Bool}{Q:Value->Shared->Prop}(X:K.In s.heap)(I:Zox s.heap x dx C mA)(hg:PySem.W.plainGet K C name=true)(hh:PySem.W.hasDictIn K C=true)
  (ha:findIn K (.ref C) name=some none) (hv:mA name=some v) (hv':PySem.W.handedIn v=true) (h:Q v { s with toks:=s.toks+1 }) :
  wpAny (model prog w) A (getAttr (.ref x) name expr) Q E s:=by
 obtain ⟨od,J,hl⟩:=I.look;exact PySem.W.get_value X J (PySem.W.plainGet_of hg).1 (PySem.W.findObj_own hh ha rfl (by rw [hl,hv])) hv' h
theorem Zsb{pl:Sem Bool}{Q:Value×List Value->Shared->Prop}(X:K.In s.heap)(I:Zox s.heap x dx C mA)(hg:PySem.W.plainGet K C name=true)
  (hf:findIn K (.ref C) name=some (some (.ref f))) (ht:PySem.W.isFn K (.ref f)=true) (hv:mA name=none) (h:Q (.ref f,[.ref x]) s) :
  wpAny (model prog w) A (getMethod (.ref x) name pl) Q E s:=by
 obtain ⟨od,J,hl⟩:=I.look;exact PySem.W.method_fn X J (PySem.W.plainGet_of hg).1 (PySem.W.plainGet_of hg).2 hf (beq_iff_eq.mp ht) (by show (PySem.W.lookIn name od).map (·.isSome)=some false;rw [hl,hv];rfl) h
theorem Zt8{ns:List Str}{Q:Unit->Shared->Prop}(X:K.In s.heap)(I:Zox s.heap x dx C mA)
  (hs:findIn K (.ref C) "__setattr__" =some (some (.builtin "object.__setattr__"))) (hp:PySem.W.plainOver K C=true) (ht:PySem.W.takerIn K C name=some none) (hh:PySem.W.hasDictIn K C=true)
  (hw:PySem.Within mA ns) (hsz:ns.length<=sizeLine)
  (h:∀h',Zox h' x dx C (fun y=>if y=name then some v else mA y)->Heap.SameBut dx s.heap h'->Q () { s with heap:=h',toks:=s.toks+2 }) :
  wpAny (model prog w) A (setAttr (.ref x) name v) Q E s:=by
 obtain ⟨od,J,hl⟩:=I.look;refine PySem.W.set_plain X J hs (PySem.W.osa_open (s:={ s with toks:=s.toks+1 }) (r:=none) X J hp ht fun b=>?_);obtain ⟨cd,hc,hd'⟩:=PySem.W.any_some hh;have hx:s.heap.get? x=some ⟨.ref C,some dx,.plain,#[]⟩:=I.obj;refine wpAny_bind (wpAny_pure (wpAny_bind (wpAny_bind (wpAny_loadPart hx (wpAny_bind (PySem.W.Looks.here (s:={ s with toks:=s.toks+1 }) (PySem.W.looks_clsIn X hc) ?_))))));rw [hd'];refine wpAny_pure (a:=some dx) (wpAny_bind (wpAny_pure (wpAny_bind ?_)));refine wpAny_nsSet1 (s:={ s with toks:=s.toks+1 }) I.ns fun h' hn2 hs2=>?_
 obtain ⟨oD,esD,epD,hoD,hdD,hcD⟩:=hn2.count (PySem.Within.cons name v hw);refine wpAny_bind (wpAny_lookBehind hoD (by rw [hdD];exact pastItsLine_dict (Nat.le_trans hcD (by rw [List.length_cons];lia))) ?_);exact wpAny_pure (h _ ⟨(hs2.2 _ (Ne.symm I.ne)).trans I.obj,hn2,I.ne⟩ hs2)
theorem Zst{R:Result->Shared->Prop}{vs:List Value}{kw:List (Str×Value)}(X:K.In s.heap)(hm:PySem.W.makesIn K C=true)
  (hi:findIn K (.ref C) "__init__" =some (some (.ref f))) (hf:PySem.W.typeIn K (.ref f)=some (.type "function"))
  (h:codeAny (model prog w) (A.under (.builtin "type.__call__" ⟨.ref C ::vs,kw⟩)) (.call (.ref f) ⟨.ref (s.heap.objs.size+1) ::vs,kw⟩) (PySem.W.InitBack (s.heap.objs.size+1) R)
   { s with heap:=(s.heap.push PySem.W.emptyDict).push (PySem.W.instObj C s.heap.objs.size) }) :
  codeAny (model prog w) A (.call (.ref C) ⟨vs,kw⟩) R s:=by
 obtain ⟨hh,g,d,t,os⟩:=s;exact PySem.W.make_core (PySem.W.makes_of X hm) (PySem.W.looks_findIn X hi) (fun self=>PySem.W.bind_fn X self hf) (.inl rfl) h
end
def Ze0(f:Str)(v:V):List (Str×V)->List (Str×V)
 | []=>[(f,v)]
 | (g,x) ::r=>if g=f then (g,v) ::r else (g,x) ::Ze0 f v r
theorem Zho(f g:Str)(v:V):∀fs:List (Str×V),(Ze0 f v fs).lookup g=if g=f then some v else fs.lookup g
 | []=>by
  show List.lookup g [(f,v)]=_
  by_cases h:g=f
  ·have hb:(g ==f)=true:=beq_iff_eq.mpr h;simp only [List.lookup,hb,if_pos h]
  ·have hb:(g ==f)=false:=beq_eq_false_iff_ne.mpr h;simp only [List.lookup,hb,if_neg h]
 | (k,x) ::r=>by
  have ih:=Zho f g v r;rw [show Ze0 f v ((k,x) ::r)=(if k=f then (k,v) ::r else (k,x) ::Ze0 f v r) from rfl]
  by_cases hk:k=f
  ·rw [if_pos hk]
   by_cases h:g=k
   ·have hb:(g ==k)=true:=beq_iff_eq.mpr h;simp only [List.lookup,hb,if_pos (h.trans hk)]
   ·have hb:(g ==k)=false:=beq_eq_false_iff_ne.mpr h;simp only [List.lookup,hb,if_neg (fun e:g=f=>h (e.trans hk.symm))]
  ·rw [if_neg hk]
   by_cases h:g=k
   ·have hb:(g ==k)=true:=beq_iff_eq.mpr h;simp only [List.lookup,hb,if_neg (fun e:g=f=>hk (h.symm.trans e))]
   ·have hb:(g ==k)=false:=beq_eq_false_iff_ne.mpr h;simp only [List.lookup,hb];exact ih
theorem Zhd(f:Str)(v:V):∀fs:List (Str×V),f∈(Ze0 f v fs).map (·.1)/\∀g,g∈fs.map (·.1)->g∈(Ze0 f v fs).map (·.1)
 | []=>⟨by simp [Ze0],fun g h=>by simp at h⟩
 | (k,x) ::r=>by
  obtain ⟨i1,i2⟩:=Zhd f v r;rw [show Ze0 f v ((k,x) ::r)=(if k=f then (k,v) ::r else (k,x) ::Ze0 f v r) from rfl]
  by_cases hk:k=f
  ·rw [if_pos hk];subst hk;exact ⟨by simp,fun g h=>by simpa using h⟩
  ·rw [if_neg hk];refine ⟨?_,fun g h=>?_⟩
   ·rw [List.map_cons];exact List.mem_cons_of_mem _ i1
   ·rw [List.map_cons] at h ⊢;rcases List.mem_cons.mp h with e|e
    ·exact List.mem_cons.mpr (.inl e)
    ·exact List.mem_cons_of_mem _ (i2 g e)
theorem Zhk(f:Str)(v:V):∀fs:List (Str×V),(Ze0 f v fs).length<=fs.length+1
 | []=>by simp [Ze0]
 | (k,x) ::r=>by
  have ih:=Zhk f v r;rw [show Ze0 f v ((k,x) ::r)=(if k=f then (k,v) ::r else (k,x) ::Ze0 f v r) from rfl]
  by_cases hk:k=f
  ·rw [if_pos hk,List.length_cons,List.length_cons];lia
  ·rw [if_neg hk,List.length_cons,List.length_cons];lia
theorem Zc0.some_of{v:V}{o:Option Value}(r:Zc0 (some v) o):∃u,o=some u/\Ye v u:=by
 cases o with
 | none=>exact (show False from r).elim
 | some u=>exact ⟨u,rfl,r⟩
theorem Zc0.none_of{o:Option Value}(r:Zc0 none o):o=none:=by
 cases o with
 | none=>rfl
 | some u=>exact (show False from r).elim
theorem Zrg{v:V}{u:Value}(r:Ye v u):PySem.W.handedIn u=true:=by
 cases v with
 | non=>cases (show u=Value.none from r);rfl
 | bl b=>cases (show u=Value.bool b from r);rfl
 | int i=>obtain ⟨t,e⟩:=(show ∃t,u=Value.int i t from r);cases e;rfl
 | str x=>obtain ⟨t,e⟩:=(show ∃t,u=Value.str x t from r);cases e;rfl
 | byt b=>obtain ⟨t,e⟩:=(show ∃t,u=Value.bytes b t from r);cases e;rfl
 | flt b=>obtain ⟨t,e⟩:=(show ∃t,u=Value.float b t from r);cases e;rfl
 | ref a=>cases (show u=Value.ref a from r);rfl
 | ty n=>cases (show u=Value.type n from r);rfl
section
variable {P:Program} {w:World} {H H':Hp} {h h':Heap} {a C dx:Addr} {fs fs':List (Str×V)}
theorem Zii(hok:HOk P w H h)(e:H a=some (.ins C dx fs)):∃mA,Zox h a dx C mA/\(∀f,Zc0 (fs.lookup f) (mA f))/\PySem.Within mA (fs.map (·.1))/\fs.length<=1000/\H dx=some (.own a):=by
 obtain ⟨d,z,ne,ob,mA,n,r,q⟩:=(show Yf P w H h a (.ins C dx fs) from hok a _ e)
 exact ⟨mA,⟨ob,n,ne⟩,r,q,z,d⟩
end
structure Cls(K:Frag)(C:Addr):Prop where
 pg:PySem.W.plainGet K C Str.empty=true
 hd:PySem.W.hasDictIn K C=true
 po:PySem.W.plainOver K C=true
 sa:findIn K (.ref C) "__setattr__" =some (some (.builtin "object.__setattr__"))
theorem Cls.get{K:Frag}{C:Addr}(c:Cls K C)(f:Str):PySem.W.plainGet K C f=true:=c.pg
def Y3(K:Frag)(C:Addr)(f:Str):Prop:=findIn K (.ref C) f=some none
theorem Y3.taker{K:Frag}{C:Addr}{f:Str}(n:Y3 K C f):PySem.W.takerIn K C f=some none:=by
 unfold PySem.W.takerIn;rw [show findIn K (.ref C) f=some none from n]
 rfl
structure Yn(K:Frag)(C:Addr)(m:Str)(f:Addr):Prop where
 at_:findIn K (.ref C) m=some (some (.ref f))
 fn:PySem.W.isFn K (.ref f)=true
 kp:keepIn K (.ref f)=true
section
variable {X:Cx} {a7:List (Addr×Obj)} {σ:St} {H:Hp} {s:Shared} {a C dx:Addr} {fs:List (Str×V)} {f:Str} {v:V} {A:Around} {E:Value->Shared->Prop}
theorem Zo1{b:Bool}{Q:Value->Shared->Prop}(I:Inv X a7 σ H s)(e:H a=some (.ins C dx fs))(c:Cls X.K C)(n:Y3 X.K C f)(l:fs.lookup f=some v)
  (h:∀u s',Inv X a7 σ H s'->Ye v u->Q u s'):wpAny (model X.prog X.w) A (getAttr (.ref a) f b) Q E s:=by
 obtain ⟨mA,O,r,_,_,_⟩:=Zii I.hok e;obtain ⟨u,hu,ru⟩:=Zc0.some_of (v:=v) (o:=mA f) (by rw [<-l];exact r f);exact Zvr I.kIn O (c.get f) c.hd n hu (Zrg ru) (h u _ (I.tok _) ru)
theorem Zfv{m:Str}{g:Addr}{pl:Sem Bool}{Q:Value×List Value->Shared->Prop}(I:Inv X a7 σ H s)(e:H a=some (.ins C dx fs))(c:Cls X.K C)(k:Yn X.K C m g)(l:fs.lookup m=none)
  (h:Q (.ref g,[.ref a]) s):wpAny (model X.prog X.w) A (getMethod (.ref a) m pl) Q E s:=by
 obtain ⟨mA,O,r,_,_,_⟩:=Zii I.hok e;have hn:mA m=none:=Zc0.none_of (by rw [<-l];exact r m);exact Zsb I.kIn O (c.get m) k.at_ k.fn hn h
theorem Zoi{y:V}{u:Value}{Q:Unit->Shared->Prop}(I:Inv X a7 σ H s)(e:H a=some (.ins C dx fs))(c:Cls X.K C)(n:Y3 X.K C f)(hl:fs.length<1000)(ry:Ye y u)
  (h:∀s',Inv X a7 σ (upd H a (.ins C dx (Ze0 f y fs))) s'->Q () s'):wpAny (model X.prog X.w) A (setAttr (.ref a) f u) Q E s:=by
 obtain ⟨mA,O,r,wi,_,ho⟩:=Zii I.hok e;have hz:(fs.map (·.1)).length<=sizeLine:=by rw [List.length_map,sizeLine_eq];lia
 refine Zt8 I.kIn O c.sa c.po n.taker c.hd wi hz fun h' O' sb=>h _ ?_
 have hd:∃o,h'.get? dx=some o:=let ⟨o,_,_,e',_⟩:=O'.ns;⟨o,e'⟩;refine I.write (x:=a) (e:=dx) (by rw [e];exact True.intro) (.inr ho) (fun b q hb z=>(sb.2 b hb).trans z) hd ?_;refine ⟨by rw [Zd O.ne];exact ho,?_,O.ne,O'.obj,_,O'.ns,fun g=>?_,fun g hg=>?_⟩
 ·have:=Zhk f y fs;lia
 ·show Zc0 ((Ze0 f y fs).lookup g) (if g=f then some u else mA g);rw [Zho]
  by_cases q:g=f
  ·rw [if_pos q,if_pos q];exact ry
  ·rw [if_neg q,if_neg q];exact r g
 ·by_cases q:g=f
  ·rw [q];exact (Zhd f y fs).1
  ·refine (Zhd f y fs).2 g (wi g fun z=>hg ?_);show (if g=f then some u else mA g)=none;rw [if_neg q];exact z
theorem Inv.made(I:Inv X a7 σ H s):Inv X a7 σ (upd (upd H s.heap.objs.size (.own (s.heap.objs.size+1))) (s.heap.objs.size+1) (.ins C s.heap.objs.size []))
  { s with heap:=(s.heap.push PySem.W.emptyDict).push (PySem.W.instObj C s.heap.objs.size) }:=by
 have e1:(s.heap.push PySem.W.emptyDict).get? s.heap.objs.size=some PySem.W.emptyDict:=Heap.get?_push_size s.heap rfl;have e2:((s.heap.push PySem.W.emptyDict).push (PySem.W.instObj C s.heap.objs.size)).get? (s.heap.objs.size+1)=some (PySem.W.instObj C s.heap.objs.size):=by
  have:=Heap.get?_push_size (s.heap.push PySem.W.emptyDict) (o:=PySem.W.instObj C s.heap.objs.size) rfl;rwa [Heap.size_push] at this
 have e3:(s.heap.push PySem.W.emptyDict).Ns s.heap.objs.size (fun _=>none):=⟨PySem.W.emptyDict,#[],_,e1,rfl,(fun e he=>absurd he (by simp)),fun _=>rfl⟩
 have I1:=I.laid (a:=s.heap.objs.size) (o:=.own (s.heap.objs.size+1)) (h':=s.heap.push PySem.W.emptyDict) (t':=s.toks) (fun b u q=>Heap.get?_push_of_some _ q) (Nat.le_refl _) ⟨_,e1⟩;refine I1.laid (a:=s.heap.objs.size+1) (o:=.ins C s.heap.objs.size []) (t':=s.toks) (fun b u q=>Heap.get?_push_of_some _ q) (Nat.le_of_eq (Heap.size_push _ _)) ?_;have ne:s.heap.objs.size≠s.heap.objs.size+1:=Nat.ne_of_lt (Nat.lt_succ_self _);refine ⟨by rw [Zd ne,Zi],Nat.zero_le _,ne,e2,fun _=>none,(Heap.Ns1.of_empty e3).at fun o q=>Heap.get?_push_of_some _ q,fun _=>True.intro,fun y hy=>absurd rfl hy⟩
theorem Zu7{prog:Program}{w:World}{env:Env}{e:Expr}{f:Str}{pos:Pos}{s:Shared}{Q:Value->Shared->Prop}(hb:attributeBase e f env (eval e env)=eval e env)
  (h:wpAny (model prog w) A (eval e env) (fun o s₁=>wpAny (model prog w) A (getAttr o f true) Q E s₁) E s):wpAny (model prog w) A (eval (.Attribute e f pos) env) Q E s :=
 Attribute_any_ h (by rw [arm_eval_Attribute,hb])
end
def Ya2(K:Frag)(ta:TE)(f:Str):TE:=fun σ H Q=>ta σ H fun x H1=>∃a C dx fs v,x=.ref a/\H1 a=some (.ins C dx fs)/\Cls K C/\Y3 K C f/\fs.lookup f=some v/\Q v H1
def Yao(K:Frag)(ta tv:TE)(f:Str):TS:=fun D σ H=>tv σ H fun y H1=>ta σ H1 fun x H2=>∃a C dx fs,x=.ref a/\H2 a=some (.ins C dx fs)/\Cls K C/\Y3 K C f/\fs.length<1000 /\
 D.nx σ (upd H2 a (.ins C dx (Ze0 f y fs)))
section
variable {X:Cx} {o e value:Expr} {f:Str} {pos v6 O4:Pos} {ta tv:TE}
theorem Yk(he:PE X e ta)(hb:attributeBase e f X.env (eval e X.env)=eval e X.env):PE X (.Attribute e f pos) (Ya2 X.K ta f):=by
 intro a7 s σ H Q I h;refine Zu7 hb (thn (he a7 s σ H _ I h) fun u s1 zz=>?_);obtain ⟨x,H1,I1,rx,a,C,dx,fs,v,ex,ea,c,n,l,q⟩:=zz;subst ex;obtain rfl:u=Value.ref a:=rx;exact Zo1 I1 ea c n l fun u' s2 I2 ru=>⟨v,H1,I2,ru,q⟩
theorem Zaq(ha:PE X o ta)(hv:PE X value tv)(hs:swapsWith value (some (.Attribute o f v6)) pos.line X.env=pure false):PS X (.Assign [.Attribute o f v6] value pos) (Yao X.K ta tv f):=by
 intro a7 s σ H D I h;refine plainObj_wpAny_Assign_Attribute (thn (hv a7 s σ H _ I h) fun u s1 ⟨y,H1,I1,ry,q⟩=>thn (ha a7 s1 σ H1 _ I1 q) fun ov s2 zz=>?_) hs;obtain ⟨x,H2,I2,rx,a,C,dx,fs,ex,ea,c,n,l,q2⟩:=zz;subst ex;obtain rfl:ov=Value.ref a:=rx;exact Zoi I2 ea c n l ry fun s3 I3=>⟨σ,_,I3,q2⟩
theorem Zwd{pl:Sem Bool}{m:Str}{i5:Pos}{args:List Expr}{a7:List (Addr×Obj)}{s:Shared}{σ:St}{H:Hp}{Q:Value->Shared->Prop}{te:TE}(he:PE X e te)(I:Inv X a7 σ H s)
  (h:te σ H fun x H1=>∃a C dx fs g,x=.ref a/\H1 a=some (.ins C dx fs)/\Cls X.K C/\Yn X.K C m g/\fs.lookup m=none /\
   ∀s1,Inv X a7 σ H1 s1->wpAny (model X.prog X.w) X.A (callWith pos (.ref g) [.ref a] (backTo pos (starEach args X.env)) (backToKw pos (keywordEach [] X.env))) Q X.xe s1)
  (ht:eval (.Call (.Attribute e m i5) args [] pos) X.env=(do
   let ov <-eval e X.env
   standAt i5.atName
   let (f,first) <-holding [ov] (getMethod ov m pl)
   callWith pos f first (backTo pos (starEach args X.env)) (backToKw pos (keywordEach [] X.env)))) :
  wpAny (model X.prog X.w) X.A (eval (.Call (.Attribute e m i5) args [] pos) X.env) Q X.xe s:=by
 refine PySem.W.methodCall_KW (pl:=pl) (thn (he a7 s σ H _ I h) fun u s1 zz=>?_) ht;obtain ⟨x,H1,I1,rx,a,C,dx,fs,g,ex,ea,c,k,l,q⟩:=zz;subst ex;obtain rfl:u=Value.ref a:=rx;exact Zfv I1 ea c k l (q s1 I1)
end
section
variable {X:Cx} {a7:List (Addr×Obj)} {σ:St} {H:Hp} {s:Shared} {A:Around} {E:Value->Shared->Prop} {Q:Value->Shared->Prop} {c:Value} {b:Bool}
inductive Xo(K:Frag)(H:Hp):V->Value->Prop where
 | non:Xo K H .non (.type "NoneType")
 | bl (x:Bool):Xo K H (.bl x) (.type "bool")
 | int (i:Int):Xo K H (.int i) (.type "int")
 | str (x:Str):Xo K H (.str x) (.type "str")
 | flt (x:UInt64):Xo K H (.flt x) (.type "float")
 | lst {a:Addr} {xs:List V} (e:H a=some (.lst xs)):Xo K H (.ref a) (.type "list")
 | frz {a:Addr} {o:Obj} {xs:List V} (e:H a=some (.frz o (.lst xs))):Xo K H (.ref a) (.type "list")
 | tup {a:Addr} {xs:List V} (e:H a=some (.tup xs)):Xo K H (.ref a) (.type "tuple")
 | dK {a:Addr} {kvs:List (Key×V)} (e:H a=some (.dK kvs)):Xo K H (.ref a) (.type "dict")
 | dT {a:Addr} {kvs:List (List Key×V)} (e:H a=some (.dT kvs)):Xo K H (.ref a) (.type "dict")
 | ins {a C dx:Addr} {fs:List (Str×V)} (e:H a=some (.ins C dx fs)) (cl:Cls K C) (ha:findIn K (.ref C) "__class__" =some (some (.builtin "object.__class__")))
   (hn:PySem.W.specialIn K (.builtin "object.__class__") "__get__" =some (some (.builtin "getset_descriptor.__get__"))) (htk:PySem.W.takesIn K (.builtin "object.__class__")=some true)
   (hm:PySem.W.mroIn K C (.type "object")=some true):Xo K H (.ref a) (.ref C)
theorem Zk1{x:V}{u t:Value}(I:Inv X a7 σ H s)(rx:Ye x u)(ty:Xo X.K H x t)(e:kitOne X.K t c=some b)(h:∀tk,Q (.bool b) { s with toks:=tk }) :
  wpAny (model X.prog X.w) A (call (.builtin "isinstance") [u,c]) Q E s:=by
 cases ty with
 | non=>cases (show u=Value.none from rx);exact PySem.W.kia_one PySem.W.kitx_none I.kIn True.intro e (fun z=>nomatch z) h
 | bl y=>cases (show u=Value.bool y from rx);exact PySem.W.kia_one PySem.W.kitx_bool I.kIn True.intro e (fun z=>nomatch z) h
 | int i=>obtain ⟨t,q⟩:=(show ∃t,u=Value.int i t from rx);cases q;exact PySem.W.kia_one PySem.W.kitx_int I.kIn True.intro e (fun z=>nomatch z) h
 | str y=>obtain ⟨t,q⟩:=(show ∃t,u=Value.str y t from rx);cases q;exact PySem.W.kia_one PySem.W.kitx_str I.kIn True.intro e (fun z=>nomatch z) h
 | flt y=>obtain ⟨t,q⟩:=(show ∃t,u=Value.float y t from rx);cases q;exact PySem.W.kia_one PySem.W.kitx_float I.kIn True.intro e (fun z=>nomatch z) h
 | @lst a xs ea =>
  cases (show u=Value.ref a from rx);obtain ⟨_,_,n,_,h1⟩:=(show Yf X.prog X.w H s.heap a (.lst xs) from I.hok a _ ea)
  exact PySem.W.kia_one PySem.W.kitx_list I.kIn ⟨_,h1,rfl⟩ e (fun z=>nomatch z) h
 | @frz a ob xs ea =>
  cases (show u=Value.ref a from rx);obtain ⟨_,_,_,n,_,h1⟩:=(show Yf X.prog X.w H s.heap a (.frz ob (.lst xs)) from I.hok a _ ea)
  exact PySem.W.kia_one PySem.W.kitx_list I.kIn ⟨_,h1,rfl⟩ e (fun z=>nomatch z) h
 | @tup a xs ea =>
  cases (show u=Value.ref a from rx);obtain ⟨_,_,_,p⟩:=(show Yf X.prog X.w H s.heap a (.tup xs) from I.hok a _ ea)
  obtain ⟨o,h1,h2,_⟩:=p;exact PySem.W.kia_one PySem.W.kitx_tuple I.kIn ⟨o,h1,h2⟩ e (fun z=>nomatch z) h
 | @dK a kvs ea =>
  cases (show u=Value.ref a from rx);obtain ⟨_,_,vs,_,p⟩:=(show Yf X.prog X.w H s.heap a (.dK kvs) from I.hok a _ ea)
  obtain ⟨o,es,ep,h1,h2,_⟩:=p;exact PySem.W.kia_one PySem.W.kitx_dict I.kIn ⟨o,h1,h2.1⟩ e (fun z=>nomatch z) h
 | @dT a kvs ea =>
  cases (show u=Value.ref a from rx);obtain ⟨_,_,xs,_,o,es,ep,h1,h2,_⟩:=(show Yf X.prog X.w H s.heap a (.dT kvs) from I.hok a _ ea)
  exact PySem.W.kia_one PySem.W.kitx_dict I.kIn ⟨o,h1,h2.1⟩ e (fun z=>nomatch z) h
 | @ins a C dx fs ea cl ha hn htk hm =>
  cases (show u=Value.ref a from rx);obtain ⟨mA,O,_⟩:=Zii I.hok ea;obtain ⟨od,J,_⟩:=O.look;exact PySem.W.kia_one (PySem.W.kitx_own (cl.get _) cl.hd ha hn htk hm) I.kIn J e (fun z=>nomatch z) h
end
end L2
namespace L2
open PySem PySem.Spec PyProof.Rows
structure Xj(k:Nat)(A:Around):Prop where
 hd:A.handled=none
 dp:A.depth+3 * k+5<recursionLimit
 un:A.units+16 * k+200<cLine
 gd:A.guards=some []
theorem Xj.mono{j k:Nat}{A:Around}(r:Xj k A)(h:j<=k):Xj j A:=⟨r.hd,by have:=r.dp;lia,by have:=r.un;lia,r.gd⟩
theorem Xj.m{j k:Nat}{A:Around}(r:Xj k A)(h:j<=k:=by decide):Xj j A:=r.mono h
theorem Xj.deeper{k:Nat}{A:Around}(r:Xj (k+1) A)(env:Env):Xj k (A.deeper env) :=
 ⟨r.hd,by have:=r.dp;show A.depth+1+3 * k+5<_;lia,by have:=r.un;show A.units+3+16 * k+200<_;lia,r.gd⟩
theorem Zpf{A:Around}{C:Addr}{us:List Value}{kw:List (Str×Value)}:(A.under (.builtin "type.__call__" ⟨.ref C ::us,kw⟩)).depth=A.depth+1:=by
 first | rfl | simp [Around.under,Code.weight,Code.isCreation,Code.isGuard,Code.isCaller,Code.frames,Code.isFrame,guardIds]
theorem Zol{A:Around}{C:Addr}{us:List Value}{kw:List (Str×Value)}:(A.under (.builtin "type.__call__" ⟨.ref C ::us,kw⟩)).units=A.units+1:=by
 first | rfl | simp [Around.under,Code.cUnits,Code.frames,Code.isFrame]
theorem Znp{A:Around}{C:Addr}{us:List Value}{kw:List (Str×Value)}:(A.under (.builtin "type.__call__" ⟨.ref C ::us,kw⟩)).guards=A.guards:=by
 first | rfl | simp [Around.under,Code.guards,Code.isGuard,guardIds,pushGuards]
theorem Xj.make{k:Nat}{A:Around}(r:Xj (k+1) A)(C:Addr)(us:List Value)(kw:List (Str×Value)):Xj k (A.under (.builtin "type.__call__" ⟨.ref C ::us,kw⟩)) :=
 ⟨r.hd,by have:=r.dp;rw [Zpf];lia,by have:=r.un;rw [Zol];lia,Znp.trans r.gd⟩
theorem Xj.depth{k:Nat}{A:Around}(r:Xj k A):A.depth<recursionLimit:=by have:=r.dp;lia
theorem Xj.units{k:Nat}{A:Around}(r:Xj k A):A.units+64<cLine:=by have:=r.un;lia
def Zsj:TA:=fun _ H Q=>Q [] H
def Zjr(ta:TE)(tr:TA):TA:=fun σ H Q=>ta σ H fun x H1=>tr σ H1 fun xs H2=>Q (x ::xs) H2
section
variable {X:Cx} {e:Expr} {es:List Expr} {te:TE} {t:TA} {pos:Pos}
theorem Za:PA X [] Zsj:=fun _ _ _ _ H Q I h=>Calls.spliced_nil ⟨[],H,I,.nil,h⟩
theorem Zvl(ha:PE X e te)(hr:PA X es t)(hs:starEach (e ::es) X.env=(false,eval e X.env) ::starEach es X.env:=by rfl):PA X (e ::es) (Zjr te t):=by
 intro pos a7 s σ H Q I h;rw [hs];show wpAny _ _ (spliced ((false,eval e X.env) ::backTo pos (starEach es X.env))) _ _ s;refine Calls.spliced_cons (thn (ha a7 s σ H _ I h) fun u s1 ⟨x,H1,I1,r1,q1⟩=>?_);exact thn (hr pos a7 s1 σ H1 _ I1 q1) fun us s2 ⟨xs,H2,I2,r2,q2⟩=>⟨x ::xs,H2,I2,.cons r1 r2,q2⟩
end
abbrev Sp:=List V->Hp->VK->XK->Prop
abbrev CXT:=List Env->Hp->Shared->XK->Value->Shared->Prop
structure Zm1(P:Program)(w:World)(K:Frag)(mg:Str->Option Value)(base:Heap)(A:Around)(outer:List Env)(s:Shared)(H:Hp):Prop where
 frames:A.frames=some outer
 mod:Mod K mg base
 bs:∀b o,base.get? b=some o->s.heap.get? b=some o/\H b=none
 bsz:base.objs.size<=s.heap.objs.size
 funs:s.heap.FunFrames base outer
 frf:∀b∈frs outer,H b=none
 hok:HOk P w H s.heap
 bare:AllBare s.gens
def CE(outer:List Env)(P:Program)(w:World)(H:Hp)(s:Shared)(Q:VK)(u:Value)(s':Shared):Prop :=
 ∃v H',s'.os=s.os/\AllBare s'.gens/\Un (frs outer) [] H H' s.heap s'.heap/\HOk P w H' s'.heap/\Ye v u/\Q v H'
def CR(CX:CXT)(outer:List Env)(P:Program)(w:World)(H:Hp)(s:Shared)(Q:VK)(E:XK)(r:Result)(s':Shared):Prop :=
 match r with
 | .ok (.ret u)=>CE outer P w H s Q u s'
 | .ok _=>False
 | .error e=>CX outer H s E e s'
structure Zw(P:Program)(w:World)(K:Frag)(mg:Str->Option Value)(base:Heap)(CX:CXT)(k:Nat)(f:Addr)(fd:FuncData)(ps:List Str)(sp:Sp):Prop where
 len:∀vs H Q E,sp vs H Q E->vs.length=ps.length
 run:∀(A:Around) (outer:List Env) (s:Shared) (H:Hp) (args:Args) (us:List Value) (vs:List V) (Q:VK) (E:XK),Xj k A->Zm1 P w K mg base A outer s H->BindsTo s fd args (ps.zip us)->Z5 vs us->sp vs H Q E ->
  codeAny (model P w) A (.call (.ref f) args) (CR CX outer P w H s Q E) s
theorem Zw.mono{P:Program}{w:World}{K:Frag}{mg:Str->Option Value}{base:Heap}{CX:CXT}{j k:Nat}{f:Addr}{fd:FuncData}{ps:List Str}{sp:Sp}(F:Zw P w K mg base CX j f fd ps sp)(h:j<=k) :
  Zw P w K mg base CX k f fd ps sp:=⟨F.len,fun A outer s H args us vs Q E hr=>F.run A outer s H args us vs Q E (hr.mono h)⟩
theorem Zm1.make{P:Program}{w:World}{K:Frag}{mg:Str->Option Value}{base:Heap}{A:Around}{outer:List Env}{s:Shared}{H:Hp}(e:Zm1 P w K mg base A outer s H)(C:Addr)(us:List Value)(kw:List (Str×Value)) :
  Zm1 P w K mg base (A.under (.builtin "type.__call__" ⟨.ref C ::us,kw⟩)) outer s H:=⟨by first | exact e.frames | (simpa [Around.under,Code.envs,Code.isFrame,pushEnvs] using e.frames),e.mod,e.bs,e.bsz,e.funs,e.frf,e.hok,e.bare⟩
section
variable {X:Cx} {a7:List (Addr×Obj)} {σ:St} {H:Hp} {s s':Shared}
theorem Inv.env0(I:Inv X a7 σ H s):Zm1 X.prog X.w X.K X.mg X.base X.A X.stack s H :=
 ⟨I.ok.frames,I.ok.mod,I.bs,Nat.le_trans I.ok.bsz I.sz,I.stack,I.stkFree,I.hok,I.bare⟩
theorem Inv.after{Q:VK}{u:Value}(I:Inv X a7 σ H s)(h:CE X.stack X.prog X.w H s Q u s'):EP X a7 σ Q u s':=by
 obtain ⟨v,H',os,bare,un,hok,r,q⟩:=h;obtain ⟨hh,g,d,t,os'⟩:=s';obtain rfl:os'=s.os:=os;exact ⟨v,H',I.call (h':=hh) (g':=g) (d':=d) (t':=t) (ch:=[]) un hok bare (fun b z=>absurd z (by simp)),r,q⟩
end
def Zv9(sp:Sp)(B5:List V)(E:XK)(t:TA):TE:=fun σ H Q=>t σ H fun vs H1=>sp (vs++B5) H1 Q E
def Zr6(C:Addr)(m:Str)(sp:Sp)(B5:List V)(E:XK)(ta:TE)(t:TA):TE:=fun σ H Q=>ta σ H fun x H1=>∃a dx fs,x=.ref a/\H1 a=some (.ins C dx fs)/\fs.lookup m=none /\
 t σ H1 fun vs H2=>sp (x ::(vs++B5)) H2 Q E
def Zak(K:Frag)(fd:FuncData)(ps:List Str)(ds:List Value):Prop :=
 ∀(s:Shared) (us:List Value),K.In s.heap->(us++ds).length=ps.length->BindsTo s fd ⟨us,[]⟩ (ps.zip (us++ds))
theorem Zak.all{K:Frag}{fd:FuncData}{ps:List Str}(h:∀us:List Value,us.length=ps.length->bindArgs fd ⟨us,[]⟩=pure (ps.zip us)):Zak K fd ps []:=fun s us _ hl=>by
 rw [List.append_nil] at hl ⊢;exact .of_eq (h us hl)
def Zay(CX:CXT)(X:Cx)(E:XK):Prop:=∀(a7:List (Addr×Obj)) (σ:St) (H:Hp) (s:Shared) (e:Value) (s':Shared),Inv X a7 σ H s->CX X.stack H s E e s'->X.xe e s'
section
variable {X:Cx} {CX:CXT} {k:Nat} {f C:Addr} {fd:FuncData} {ps:List Str} {sp:Sp} {B5:List V} {ds:List Value} {E:XK} {x m:Str} {p pos i5:Pos} {e o:Expr} {es:List Expr} {ta:TE} {t:TA}
theorem Zo5{a7:List (Addr×Obj)}{σ:St}{H:Hp}{s:Shared}{Q:VK}{us:List Value}{vs:List V}(F:Zw X.prog X.w X.K X.mg X.base CX k f fd ps sp)(hr:Xj k X.A)(hb:Zak X.K fd ps ds)(hd:Z5 B5 ds)(hx:Zay CX X E)
  (I:Inv X a7 σ H s) (r:Z5 vs us) (h:sp (vs++B5) H Q E):wpAny (model X.prog X.w) X.A (call (.ref f) us) (EP X a7 σ Q) X.xe s:=by
 have r2:Z5 (vs++B5) (us++ds):=r.append hd;have hl:(us++ds).length=ps.length:=by rw [<-r2.length];exact F.len _ _ _ _ h
 refine wpAny_call (codeAny_mono (F.run X.A X.stack s H ⟨us,[]⟩ (us++ds) (vs++B5) Q E hr I.env0 (hb s us I.kIn hl) r2 h) fun r s' hq=>?_);cases r with
 | error e=>exact hx a7 σ H s e s' I hq
 | ok fl =>
  cases fl with
  | ret u=>exact I.after hq
  | next=>exact False.elim hq
  | brk=>exact False.elim hq
  | cont=>exact False.elim hq
theorem Xv(F:Zw X.prog X.w X.K X.mg X.base CX k f fd ps sp)(hr:Xj k X.A)(hg:Gl X x)(hm:X.mg x=some (.ref f))(hk:keepIn X.K (.ref f)=true)(hb:Zak X.K fd ps ds)(hd:Z5 B5 ds)(hx:Zay CX X E)
  (ha:PA X (e ::es) t) (O5:(x ==("__debug__" :Str))=false:=by decide) (he:starEach (e ::es) X.env=(false,eval e X.env) ::starEach es X.env:=by rfl) (i7:(backTo pos (starEach es X.env)).any (·.1)=false:=by rfl) :
  PE X (.Call (.Name x p) (e ::es) [] pos) (Zv9 sp B5 E t):=by
 intro a7 s σ H Q I h;refine wpAny_Call_Name_kw (Zeu I hg hm ?_ O5);refine PySem.W.callWith_K (h₀:=X.base) I.ok.mod.kin hk (thn (ha pos a7 s σ H _ I h) fun us s1 ⟨vs,H1,I1,r,q⟩=>⟨I1.kIn,?_⟩) he i7;exact Zo5 F hr hb hd hx I1 r q
theorem Yu{pl:Sem Bool}(he:PE X o ta)(c:Cls X.K C)(hm:Yn X.K C m f)(F:Zw X.prog X.w X.K X.mg X.base CX k f fd ps sp)(hr:Xj k X.A)(hb:Zak X.K fd ps ds)(hd:Z5 B5 ds)(hx:Zay CX X E)(ha:PA X (e ::es) t)
  (A6:starEach (e ::es) X.env=(false,eval e X.env) ::starEach es X.env:=by rfl) (i7:(backTo pos (starEach es X.env)).any (·.1)=false:=by rfl)
  (ht:eval (.Call (.Attribute o m i5) (e ::es) [] pos) X.env=(do
   let ov <-eval o X.env
   standAt i5.atName
   let (f,first) <-holding [ov] (getMethod ov m pl)
   callWith pos f first (backTo pos (starEach (e ::es) X.env)) (backToKw pos (keywordEach [] X.env))):=by rfl) :
  PE X (.Call (.Attribute o m i5) (e ::es) [] pos) (Zr6 C m sp B5 E ta t):=by
 intro a7 s σ H Q I h;refine PySem.W.methodCall_KW (pl:=pl) (thn (he a7 s σ H _ I h) fun u s1 ⟨x,H1,I1,rx,a,dx,fs,ex,ea,l,q⟩=>?_) ht;subst ex;obtain rfl:u=Value.ref a:=rx;refine Zfv I1 ea c hm l ?_;refine PySem.W.callWith_K (first:=[.ref a]) (h₀:=X.base) I.ok.mod.kin hm.kp (thn (ha pos a7 s1 σ H1 _ I1 q) fun us s2 ⟨vs,H2,I2,r,q2⟩=>⟨I2.kIn,?_⟩) A6 i7;exact Zo5 (us:=.ref a ::us) (vs:=.ref a ::vs) F hr hb hd hx I2 (.cons rfl r) q2
theorem Yw{pl:Sem Bool}(he:PE X o ta)(c:Cls X.K C)(hm:Yn X.K C m f)(F:Zw X.prog X.w X.K X.mg X.base CX k f fd ps sp)(hr:Xj k X.A)(hb:Zak X.K fd ps ds)(hd:Z5 B5 ds)(hx:Zay CX X E)
  (ht:eval (.Call (.Attribute o m i5) [] [] pos) X.env=(do
   let ov <-eval o X.env
   standAt i5.atName
   let (f,first) <-holding [ov] (getMethod ov m pl)
   callWith pos f first (backTo pos (starEach [] X.env)) (backToKw pos (keywordEach [] X.env))):=by rfl) :
  PE X (.Call (.Attribute o m i5) [] [] pos) (Zr6 C m sp B5 E ta Zsj):=by
 intro a7 s σ H Q I h;refine PySem.W.methodCall_KW (pl:=pl) (thn (he a7 s σ H _ I h) fun u s1 zz=>?_) ht;obtain ⟨x,H1,I1,rx,a,dx,fs,ex,ea,l,q⟩:=zz;subst ex;obtain rfl:u=Value.ref a:=rx;refine Zfv I1 ea c hm l ?_;exact PySem.W.callWith_K0 (first:=[.ref a]) I1.kIn hm.kp (Zo5 (us:=[.ref a]) (vs:=[.ref a]) F hr hb hd hx I1 (.cons rfl .nil) q)
structure Mk(K:Frag)(C f:Addr):Prop where
 makes:PySem.W.makesIn K C=true
 init:findIn K (.ref C) "__init__" =some (some (.ref f))
 fn:PySem.W.isFn K (.ref f)=true
 kp:keepIn K (.ref C)=true
theorem Zsv{a7:List (Addr×Obj)}{σ:St}{H:Hp}{s:Shared}{Q:VK}{us:List Value}{vs:List V}(M:Mk X.K C f)(F:Zw X.prog X.w X.K X.mg X.base CX k f fd ps sp)(hr:Xj (k+1) X.A)(hb:Zak X.K fd ps ds)(hd:Z5 B5 ds)
  (hx:Zay CX X E) (I:Inv X a7 σ H s) (r:Z5 vs us)
  (h:∀x dx,H x=none->H dx=none->dx≠x->sp (.ref x ::(vs++B5)) (upd (upd H dx (.own x)) x (.ins C dx [])) (fun v H2=>v=.non/\Q (.ref x) H2) E) :
  wpAny (model X.prog X.w) X.A (call (.ref C) us) (EP X a7 σ Q) X.xe s:=by
 have hq:=h (s.heap.objs.size+1) s.heap.objs.size (I.hok.fresh (Nat.le_succ _)) (I.hok.fresh (Nat.le_refl _)) (Nat.ne_of_lt (Nat.lt_succ_self _));have I2:=Inv.made (C:=C) I;have r2:Z5 (V.ref (s.heap.objs.size+1) ::(vs++B5)) (Value.ref (s.heap.objs.size+1) ::(us++ds)):=.cons rfl (r.append hd);have hl:(Value.ref (s.heap.objs.size+1) ::us++ds).length=ps.length:=by
  have e:=r2.length;rw [F.len _ _ _ _ hq] at e;exact e.symm
 refine wpAny_call (Zst (f:=f) I.kIn M.makes M.init (beq_iff_eq.mp M.fn) (codeAny_mono (F.run _ X.stack _ _ ⟨Value.ref (s.heap.objs.size+1) ::us,[]⟩ (Value.ref (s.heap.objs.size+1) ::(us++ds)) _ _ E (hr.make C us [])
  (I2.env0.make C us []) (hb _ (Value.ref (s.heap.objs.size+1) ::us) I2.kIn hl) r2 hq) fun r s' hq'=>?_))
 cases r with
 | error e=>exact hx a7 σ _ _ e s' I2 hq'
 | ok fl =>
  cases fl with
  | ret u =>
   obtain ⟨v,H',I3,rv,ev,q3⟩:=I2.after hq';subst ev;exact ⟨rv,⟨V.ref (s.heap.objs.size+1),H',I3,rfl,q3⟩⟩
  | next=>exact False.elim hq'
  | brk=>exact False.elim hq'
  | cont=>exact False.elim hq'
end
section
variable {X:Cx} {CX:CXT} {k:Nat} {f C:Addr} {fd:FuncData} {ps ks:List Str} {sp:Sp} {E:XK} {x m:Str} {p pos i5 kpos:Pos} {e o:Expr} {es:List Expr} {kws:List Keyword} {te ta:TE} {t tk:TA} {nm:Option Str}
variable {g:List Value->List Value->List Value} {gV:List V->List V->List V}
end
structure Zk(N P:List Str)(sc:Scope):Prop where
 kind:sc.kind=.function:=by rfl
 co:sc.isCoroutine=false:=by rfl
 gen:sc.isGenerator=false:=by rfl
 nd:N.Nodup:=by trivial
 pre:N.take P.length=P:=by rfl
 par:∀x∈P,sc.names.lookup x=some .local\/sc.names.lookup x=some .cell:=by trivial
 nofree:∀y∈sc.names,y.2 ≠ .free:=by trivial
theorem Zkt{kindOf:Str->Option NameKind}{x:Str}:∀{binds:List (Str×Value)} {m:Str->Option Value},(∀v,(x,v)∉binds)->bindL kindOf binds m x=m x
 | [],_,_=>rfl
 | (n,v) ::r,m,h=>by
  unfold bindL;rw [Zkt fun w hw=>h w (List.mem_cons_of_mem _ hw)];split
  ·have:x≠n:=by rintro rfl;exact h v List.mem_cons_self
   simp [this]
  ·rfl
theorem Zlr{kindOf:Str->Option NameKind}{x:Str}:∀{binds:List (Str×Value)} {m:Str->Option Value},(∀v,(x,v)∉binds)->bindC kindOf binds m x=m x
 | [],_,_=>rfl
 | (n,v) ::r,m,h=>by
  unfold bindC;rw [Zlr fun w hw=>h w (List.mem_cons_of_mem _ hw)];split
  ·rfl
  ·have:x≠n:=by rintro rfl;exact h v List.mem_cons_self
   simp [this]
theorem Zkz{kindOf:Str->Option NameKind}{x:Str}{v:Value}:∀{P:List Str} {vs:List Value} {i:Nat} {m:Str->Option Value},P.Nodup->P[i]? =some x->vs[i]? =some v->kindOf x=some .local ->
  bindL kindOf (P.zip vs) m x=some v
 | [],_,_,_,_,h,_,_=>by simp at h
 | _ ::_,[],_,_,_,_,h,_=>by simp at h
 | p ::P,w ::vs,0,m,nd,h1,h2,hk=>by
  simp at h1 h2;subst h1;subst h2;show bindL kindOf ((p,w) ::P.zip vs) m p=_;unfold bindL;rw [Zkt fun v hv=>(List.nodup_cons.mp nd).1 (List.of_mem_zip hv).1,if_pos hk];simp
 | p ::P,w ::vs,i+1,m,nd,h1,h2,hk=>by
  show bindL kindOf ((p,w) ::P.zip vs) m x=_;unfold bindL;exact Zkz (i:=i) (List.nodup_cons.mp nd).2 (by simpa using h1) (by simpa using h2) hk
theorem Zle{kindOf:Str->Option NameKind}{x:Str}{v:Value}:∀{P:List Str} {vs:List Value} {i:Nat} {m:Str->Option Value},P.Nodup->P[i]? =some x->vs[i]? =some v->kindOf x≠some .local ->
  bindC kindOf (P.zip vs) m x=some v
 | [],_,_,_,_,h,_,_=>by simp at h
 | _ ::_,[],_,_,_,_,h,_=>by simp at h
 | p ::P,w ::vs,0,m,nd,h1,h2,hk=>by
  simp at h1 h2;subst h1;subst h2;show bindC kindOf ((p,w) ::P.zip vs) m p=_;unfold bindC;rw [Zlr fun v hv=>(List.nodup_cons.mp nd).1 (List.of_mem_zip hv).1,if_neg hk];simp
 | p ::P,w ::vs,i+1,m,nd,h1,h2,hk=>by
  show bindC kindOf ((p,w) ::P.zip vs) m x=_;unfold bindC;exact Zle (i:=i) (List.nodup_cons.mp nd).2 (by simpa using h1) (by simpa using h2) hk
def start(N:List Str)(vs:List V):St:=vs.map some++List.replicate (N.length-vs.length) none
def Zd0(CX:CXT)(P:Program)(w:World)(K:Frag)(mg:Str->Option Value)(base:Heap)(N:List Str)(qual:Str)(scope:Scope)(f:Addr)(cd:Value)(A:Around)(outer:List Env)(s:Shared)(H:Hp)(E:XK):Cx where
 prog:=P
 w:=w
 K:=K
 mg:=mg
 base:=base
 A:=A.deeper (envOfC qual scope s.heap.objs.size f cd)
 N:=N
 s₀:=s
 H₀:=H
 env:=envOfC qual scope s.heap.objs.size f cd
 outer:=outer
 stack:=envOfC qual scope s.heap.objs.size f cd ::outer
 ex:=[]
 calm:=true
 fn:=fun _=>true
 pn:=[]
 xe:=fun e s'=>wpAny (model P w) (A.deeper (envOfC qual scope s.heap.objs.size f cd)) (leaving (envOfC qual scope s.heap.objs.size f cd) e) (fun _ Q8=>CX outer H s E e Q8) (fun e' Q8=>CX outer H s E e' Q8) s'
theorem Zob{sc:Scope}{n:Nat}{x:Str}(h:sc.names.lookup x=some .cell):∃c,(cellsFrom n sc.names []).lookup x=some c:=by
 have q:=PySem.W.cellsFrom_some sc.names n [] (.inl h);exact Option.isSome_iff_exists.mp q
theorem Zqv{CX:CXT}{P:Program}{w:World}{K:Frag}{mg:Str->Option Value}{base:Heap}{N ps:List Str}{qual:Str}{scope:Scope}{f:Addr}{cd:Value}{A:Around}{outer:List Env}{s s1:Shared}{H:Hp}{E:XK}{us:List Value}{vs:List V}
  (S:Zk N ps scope) (hd:A.handled=none) (e0:Zm1 P w K mg base A outer s H) (hl:vs.length=ps.length) (r:Z5 vs us)
  (x:InCallC s s.heap.objs.size (bindL (envOfC qual scope s.heap.objs.size f cd).kindOf (ps.zip us) fun _=>none) (cellsFrom (s.heap.objs.size+1) scope.names []) (bindC (envOfC qual scope s.heap.objs.size f cd).kindOf (ps.zip us) fun _=>none) s1) :
  Inv (Zd0 CX P w K mg base N qual scope f cd A outer s H E) [] (start N vs) H s1:=by
 have i7:ps.length<=N.length:=by have:=congrArg List.length S.pre;rw [List.length_take] at this;lia
 obtain ⟨h1,tk,rfl,hk⟩:=x.done;have noA:∀b:Addr,b∉(Zd0 CX P w K mg base N qual scope f cd A outer s H E).ex:=fun b z=>absurd (show b∈([]:List Addr) from z) (by simp)
 refine ⟨⟨e0.mod,S.kind,rfl,rfl,Nat.le_refl _,fun y z c h1 h2=>?_,fun y hy=>?_,fun y c _ h=>?_,fun _=>hd,Around.frames_deeper e0.frames,.inr ⟨rfl,rfl⟩,fun b z=>absurd z (noA b),e0.bs,e0.bsz,fun b _ _=>noA b,fun b z=>absurd z (noA b),e0.funs,e0.frf⟩,
  rfl,e0.bare,Un.kept hk,⟨_,x.toInCall.ns,fun i y v h1 h2 h3=>?_⟩,fun y c h=>⟨_,x.cell y c h⟩,e0.hok.fresh (Nat.le_refl _),fun y c h=>?_,fun p hp=>absurd (show p∈([]:List (Addr×Obj)) from hp) (by simp),e0.hok.kept hk,?_⟩
 ·exact name_of_addr x.apart (PySem.mem_of_lookup h1) (PySem.mem_of_lookup h2)
 ·have hy:scope.names.lookup y=some .cell\/scope.names.lookup y=some .free:=hy;rcases hy with hy|hy
  ·exact Zob hy
  ·exact absurd rfl (S.nofree _ (PySem.mem_of_lookup hy))
 ·exact Nat.le_of_lt (x.above y c (PySem.mem_of_lookup h))
 ·have hi:i<vs.length:=by
   unfold start at h2
   by_cases hi:i<vs.length
   ·exact hi
   ·rw [List.getElem?_append_right (by simpa using hi)] at h2;rw [List.getElem?_replicate] at h2;split at h2 <;>cases h2
  have ha:vs[i]? =some v:=by
   unfold start at h2;rw [List.getElem?_append_left (by simpa using hi),List.getElem?_map] at h2;cases e:vs[i]? with
   | none=>rw [e] at h2;cases h2
   | some a=>rw [e] at h2;cases h2;rfl
  obtain ⟨u,hu,rv⟩:=r.get ha;have hp:ps[i]? =some y:=by
   rw [<-S.pre,List.getElem?_take_of_lt (by lia)];exact h1
  have ndP:ps.Nodup:=by rw [<-S.pre];exact S.nd.sublist (List.take_sublist _ _)
  refine ⟨u,rv,?_⟩;rcases S.par y (List.mem_of_getElem? hp) with k|k
  ·exact .inl ⟨k,Zkz ndP hp hu k⟩
  ·obtain ⟨c,e⟩:=Zob (n:=s.heap.objs.size+1) k;refine .inr ⟨.inl k,c,e,?_⟩;have q:=x.cell y c e;rw [Zle ndP hp hu (by show scope.names.lookup y≠_;rw [k];decide)] at q;exact q
 ·exact e0.hok.fresh (Nat.le_of_lt (x.above y c (PySem.mem_of_lookup h)))
 ·unfold start;show _=N.length;rw [List.length_append,List.length_map,List.length_replicate];lia
theorem Zqc{CX:CXT}{P:Program}{w:World}{K:Frag}{mg:Str->Option Value}{base:Heap}{k:Nat}{f:Addr}{name qual:Str}{params:Arguments}{body:List Stmt}{scope:Scope}{dV kV m9 pm a9 ct oc:Value}{an od:Option Addr}
  {D3:Array (Option Value)} {N ps:List Str} {sp:Sp} (lk:K.lookup f=some ⟨oc,od,.func (fnOf name qual params body scope dV kV m9 pm an a9 ct),D3⟩) (A9:codeIn K a9 qual=true) (S:Zk N ps scope)
  (len:∀vs H Q E,sp vs H Q E->vs.length=ps.length)
  (m5:∀(A:Around) (outer:List Env) (s:Shared) (H:Hp) (vs:List V) (Q:VK) (E:XK),Xj k (A.deeper (envOfC qual scope s.heap.objs.size f a9))->sp vs H Q E ->
   ∃t,PSs (Zd0 CX P w K mg base N qual scope f a9 A outer s H E) body t/\t { nx:=fun _ H'=>Q .non H',rt:=Q } (start N vs) H) :
  Zw P w K mg base CX (k+1) f (fnOf name qual params body scope dV kV m9 pm an a9 ct) ps sp:=by
 refine ⟨len,fun A outer s H args us vs Q E hr e0 hb r P3=>?_⟩;have hl:=len _ _ _ _ P3;have KX:K.In s.heap:=e0.mod.kin.keeps fun b o e=>(e0.bs b o e).1
 have lim:s.heap.NoLimit:=e0.mod.nolimit.keeps fun b o e=>(e0.bs b o e).1
 have hkind:∀y∈ps.zip us,scope.names.lookup y.1=some .local\/(scope.names.lookup y.1=some .cell/\((cellsFrom (s.heap.objs.size+1) scope.names []).lookup y.1).isSome=true):=fun ⟨n,v⟩ hy=>by
  rcases S.par n (List.of_mem_zip hy).1 with q|q
  ·exact .inl q
  ·exact .inr ⟨q,PySem.W.cellsFrom_some _ _ _ (.inl q)⟩
 refine codeAny_call_function hr.depth (KX _ _ lk) rfl S.co S.gen rfl (PySem.W.codeRec_of KX A9) (hb _ _ _ _ ?_);refine wpAny_newFunctionEnv_cells S.kind hkind fun env he s1 x=>?_
 subst he;refine ⟨lim.keeps x.toInCall.keep,codeAny_func ?_⟩;obtain ⟨t,ht,hq⟩:=m5 A outer s H vs Q E (hr.deeper _) P3;have I:Inv (Zd0 CX P w K mg base N qual scope f a9 A outer s H E) [] (start N vs) H s1:=Zqv S hr.hd e0 hl r x;refine wpAny_mono (ht [] s1 (start N vs) H _ I hq) (fun fl s' hs=>?_) fun e s' hs=>hs
 have C2:∀{σ':St} {H':Hp} {v:V} {u:Value},Inv (Zd0 CX P w K mg base N qual scope f a9 A outer s H E) [] σ' H' s'->Ye v u->Q v H'->CE outer P w H s Q u s' :=
  fun {σ' H' v u} J rv q=>⟨v,H',J.os,J.bare,J.base,J.hok,rv,q⟩
 cases fl with
 | ret u =>
  obtain ⟨v,σ',H',J,rv,q⟩:=hs;exact C2 J rv q
 | next =>
  obtain ⟨σ',H',J,q⟩:=hs;exact C2 (v:=V.non) (u:=Value.none) J rfl q
 | brk =>
  obtain ⟨_,_,_,q⟩:=hs;exact False.elim q
 | cont =>
  obtain ⟨_,_,_,q⟩:=hs;exact False.elim q
end L2
namespace L2
open PySem PySem.Spec PyProof.Rows
section
variable {X:Cx} {x:Str} {p pos:Pos} {e:Expr} {es:List Expr} {t:TA} {id T:String} {r:List V->Hp->VK->Prop}
def tCB(r:List V->Hp->VK->Prop)(t:TA):TE:=fun σ H Q=>t σ H fun vs H1=>r vs H1 Q
theorem Zq(hc:Xe X (.builtin id) r)(hg:Gl X x)(hm:X.mg x=none)(hv:bootBuiltins x=some (.builtin id))(ha:PA X (e ::es) t) (hn:x ≠ "__name__" :=by decide) (O5:(x ==("__debug__" :Str))=false:=by decide)
  (he:starEach (e ::es) X.env=(false,eval e X.env) ::starEach es X.env:=by rfl) (i7:(backTo pos (starEach es X.env)).any (·.1)=false:=by rfl):PE X (.Call (.Name x p) (e ::es) [] pos) (tCB r t):=by
 intro a7 s σ H Q I h;refine wpAny_Call_Name_kw (Zfi I hg hm hv ?_ hn O5);exact PyProof.Rows.callWith_builtin1 (thn (ha pos a7 s σ H _ I h) fun us s1 ⟨vs,H1,I1,r1,q1⟩=>hc a7 s1 σ H1 vs us Q I1 r1 q1) he i7
theorem Xh(hc:Xe X (.type T) r)(hg:Gl X x)(hm:X.mg x=none)(hv:bootBuiltins x=some (.type T))(ha:PA X (e ::es) t) (hn:x ≠ "__name__" :=by decide) (O5:(x ==("__debug__" :Str))=false:=by decide)
  (he:starEach (e ::es) X.env=(false,eval e X.env) ::starEach es X.env:=by rfl) (i7:(backTo pos (starEach es X.env)).any (·.1)=false:=by rfl):PE X (.Call (.Name x p) (e ::es) [] pos) (tCB r t):=by
 intro a7 s σ H Q I h;refine wpAny_Call_Name_kw (Zfi I hg hm hv ?_ hn O5);exact PyProof.Rows.callWith_type1 (thn (ha pos a7 s σ H _ I h) fun us s1 ⟨vs,H1,I1,r1,q1⟩=>hc a7 s1 σ H1 vs us Q I1 r1 q1) he i7
end
end L2
namespace HT
open PySem PyProof.Rows
section
open PySem.SeqAt
open PySem.AutoSeq1 (wpAny_loadPart')
open PySem.MeetsSeq PySem.MeetsSeq2 PySem.MeetsSeq3
end
section
variable {prog:Program} {w:World} {A:Around} {E:Value->Shared->Prop} {s:Shared}
def sIx(n d:Nat):Option Int->Nat
 | none=>d
 | some v=>if v<0 then (v+(n:Int)).toNat else min v.toNat n
theorem sIx_none(n d:Nat):sIx n d none=d:=rfl
theorem sIx_nat(n d k:Nat):sIx n d (some (k:Int))=min k n:=by
 show (if (k:Int)<0 then ((k:Int)+(n:Int)).toNat else min (k:Int).toNat n)=min k n;rw [if_neg (by lia),Int.toNat_natCast]
theorem Zwu(n d:Nat)(hd:d<=n)(o:Option Int):sIx n d o<=n:=by
 cases o with
 | none=>exact hd
 | some v =>
  show (if v<0 then (v+(n:Int)).toNat else min v.toNat n)<=n
  by_cases hv:v<0
  ·rw [if_pos hv];lia
  ·rw [if_neg hv];exact Nat.min_le_right _ _
theorem Zqf(v:Int)(n d:Nat):(if v<0 then max (v+(n:Int)) 0 else min v (n:Int))=((sIx n d (some v):Nat):Int):=by
 show (if v<0 then max (v+(n:Int)) 0 else min v (n:Int))=(((if v<0 then (v+(n:Int)).toNat else min v.toNat n):Nat):Int)
 by_cases hv:v<0
 ·simp only [if_pos hv];lia
 ·simp only [if_neg hv];lia
theorem Zos(lo hi:Option Int)(n:Nat):Builtin.Slice.sliceAdjust lo hi 1 (n:Int)=(((sIx n 0 lo:Nat):Int),((sIx n n hi:Nat):Int)):=by
 have h1:¬((1:Int)<0):=by lia
 unfold Builtin.Slice.sliceAdjust;simp only [h1,if_false];refine Prod.ext ?_ ?_
 ·cases lo with
  | none=>rfl
  | some v=>exact Zqf v n 0
 ·cases hi with
  | none=>rfl
  | some v=>exact Zqf v n n
theorem Zof(i j:Nat):Builtin.Slice.slicePlaces (i:Int) (j:Int) 1=j-i:=by
 unfold Builtin.Slice.slicePlaces;have h1:(1:Int) >0:=by lia
 simp only [h1,if_true,Int.ediv_one];split <;>lia
theorem Zi7{v:Value}{o:Option Int}{Q:Option Int->Shared->Prop}(p:IsPart v o)(h:Q o s):wpAny (model prog w) A (Builtin.Slice.slicePartIndex v) Q E s:=by
 cases p with
 | none=>exact slicePart_none h
 | int i t=>exact slicePart_int h
theorem Zg8{sl:Addr}{vl vu:Value}{lo hi:Option Int}{n:Nat}{Q:Int×Int×Nat->Shared->Prop}(hs:s.heap.IsSliceOf sl vl vu .none)(pl:IsPart vl lo)(pu:IsPart vu hi)
  (h:Q (((sIx n 0 lo:Nat):Int),1,sIx n n hi-sIx n 0 lo) s):wpAny (model prog w) A (Builtin.Slice.sliceApplied (.ref sl) (pure (n:Int))) Q E s:=by
 obtain ⟨os,hos,D9,hds⟩:=id hs;unfold Builtin.Slice.sliceApplied Builtin.Slice.sliceFields;refine wpAny_bind (wpAny_bind (wpAny_field hos hds (x:=vl) rfl (wpAny_bind (wpAny_field hos hds (x:=vu) rfl (wpAny_bind (wpAny_field hos hds (x:=.none) rfl (wpAny_pure ?_)))))));refine wpAny_bind (slicePart_none ?_);show wpAny _ _ (if ((1:Int) ==0)=true then _ else _) _ _ s;rw [if_neg (by decide)];refine wpAny_bind (Zi7 pl (wpAny_bind (Zi7 pu (wpAny_bind (wpAny_pure ?_)))));show wpAny _ _ (match Builtin.Slice.sliceAdjust lo hi 1 (n:Int) with | (lo,hi)=>pure (lo,(1:Int),Builtin.Slice.slicePlaces lo hi 1)) _ _ s;rw [Zos lo hi n];show wpAny _ _ (pure (((sIx n 0 lo:Nat):Int),(1:Int),Builtin.Slice.slicePlaces ((sIx n 0 lo:Nat):Int) ((sIx n n hi:Nat):Int) 1)) _ _ s;rw [Zof];exact wpAny_pure h
theorem Zs1(xs:Array Value)(i k:Nat):((List.range k).filterMap fun (m:Nat)=>xs[((i:Int)+(m:Int) * 1).toNat]?).toArray=((xs.toList.drop i).take k).toArray:=by
 have e:(fun (m:Nat)=>xs[((i:Int)+(m:Int) * 1).toNat]?)=fun m=>xs[i+m]? :=by
  funext m
  have:((i:Int)+(m:Int) * 1).toNat=i+m:=by lia
  rw [this]
 rw [e];have:=pick_run xs i k;rw [List.filterMap_map] at this;have e2:((fun x=>xs[x]?) ∘ fun x=>i+x)=fun m=>xs[i+m]? :=rfl
 rw [e2] at this;rw [this]
theorem getItem_tuple_cut{t sl:Addr}{c6:Array Value}{vl vu:Value}{lo hi:Option Int}{Q:Value->Shared->Prop}(ht:IsTup s.heap t c6)(hs:s.heap.IsSliceOf sl vl vu .none)(pl:IsPart vl lo)(pu:IsPart vu hi)
  (hw:¬(sIx c6.size 0 lo=0/\sIx c6.size c6.size hi=c6.size))
  (h:Q (.ref s.heap.objs.size) { s with heap:=s.heap.push { cls:=.type "tuple",data:=.seq ((c6.toList.drop (sIx c6.size 0 lo)).take (sIx c6.size c6.size hi-sIx c6.size 0 lo)).toArray } })
  (hsz:c6.size<=sizeLine):wpAny (model prog w) A (getItem (.ref t) (.ref sl)) Q E s:=by
 have F9:sizeOk (.seq ((c6.toList.drop (sIx c6.size 0 lo)).take (sIx c6.size c6.size hi-sIx c6.size 0 lo)).toArray):=by
  show ((c6.toList.drop (sIx c6.size 0 lo)).take (sIx c6.size c6.size hi-sIx c6.size 0 lo)).toArray.size<=sizeLine;rw [List.size_toArray,List.length_take,List.length_drop,Array.length_toList];lia
 have hj:sIx c6.size c6.size hi<=c6.size:=Zwu _ _ (Nat.le_refl _) hi;obtain ⟨os,hos,D9,hds⟩:=id hs;have hTs:s.TypeIs (.ref sl) "slice" :=⟨os,hos,D9⟩
 unfold getItem
 try with_reducible refine wpAny_holding ?_
 first | refine wpAny_bind (wpAny_pure ?_) | skip
 refine wpAny_bind (wpAny_sequenceKey ht.typeIs (by decide) ?_);refine wpAny_bind (wpAny_callSpecial?_slot (name:=Str.ofString "__getitem__") ht.typeIs PyProof.Rows.slot_tuple_getitem
  (wpAny_call_entry PyProof.Rows.slot_tuple_getitem ht.typeIs entry_tuple_getitem ?_ (args_tuple_getitem _ _)))
 show wpAny _ _ (Builtin.Tuple.tupleItemsOf (.ref t) >>=_) _ _ s;refine wpAny_bind (tupleItemsOf_ ht ?_);refine wpAny_bind (wpAny_typeOf hTs ?_);rw [if_pos (by decide)];refine wpAny_bind (Zg8 hs pl pu ?_);have P7:¬((((sIx c6.size 0 lo:Nat):Int) ==0 && (1:Int) ==1 && (sIx c6.size c6.size hi-sIx c6.size 0 lo) ==c6.size)=true):=by
  intro q;rw [Bool.and_eq_true,Bool.and_eq_true] at q;have q1:((sIx c6.size 0 lo:Nat):Int)=0:=eq_of_beq q.1.1;have q2:sIx c6.size c6.size hi-sIx c6.size 0 lo=c6.size:=eq_of_beq q.2;exact hw ⟨by lia,by lia⟩
 show wpAny _ _ (if (((sIx c6.size 0 lo:Nat):Int) ==0 && (1:Int) ==1 && (sIx c6.size c6.size hi-sIx c6.size 0 lo) ==c6.size)=true then _ else _) _ _ s;rw [if_neg P7,Zs1]
 first
  | exact wpAny_bind (m:=Builtin.Tuple.tupleExact _) (wpAny_newObj_type (wpAny_pure ⟨_,rfl,wpAny_pure h⟩) F9)
  | exact wpAny_bind (m:=Builtin.Tuple.tupleExact _) (wpAny_newObj_type (wpAny_bind (wpAny_pure (wpAny_pure ⟨_,rfl,wpAny_pure h⟩))) F9)
  | exact wpAny_bind (wpAny_bind (m:=Builtin.Tuple.tupleExact _) (wpAny_newObj_type (wpAny_pure (wpAny_pure ⟨_,rfl,wpAny_pure h⟩)) F9))
  | exact wpAny_bind (wpAny_bind (m:=Builtin.Tuple.tupleExact _) (wpAny_newObj_type (wpAny_pure ⟨_,rfl,wpAny_pure h⟩) F9))
end
end HT
namespace L2
open PySem PySem.Spec PyProof.Rows
abbrev TO:=St->Hp->(Option Int->Hp->Prop)->Prop
def PO(X:Cx)(e:Option Expr)(t:TO):Prop :=
 ∀(a7:List (Addr×Obj)) (s:Shared) (σ:St) (H:Hp) (Q:Option Int->Hp->Prop),Inv X a7 σ H s->t σ H Q ->
  wpAny (model X.prog X.w) X.A (evalPart e X.env) (fun u s'=>∃o H',Inv X a7 σ H' s'/\IsPart u o/\Q o H') X.xe s
def Zue:TO:=fun _ H Q=>Q none H
def Zzp(t:TE):TO:=fun σ H Q=>t σ H fun x H1=>∃i,x=.int i/\Q (some i) H1
section
variable {X:Cx} {e:Expr} {te:TE} {lo hi:Option Expr} {tl th:TO} {pos p2:Pos}
theorem Zes:PO X none Zue:=by
 intro a7 s σ H Q I h;rw [evalPart_none];exact wpAny_pure ⟨none,H,I,.none,h⟩
theorem Zdg(h:PE X e te):PO X (some e) (Zzp te):=by
 intro a7 s σ H Q I hw;rw [evalPart_some];refine thn (h a7 s σ H _ I hw) fun u s1 ⟨x,H1,I1,r1,q1⟩=>?_
 obtain ⟨i,rfl,q⟩:=q1;obtain ⟨t,rfl⟩:=r1;exact ⟨some i,H1,I1,.int i t,q⟩
def SlR(X:Cx)(r:V->Option Int->Option Int->Hp->VK->Prop):Prop :=
 ∀(a7:List (Addr×Obj)) (s:Shared) (σ:St) (H:Hp) (x:V) (v vl vu:Value) (lo hi:Option Int) (sl:Addr) (Q:VK),Inv X a7 σ H s->Ye x v->s.heap.IsSliceOf sl vl vu .none->IsPart vl lo->IsPart vu hi->r x lo hi H Q ->
  ∃T id,typeLookup (.type T) "__getitem__" =pure (some (.builtin id))/\s.TypeIs v T/\wpAny (model X.prog X.w) X.A (getItem v (.ref sl)) (EP X a7 σ Q) X.xe s
theorem SlR.or{r r':V->Option Int->Option Int->Hp->VK->Prop}(h:SlR X r)(h':SlR X r'):SlR X (fun x lo hi H Q=>r x lo hi H Q\/r' x lo hi H Q):=by
 intro a7 s σ H x v vl vu lo hi sl Q I rx hs pl pu q;rcases q with q|q
 ·exact h a7 s σ H x v vl vu lo hi sl Q I rx hs pl pu q
 ·exact h' a7 s σ H x v vl vu lo hi sl Q I rx hs pl pu q
def tSl(r:V->Option Int->Option Int->Hp->VK->Prop)(te:TE)(tl th:TO):TE:=fun σ H Q=>te σ H fun x H1=>tl σ H1 fun l H2=>th σ H2 fun u H3=>r x l u H3 Q
theorem Zcv{r:V->Option Int->Option Int->Hp->VK->Prop}(hr:SlR X r)(he:PE X e te)(hl:PO X lo tl)(hu:PO X hi th):PE X (.Subscript e (.Slice lo hi none p2) pos) (tSl r te tl th):=by
 intro a7 s σ H Q I h;refine Subscript_ (thn (he a7 s σ H _ I h) fun v s1 ⟨x,H1,I1,r1,q1⟩=>?_);refine wpAny_Slice (thn (hl a7 s1 σ H1 _ I1 q1) fun vl s2 ⟨l,H2,I2,pl,q2⟩=>thn (hu a7 s2 σ H2 _ I2 q2) fun vu s3 ⟨u,H3,I3,pu,q3⟩=>?_);rw [evalPart_none];refine wpAny_pure ?_;have I4:Inv X a7 σ H3 { s3 with heap:=s3.heap.push { cls:=.type "slice",data:=.fields #[vl,vu,.none] } }:=I3.kept (t':=s3.toks) fun b ob q=>Heap.get?_push_of_some _ q
 obtain ⟨T,id,hT,ht,hg⟩:=hr a7 { s3 with heap:=s3.heap.push { cls:=.type "slice",data:=.fields #[vl,vu,.none] } } σ H3 x v vl vu l u s3.heap.objs.size Q I4 r1 (Heap.IsSliceOf.new ..) pl pu q3;show wpAny (model X.prog X.w) X.A (subscriptTail e (.Slice lo hi none p2) v (.ref s3.heap.objs.size)) (EP X a7 σ Q) X.xe { s3 with heap:=s3.heap.push { cls:=.type "slice",data:=.fields #[vl,vu,.none] } };exact tail_any (ops:=[.ref s3.heap.objs.size,v]) ht hT hg (by with_unfolding_all rfl)
def Zib(xs:List V)(lo hi:Option Int):List V:=(xs.drop (HT.sIx xs.length 0 lo)).take (HT.sIx xs.length xs.length hi-HT.sIx xs.length 0 lo)
theorem Zhq(xs:List V)(lo hi:Option Int):(Zib xs lo hi).length<=xs.length:=by
 unfold Zib;rw [List.length_take,List.length_drop];lia
def Yak(K:Frag):V->Option Int->Option Int->Hp->VK->Prop:=fun x lo hi H Q=>∃a xs,x=.ref a/\SqT K H a xs /\
 ¬(HT.sIx xs.length 0 lo=0/\HT.sIx xs.length xs.length hi=xs.length)/\∀p,H p=none->Q (.ref p) (upd H p (.tup (Zib xs lo hi)))
theorem Zwf:SlR X (Yak X.K):=by
 intro a7 s σ H x v vl vu lo hi sl Q I rx hs pl pu h;obtain ⟨a,xs,rfl,hx,hw,q⟩:=h;cases rx;obtain ⟨a8,r,ht,hz⟩:=I.tuple hx;have g8:a8.toArray.size=xs.length:=by rw [List.size_toArray];exact r.length.symm
 refine ⟨"tuple",_,PyProof.Rows.slot_tuple_getitem.lookup,ht.typeIs,?_⟩;refine HT.getItem_tuple_cut ht hs pl pu (by rw [g8];exact hw) ?_ (by rw [g8];exact hz);rw [g8];refine ⟨.ref s.heap.objs.size,_,I.laid (t':=s.toks) (o:=.tup (Zib xs lo hi)) (fun b ob q=>Heap.get?_push_of_some _ q) (Nat.le_refl _) ?_,rfl,q _ (I.hok.fresh (Nat.le_refl _))⟩;exact ⟨Nat.le_trans (Zhq xs lo hi) hz,_,(r.drop (HT.sIx xs.length 0 lo)).take (HT.sIx xs.length xs.length hi-HT.sIx xs.length 0 lo),IsTup.new _ _⟩
end
end L2
namespace L2
open PySem PySem.Spec PyProof.Rows
def ixN(n:Nat)(i:Int):Option Nat:=if 0<=i then (if i<n then some i.toNat else none) else if -(n:Int)<=i then some (i+n).toNat else none
def atI{α:Type}(xs:List α)(i:Int):Option α:=(ixN xs.length i).bind fun j=>xs[j]?
theorem Zvu{n:Nat}{i:Int}{j:Nat}(h:ixN n i=some j):seqIndex? i n=some j/\j<n/\-(n:Int)<=i/\i<n:=by
 unfold ixN at h
 by_cases h0:0<=i
 ·rw [if_pos h0] at h
  by_cases h1:i<n
  ·rw [if_pos h1] at h;have e:i.toNat=j:=Option.some.inj h;exact ⟨by rw [seqIndex_of h0 h1,e],by lia,by lia,h1⟩
  ·rw [if_neg h1] at h;cases h
 ·rw [if_neg h0] at h
  by_cases h1:-(n:Int)<=i
  ·rw [if_pos h1] at h;have e:(i+n).toNat=j:=Option.some.inj h;exact ⟨by rw [seqIndex_neg (by lia) h1,e],by lia,h1,by lia⟩
  ·rw [if_neg h1] at h;cases h
theorem Zlu{α:Type}{xs:List α}{i:Int}{v:α}(h:atI xs i=some v):∃j,seqIndex? i xs.length=some j/\xs[j]? =some v/\j<xs.length/\-(xs.length:Int)<=i/\i<xs.length:=by
 unfold atI at h;cases e:ixN xs.length i with
 | none=>rw [e] at h;cases h
 | some j =>
  rw [e] at h;obtain ⟨h1,h2,h3,h4⟩:=Zvu e;exact ⟨j,h1,h,h2,h3,h4⟩
theorem Y1{α:Type}{xs:List α}{j:Nat}{v:α}(h:xs[j]? =some v):atI xs (j:Int)=some v:=by
 have hj:j<xs.length:=(List.getElem?_eq_some_iff.mp h).1;have e:ixN xs.length (j:Int)=some j:=by
  unfold ixN;rw [if_pos (by lia),if_pos (by lia)];simp
 unfold atI;rw [e];exact h
theorem Zr1{α:Type}(xs:List α)(v:α):atI (xs++[v]) (-1)=some v:=by
 have hl:(xs++[v]).length=xs.length+1:=by simp
 have e:ixN (xs++[v]).length (-1)=some xs.length:=by
  unfold ixN;rw [hl,if_neg (by decide),if_pos (by lia)];congr 1;lia
 unfold atI;rw [e];show (xs++[v])[xs.length]? =some v;simp
def Zqd(b:Expr):Prop:=∀o i,subscripted b false o i=operate [o,i] (getItem o i)
def IxR(X:Cx)(r:R2):Prop :=
 ∀(value slice:Expr) (a7:List (Addr×Obj)) (s:Shared) (σ:St) (H:Hp) (x y:V) (v u:Value) (Q:VK),Inv X a7 σ H s->Ye x v->Ye y u->r x y H Q ->
  subscripted slice false v u=operate [v,u] (getItem v u)->wpAny (model X.prog X.w) X.A (subscriptTail value slice v u) (EP X a7 σ Q) X.xe s
def MtR(X:Cx)(id:String)(r:V->List V->Hp->VK->Prop):Prop :=
 ∀(a7:List (Addr×Obj)) (s:Shared) (σ:St) (H:Hp) (x:V) (xs:List V) (v:Value) (us:List Value) (Q:VK),Inv X a7 σ H s->Ye x v->Z5 xs us->r x xs H Q ->
  wpAny (model X.prog X.w) X.A (call (.builtin id) (v ::us)) (EP X a7 σ Q) X.xe s
section
variable {X:Cx} {a b:Expr} {ta tb:TE} {pos:Pos}
theorem IxR.or{r r':R2}(h:IxR X r)(h':IxR X r'):IxR X (fun x y H Q=>r x y H Q\/r' x y H Q):=by
 intro value slice a7 s σ H x y v u Q I rx ry q hs;rcases q with q|q
 ·exact h value slice a7 s σ H x y v u Q I rx ry q hs
 ·exact h' value slice a7 s σ H x y v u Q I rx ry q hs
theorem Zy8{r:R2}(hr:IxR X r)(ha:PE X a ta)(hb:PE X b tb)(hs:Zqd b):PE X (.Subscript a b pos) (tOp r ta tb):=by
 intro a7 s σ H Q I h;exact Subscript_ (Zxa ha hb I h fun v u s2 x y H2 I2 rx ry q=>hr a b a7 s2 σ H2 x y v u Q I2 rx ry q (hs _ _))
def Zzr(K:Frag):R2:=fun x y H Q=>∃p xs i v,x=.ref p/\y=.int i/\SqL K H p xs/\atI xs i=some v/\Q v H
def Zzl(K:Frag):R2:=fun x y H Q=>∃p xs i v,x=.ref p/\y=.int i/\SqT K H p xs/\atI xs i=some v/\Q v H
def Zzf:R2:=fun x y H Q=>∃z i c,x=.str z/\y=.int i/\z.length<=sizeLine/\atI z.cps.toList i=some c/\Q (.str ⟨#[c]⟩) H
theorem Zvf:IxR X (Zzr X.K):=by
 intro value slice a7 s σ H x y v u Q I rx ry h hs;obtain ⟨p,xs,i,z,rfl,rfl,hq,he,q⟩:=h;cases rx;obtain ⟨t,rfl⟩:=ry;obtain ⟨a8,r,pl,hz⟩:=I.list hq;obtain ⟨j,h1,h2,h3,h4,h5⟩:=Zlu he;obtain ⟨w,ew,A8⟩:=r.get h2;have hl:=r.length;have hn:=Zi9;have C2:EP X a7 σ Q w s:=⟨z,H,I,A8,q⟩
 by_cases h0:0<=i
 ·have hj:i.toNat=j:=by
   rw [seqIndex_of h0 h5] at h1;exact Option.some.inj h1
  exact item_listR pl.isList h0 (by lia) (by rw [hj];simpa using ew) C2 hs
 ·have hj:(i+(a8.toArray.size:Int)).toNat=j:=by
   rw [seqIndex_neg (by lia) h4] at h1;rw [List.size_toArray,<-hl];exact Option.some.inj h1
  exact subscriptTail_builtinR (x:=w) pl.isList.typeIs slot_list_getitem.lookup
   (wpAny_getItem_list_neg (Q:=fun r s'=>r=w/\EP X a7 σ Q r s') pl.isList (by lia) (by rw [List.size_toArray] <;>lia) (by lia) (by rw [hj];simpa using ew) ⟨rfl,C2⟩) hs
theorem Zwn:IxR X (Zzl X.K):=by
 intro value slice a7 s σ H x y v u Q I rx ry h hs;obtain ⟨p,xs,i,z,rfl,rfl,hq,he,q⟩:=h;cases rx;obtain ⟨t,rfl⟩:=ry;obtain ⟨a8,r,pl,hz⟩:=I.tuple hq;obtain ⟨j,h1,h2,h3,h4,h5⟩:=Zlu he;obtain ⟨w,ew,A8⟩:=r.get h2;have hl:=r.length;have hn:=Zi9;have C2:EP X a7 σ Q w s:=⟨z,H,I,A8,q⟩
 exact subscriptTail_builtinR (x:=w) pl.typeIs slot_tuple_getitem.lookup
  (getItem_tuple (j:=j) (Q:=fun r s'=>r=w/\EP X a7 σ Q r s') pl (by lia) (by lia) (by rw [List.size_toArray,<-hl];exact h1) (by simpa using ew) ⟨rfl,C2⟩) hs
theorem Zw4:IxR X Zzf:=by
 intro value slice a7 s σ H x y v u Q I rx ry h hs;obtain ⟨z,i,c,rfl,rfl,hz,he,q⟩:=h;obtain ⟨t,rfl⟩:=rx;obtain ⟨t',rfl⟩:=ry;obtain ⟨j,h1,h2,h3,h4,h5⟩:=Zlu he;have hl:z.cps.toList.length=z.length:=by simp [Str.length]
 rw [hl] at h1 h4 h5;have hn:=Zi9;exact tail_any (typeIs_str s z t) slot_str_getitem.lookup (getItem_str (c:=c) (by
  have e1:decide (i < -(2 ^ 63:Int))=false:=decide_eq_false (by lia);have e2:decide (i ≥ 2 ^ 63)=false:=decide_eq_false (by lia);rw [e1,e2,Bool.or_false]) (by rw [h1];simpa using h2) ⟨.str ⟨#[c]⟩,H,I.tok _,⟨_,rfl⟩,q⟩) hs
def rIx(K:Frag):R2:=fun x y H Q=>Zzr K x y H Q\/Zzl K x y H Q\/Zzf x y H Q
theorem Zxg:IxR X (rIx X.K):=Zvf.or (Zwn.or Zw4)
theorem Zlw(lo hi:Option Int)(n:Nat):(sliceBounds lo hi none n).1=((HT.sIx n 0 lo:Nat):Int)/\(sliceBounds lo hi none n).2.1=((HT.sIx n n hi:Nat):Int)/\(sliceBounds lo hi none n).2.2=1:=by
 refine ⟨?_,?_,rfl⟩
 ·cases lo with
  | none=>simp [sliceBounds,HT.sIx]
  | some i =>
   simp only [sliceBounds,HT.sIx,Option.getD_none,show (1:Int) >0 by decide,if_true]
   by_cases h:i<0
   ·simp only [h,if_true] <;>lia
   ·simp only [h,if_false] <;>lia
 ·cases hi with
  | none=>simp [sliceBounds,HT.sIx]
  | some i =>
   simp only [sliceBounds,HT.sIx,Option.getD_none,show (1:Int) >0 by decide,if_true]
   by_cases h:i<0
   ·simp only [h,if_true] <;>lia
   ·simp only [h,if_false] <;>lia
theorem Zkk(a8:List Value)(lo hi:Option Int):slicePick a8.toArray lo hi none=((a8.drop (HT.sIx a8.length 0 lo)).take (HT.sIx a8.length a8.length hi-HT.sIx a8.length 0 lo)).toArray:=by
 obtain ⟨h1,h2,h3⟩:=Zlw lo hi a8.toArray.size;unfold slicePick;rw [h1,h2,h3];simp only [sliceRange_one,pick_run,List.size_toArray] <;>rfl
def Yae(K:Frag):V->Option Int->Option Int->Hp->VK->Prop:=fun x lo hi H Q=>∃a xs,x=.ref a/\SqL K H a xs/\∀p,H p=none->Q (.ref p) (upd H p (.lst (Zib xs lo hi)))
theorem Zuc:SlR X (Yae X.K):=by
 intro a7 s σ H x v vl vu lo hi sl Q I rx hs pl pu h;obtain ⟨a,xs,rfl,hx,q⟩:=h;cases rx;obtain ⟨a8,r,ht,hz⟩:=I.list hx;have g8:=r.length;refine ⟨"list",_,slot_list_getitem.lookup,ht.isList.typeIs,?_⟩;refine wpAny_getItem_list_slice ht.isList hs pl pu .none (by simp) ?_ (by rw [List.size_toArray] <;>lia);rw [Zkk,<-g8];refine ⟨.ref s.heap.objs.size,_,I.laid (t':=s.toks) (o:=.lst (Zib xs lo hi)) (fun b ob q=>Heap.get?_push_of_some _ q) (Nat.le_refl _) ?_,rfl,q _ (I.hok.fresh (Nat.le_refl _))⟩;exact ⟨Nat.le_trans (Zhq xs lo hi) hz,_,0,(r.drop (HT.sIx xs.length 0 lo)).take (HT.sIx xs.length xs.length hi-HT.sIx xs.length 0 lo),Heap.get?_push_size _ rfl⟩
def W4:V->Bool
 | .non=>true
 | .bl _=>true
 | .int _=>true
 | .str _=>true
 | _=>false
def eqV:V->V->Bool
 | .non,.non=>true
 | .bl a,.bl b=>a ==b
 | .bl a,.int b=>(if a then 1 else 0) ==b
 | .int a,.bl b=>a ==(if b then 1 else 0)
 | .int a,.int b=>a ==b
 | .str a,.str b=>a ==b
 | _,_=>false
theorem Zjx{A:Around}{s:Shared}{y x:V}{u v:Value}(ry:Ye y u)(rx:Ye x v)(fy:W4 y=true)(fx:W4 x=true):SeqAt.EqAt A s u v (eqV y x):=by
 cases y with
 | non =>
  cases ry;cases x with
  | non=>cases rx;exact SeqAt.EqAt.same _
  | bl b=>cases rx;exact SeqAt.EqAt.none_bool b
  | int b=>obtain ⟨t,rfl⟩:=rx;exact SeqAt.EqAt.none_int b t
  | str b=>obtain ⟨t,rfl⟩:=rx;exact SeqAt.EqAt.none_str b t
  | _=>exact absurd (show false=true from fx) Bool.false_ne_true
 | bl a =>
  cases ry;cases x with
  | non=>cases rx;exact SeqAt.EqAt.bool_none a
  | bl b=>cases rx;exact SeqAt.EqAt.bool_bool a b
  | int b=>obtain ⟨t,rfl⟩:=rx;exact SeqAt.EqAt.bool_int a b t
  | str b=>obtain ⟨t,rfl⟩:=rx;exact SeqAt.EqAt.bool_str a b t
  | _=>exact absurd (show false=true from fx) Bool.false_ne_true
 | int a =>
  obtain ⟨t',rfl⟩:=ry;cases x with
  | non=>cases rx;exact SeqAt.EqAt.int_none a t'
  | bl b=>cases rx;exact SeqAt.EqAt.int_bool a t' b
  | int b=>obtain ⟨t,rfl⟩:=rx;exact SeqAt.EqAt.int_int a t' b t
  | str b=>obtain ⟨t,rfl⟩:=rx;exact SeqAt.EqAt.int_str a t' b t
  | _=>exact absurd (show false=true from fx) Bool.false_ne_true
 | str a =>
  obtain ⟨t',rfl⟩:=ry;cases x with
  | non=>cases rx;exact SeqAt.EqAt.str_none a t'
  | bl b=>cases rx;exact SeqAt.EqAt.str_bool a t' b
  | int b=>obtain ⟨t,rfl⟩:=rx;exact SeqAt.EqAt.str_int a t' b t
  | str b=>obtain ⟨t,rfl⟩:=rx;exact SeqAt.EqAt.str_str a t' b t
  | _=>exact absurd (show false=true from fx) Bool.false_ne_true
 | _=>exact absurd (show false=true from fy) Bool.false_ne_true
def eqU(x:V)(u:Value):Bool:=match u with
 | .none=>eqV .non x
 | .bool b=>eqV (.bl b) x
 | .int i _=>eqV (.int i) x
 | .str z _=>eqV (.str z) x
 | _=>false
theorem Zsg{x y:V}{u:Value}(r:Ye y u)(f:W4 y=true):eqU x u=eqV y x:=by
 cases y with
 | non=>cases r;rfl
 | bl b=>cases r;rfl
 | int i=>obtain ⟨t,rfl⟩:=r;rfl
 | str z=>obtain ⟨t,rfl⟩:=r;rfl
 | _=>exact absurd (show false=true from f) Bool.false_ne_true
theorem Zf3{x:V}:∀{xs:List V} {us:List Value},Z5 xs us->xs.all W4=true->us.any (eqU x)=xs.any fun y=>eqV y x
 | _,_,.nil,_=>rfl
 | y ::xs,u ::us,.cons r t,f=>by
  rw [List.all_cons,Bool.and_eq_true] at f;rw [List.any_cons,List.any_cons,Zsg r f.1,Zf3 t f.2]
theorem Zef{A:Around}{s:Shared}{x:V}{v:Value}(rx:Ye x v)(fx:W4 x=true):∀{xs:List V} {us:List Value},Z5 xs us->xs.all W4=true->∀u∈us,SeqAt.EqAt A s u v (eqU x u)
 | _,_,.nil,_=>fun u hu=>by cases hu
 | y ::xs,u ::us,.cons r t,f=>fun u' hu=>by
  rw [List.all_cons,Bool.and_eq_true] at f;rcases List.mem_cons.mp hu with rfl|hu
  ·rw [Zsg r f.1];exact Zjx r rx f.1 fx
  ·exact Zef rx fx t f.2 u' hu
def inV(x:V)(xs:List V):Bool:=xs.any fun y=>eqV y x
def rIn(K:Frag)(neg:Bool):R2:=fun x y H Q=>∃p xs,y=.ref p/\(SqL K H p xs\/SqT K H p xs)/\W4 x=true/\xs.all W4=true/\Q (.bl (if neg then !inV x xs else inV x xs)) H
theorem Zqy:OpR X (compareOp .In) (rIn X.K false):=by
 intro a7 s σ H x y v u Q I rx ry h;obtain ⟨p,xs,rfl,hq,fx,fs,q⟩:=h;cases ry;rcases hq with hq|hq
 ·obtain ⟨a8,r,pl,hz⟩:=I.list hq;refine SeqAt.in_listAt (eqU x) pl.isList (fun w hw=>Zef rx fx r fs w (by simpa using hw)) ⟨.bl _,H,I,rfl,?_⟩;rw [show a8.toArray.any (eqU x)=a8.any (eqU x) by simp,Zf3 r fs];exact q
 ·obtain ⟨a8,r,pl,hz⟩:=I.tuple hq;refine SeqAt.in_tupleAt (eqU x) pl (fun w hw=>Zef rx fx r fs w (by simpa using hw)) ⟨.bl _,H,I,rfl,?_⟩;rw [show a8.toArray.any (eqU x)=a8.any (eqU x) by simp,Zf3 r fs];exact q
theorem Zl5:OpR X (compareOp .NotIn) (rIn X.K true):=by
 intro a7 s σ H x y v u Q I rx ry h;obtain ⟨p,xs,rfl,hq,fx,fs,q⟩:=h;cases ry;rcases hq with hq|hq
 ·obtain ⟨a8,r,pl,hz⟩:=I.list hq;refine SeqAt.notIn_listAt (eqU x) pl.isList (fun w hw=>Zef rx fx r fs w (by simpa using hw)) ⟨.bl _,H,I,rfl,?_⟩;rw [show a8.toArray.any (eqU x)=a8.any (eqU x) by simp,Zf3 r fs];exact q
 ·obtain ⟨a8,r,pl,hz⟩:=I.tuple hq;refine SeqAt.notIn_tupleAt (eqU x) pl (fun w hw=>Zef rx fx r fs w (by simpa using hw)) ⟨.bl _,H,I,rfl,?_⟩;rw [show a8.toArray.any (eqU x)=a8.any (eqU x) by simp,Zf3 r fs];exact q
theorem Zmr:Xe X (.builtin "len") (fun xs H Q=>∃p ys,xs=[.ref p]/\(SqL X.K H p ys\/SqT X.K H p ys)/\Q (.int ys.length) H):=by
 intro a7 s σ H xs us Q I r h;obtain ⟨p,ys,rfl,hq,q⟩:=h;obtain ⟨u,rfl,rx⟩:=Za0 r;cases rx;have hn:=Zi9;rcases hq with hq|hq
 ·obtain ⟨a8,r',pl,hz⟩:=I.list hq;have g8:=r'.length;exact Calls.call_len_list pl.isList (by simp only [List.size_toArray] <;>lia) ⟨.int ys.length,H,I.tok _,⟨s.toks+1,by rw [List.size_toArray,g8]⟩,q⟩
 ·obtain ⟨a8,r',pl,hz⟩:=I.tuple hq;have g8:=r'.length;exact len_tuple pl (by simp only [List.size_toArray] <;>lia) ⟨.int ys.length,H,I.tok _,⟨s.toks+1,by rw [List.size_toArray,g8]⟩,q⟩
theorem Zmp:Xe X (.builtin "len") (fun xs H Q=>∃z,xs=[.str z]/\z.length<=sizeLine/\Q (.int z.length) H):=by
 intro a7 s σ H xs us Q I r h;obtain ⟨z,rfl,hz,q⟩:=h;obtain ⟨u,rfl,t,rfl⟩:=Za0 r;have hn:=Zi9;exact len_str (by lia) ⟨.int z.length,H,I.tok _,⟨_,rfl⟩,q⟩
theorem Xe.or{f:Value}{r r':List V->Hp->VK->Prop}(h:Xe X f r)(h':Xe X f r'):Xe X f (fun xs H Q=>r xs H Q\/r' xs H Q):=by
 intro a7 s σ H xs us Q I rs q;rcases q with q|q
 ·exact h a7 s σ H xs us Q I rs q
 ·exact h' a7 s σ H xs us Q I rs q
theorem Zmv:Xe X (.type "list") (fun xs H Q=>∃p ys,xs=[.ref p]/\(SqL X.K H p ys\/SqT X.K H p ys)/\∀l,H l=none->Q (.ref l) (upd H l (.lst ys))):=by
 intro a7 s σ H xs us Q I r h;obtain ⟨p,ys,rfl,hq,q⟩:=h;obtain ⟨u,rfl,rx⟩:=Za0 r;cases rx;have C2:∀(a8:List Value),Z5 ys a8->ys.length<=sizeLine->∀(h':Heap) (c':Nat),(∀b o',s.heap.get? b=some o'->h'.get? b=some o') ->
   h'.get? s.heap.objs.size=some { cls:=.type "list",dict:=none,data:=.seq a8.toArray c',slots:=#[] }->EP X a7 σ Q (.ref s.heap.objs.size) { s with heap:=h' }:=fun a8 r' hz h' c' kp e =>
  ⟨.ref s.heap.objs.size,_,I.laid (t':=s.toks) kp (Nat.le_refl _) (show Yf X.prog X.w _ h' _ (.lst ys) from ⟨hz,a8,c',r',e⟩),rfl,q _ (I.hok.fresh (Nat.le_refl _))⟩
 rcases hq with hq|hq
 ·obtain ⟨a8,r',pl,hz⟩:=I.list hq;have g8:=r'.length;obtain ⟨o,ho,hc,n,hd⟩:=pl.isList;exact call_list_seq p (.inl rfl) ho hc hd (fun h' c' kp e=>C2 a8 r' hz h' c' kp e) (by simp only [List.size_toArray] <;>lia)
 ·obtain ⟨a8,r',pl,hz⟩:=I.tuple hq;have g8:=r'.length;obtain ⟨o,ho,hc,n,hd⟩:=pl;exact call_list_seq p (.inr rfl) ho hc hd (fun h' c' kp e=>C2 a8 r' hz h' c' kp e) (by simp only [List.size_toArray] <;>lia)
def tyV(K:Frag)(T:String)(x:V)(H:Hp):Prop:=match x with
 | .str _=>T = "str"
 | .int _=>T = "int"
 | .ref p=>(T = "list" /\∃xs,SqL K H p xs)\/(T = "tuple" /\∃o,K.lookup p=some o/\o.cls=.type "tuple" /\o.dict=none) \/
   (T = "dict" /\((∃kvs,H p=some (.dK kvs))\/∃kvs,H p=some (.dT kvs)))\/(T = "set" /\∃S n,H p=some (.set S n))
 | _=>False
theorem Zxc{a7:List (Addr×Obj)}{σ:St}{H:Hp}{s:Shared}{T:String}{x:V}{v:Value}(I:Inv X a7 σ H s)(r:Ye x v)(ty:tyV X.K T x H) :
  s.TypeIs v T/\∀a,v=.ref a->∃ob,s.heap.get? a=some ob/\ob.dict=none:=by
 cases x with
 | str z =>
  obtain ⟨t,rfl⟩:=r;cases (show T = "str" from ty);exact ⟨typeIs_str s z t,fun _ e=>nomatch e⟩
 | int i =>
  obtain ⟨t,rfl⟩:=r;cases (show T = "int" from ty);exact ⟨typeIs_int s i t,fun _ e=>nomatch e⟩
 | ref p =>
  cases r;rcases ty with ⟨rfl,xs,hq⟩|⟨rfl,o,hk,hc,hd⟩|⟨rfl,hk⟩|⟨rfl,S,n,hk⟩
  ·obtain ⟨a8,_,pl,_⟩:=I.list hq;refine ⟨pl.isList.typeIs,fun a e=>?_⟩;cases e;obtain ⟨o,n,e,c,hd,_⟩:=pl;exact ⟨o,e,hd⟩
  ·refine ⟨⟨o,I.kIn p o hk,hc⟩,fun a e=>?_⟩;cases e;exact ⟨o,I.kIn _ o hk,hd⟩
  ·have z:∃o,s.heap.get? p=some o/\o.ExactDict:=by
    rcases hk with ⟨kvs,hk⟩|⟨kvs,hk⟩
    ·obtain ⟨_,_,_,_,o,_,_,e,ex,_⟩:=I.hok p _ hk;exact ⟨o,e,ex⟩
    ·obtain ⟨_,_,_,_,o,_,_,e,ex,_⟩:=I.hok p _ hk;exact ⟨o,e,ex⟩
   obtain ⟨o,e,ex⟩:=z;refine ⟨⟨o,e,ex.1⟩,fun a e2=>?_⟩;cases e2;exact ⟨o,e,ex.2.1⟩
  ·obtain ⟨o,_,_,_,e,ex,_⟩:=I.hok p _ hk;refine ⟨⟨o,e,ex.1⟩,fun a e2=>?_⟩;cases e2;exact ⟨o,e,ex.2.1⟩
 | _=>exact False.elim ty
def tBM(K:Frag)(T:String)(r:V->List V->Hp->VK->Prop)(to:TE)(t:TA):TE:=fun σ H Q=>to σ H fun x H1=>tyV K T x H1/\t σ H1 fun xs H2=>r x xs H2 Q
variable {o e:Expr} {es:List Expr} {to:TE} {t:TA} {name:Str} {i5 g9:Pos} {T id:String} {r:V->List V->Hp->VK->Prop}
theorem Zcm(pa:PlainAttrs T)(slot:Slot T name id) (hty:typeOf (.builtin id)=pure (.type "method_descriptor")) (hm:MtR X id r) (ho:PE X o to) (ha:PA X (e ::es) t)
  (z9:attributeBase o name X.env (eval o X.env)=eval o X.env:=by rfl)
  (hfew:((backTo g9 (starEach (e ::es) X.env)).all (fun x=>!x.1) && (backToKw g9 (keywordEach [] X.env)).all (fun x=>x.1.isSome)
   && decide ((e ::es).length+([]:List Keyword).length+(if ([]:List Keyword).isEmpty then 0 else 1)<30))=true:=by rfl)
  (A0:(i5.endLine ==g9.line)=true:=by rfl) (hs:starEach (e ::es) X.env=(false,eval e X.env) ::starEach es X.env:=by rfl) (hplain:(backTo g9 (starEach es X.env)).any (·.1)=false:=by rfl) :
  PE X (.Call (.Attribute o name i5) (e ::es) [] g9) (tBM X.K T r to t):=by
 intro a7 s σ H Q I h;refine wpAny_Call_method_late z9 hfew A0 rfl (thn (ho a7 s σ H _ I h) fun v s1 ⟨x,H1,I1,r1,ty,q1⟩=>?_);obtain ⟨h1,h2⟩:=Zxc I1 r1 ty;refine ⟨T,id,pa,slot,hty,h1,h2,?_⟩;have hA:=ha g9 a7 s1 σ H1 _ I1 q1;rw [hs] at hA ⊢;refine Calls.callWith_builtin (by show (false || (backTo g9 (starEach es X.env)).any (·.1))=false;rw [hplain] <;>rfl) (Calls.evalArgs_plain ?_);exact thn hA fun us s2 ⟨vs,H2,I2,r2,q2⟩=>hm a7 s2 σ H2 x vs v us Q I2 r1 r2 q2
/- xs.append(e),list.index on a module's tuple .. are MtR facts of 06m -/
end
end L2
namespace L2
open PySem PySem.Spec PyProof.Rows
def MtM(X:Cx)(id:String)(r:V->List V->Hp->VK->Prop):Prop :=
 ∀(a7:List (Addr×Obj)) (s:Shared) (σ:St) (H:Hp) (x:V) (xs:List V) (v:Value) (us:List Value) (Q:VK),Inv X a7 σ H s->Ye x v->Z5 xs us->r x xs H Q ->
  wpAny (model X.prog X.w) X.A (call (.builtin id) (v ::us)) (EP X a7 σ Q) X.xe s
theorem Z5.one{x:V}{us:List Value}(h:Z5 [x] us):∃u,us=[u]/\Ye x u:=by
 cases h with
 | cons r t=>cases t;exact ⟨_,rfl,r⟩
theorem Z5.dropLast{xs:List V}{us:List Value}(h:Z5 xs us):Z5 xs.dropLast us.dropLast:=by
 induction h with
 | nil=>exact .nil
 | cons r t ih =>
  cases t with
  | nil=>exact .nil
  | cons q t'=>exact .cons r ih
theorem Z5.eraseIdx:∀{xs:List V} {us:List Value} (i:Nat),Z5 xs us->Z5 (xs.eraseIdx i) (us.eraseIdx i)
 | _,_,_,.nil=>.nil
 | _,_,0,.cons _ t=>t
 | _,_,i+1,.cons r t=>.cons r (Z5.eraseIdx i t)
theorem Zwp{α:Type}(l:List α):l.eraseIdx (l.length-1)=l.dropLast:=by
 induction l with
 | nil=>rfl
 | cons a r ih =>
  cases r with
  | nil=>rfl
  | cons b r =>
   have e:(a ::b ::r).length-1=((b ::r).length-1)+1:=by
    have h1:(a ::b ::r).length=r.length+2:=rfl;have h2:(b ::r).length=r.length+1:=rfl;lia
   rw [e,List.eraseIdx_cons_succ,ih]
   all_goals rfl
theorem Zlt{α:Type}:∀(l:List α) (i:Nat),(l.eraseIdx i).length<=l.length
 | [],_=>Nat.le_refl _
 | _ ::_,0=>Nat.le_succ _
 | _ ::r,i+1=>Nat.succ_le_succ (Zlt r i)
section
variable {X:Cx} {a7:List (Addr×Obj)} {σ:St} {H:Hp} {s:Shared} {l b:Addr} {xs ys zs:List V}
theorem Inv.lset{a8 its':List Value}{n:Nat}{f:Array Value->Array Value}{t':Nat}(I:Inv X a7 σ H s)(hH:H l=some (.lst xs))
  (e:s.heap.get? l=some { cls:=.type "list",data:=.seq a8.toArray n }) (hf:f a8.toArray=its'.toArray) (hv:Z5 ys its') (hz:ys.length<=sizeLine) :
  Inv X a7 σ (upd H l (.lst ys)) { s with heap:=s.heap.update l (Obj.mapSeq f),toks:=t' }:=by
 have q:=PySem.IsL.update e f;rw [hf] at q;refine I.write (x:=l) (e:=l) (by rw [hH];exact trivial) (.inl rfl) (fun b' u hb hu=>(Heap.get?_update_other s.heap (Obj.mapSeq f) (Ne.symm hb)).trans hu) ⟨_,q⟩ ?_;exact ⟨hz,its',_,hv,q⟩
theorem Inv.lnew{a8:List Value}{t':Nat}(I:Inv X a7 σ H s)(hv:Z5 ys a8)(hz:ys.length<=sizeLine) :
  Inv X a7 σ (upd H s.heap.objs.size (.lst ys)) { s with heap:=s.heap.push { cls:=.type "list",data:=.seq a8.toArray },toks:=t' } :=
 I.laid (fun _ _ q=>Heap.get?_push_of_some _ q) (Nat.le_refl _) ⟨hz,a8,0,hv,Heap.get?_push_size _ rfl⟩
theorem Inv.fresh(I:Inv X a7 σ H s):H s.heap.objs.size=none:=I.hok.fresh (Nat.le_refl _)
theorem Inv.lstM(I:Inv X a7 σ H s)(hH:H l=some (.lst xs)):xs.length<=sizeLine/\∃(a8:List Value) (n:Nat),Z5 xs a8/\xs.length=a8.length/\s.heap.get? l=some { cls:=.type "list",data:=.seq a8.toArray n }:=by
 obtain ⟨z,a8,n,r,e⟩:=I.hok l _ hH;exact ⟨z,a8,n,r,r.length,e⟩
theorem Zs8{n:Nat}(h:n<=sizeLine):Builtin.List.listTooLong n=false:=by
 unfold Builtin.List.listTooLong;exact decide_eq_false (by lia)
end
section
variable {X:Cx}
def Zvg:V->List V->Hp->VK->Prop:=fun x vs H Q=>∃l xs y,x=.ref l/\vs=[y]/\H l=some (.lst xs)/\xs.length<sizeLine/\Q .non (upd H l (.lst (xs++[y])))
theorem Xs:MtM X "list.append" Zvg:=by
 intro a7 s σ H x vs v us Q I rx rv h;obtain ⟨l,xs,y,rfl,rfl,hH,hz,q⟩:=h;cases rx;obtain ⟨u,rfl,ru⟩:=rv.one;obtain ⟨z,a8,n,r,hl,e⟩:=I.lstM hH;refine call_meets F.slot_list_append ⟨_,e,rfl⟩ F.entry_list_append (F.args_list_append_2 _ _) (PySem.list_append l a8.toArray n u (by rw [List.size_toArray];lia)) ⟨e,?_⟩;refine ⟨.non,_,I.lset (its':=a8++[u]) hH e (by simp) (r.append (.cons ru .nil)) ?_,rfl,q⟩;rw [List.length_append,List.length_singleton];lia
def Zve:V->List V->Hp->VK->Prop:=fun x vs H Q=>∃l b xs zs,x=.ref l/\vs=[.ref b]/\H l=some (.lst xs)/\H b=some (.lst zs)/\xs.length+zs.length<=sizeLine/\Q .non (upd H l (.lst (xs++zs)))
theorem Zyk:MtM X "list.extend" Zve:=by
 intro a7 s σ H x vs v us Q I rx rv h;obtain ⟨l,b,xs,zs,rfl,rfl,hH,hB,hz,q⟩:=h;cases rx;obtain ⟨u,rfl,ru⟩:=rv.one;cases ru;obtain ⟨z,a8,n,r,hl,e⟩:=I.lstM hH;obtain ⟨z2,C6,n2,r2,hl2,e2⟩:=I.lstM hB;have hsz:a8.toArray.size+C6.toArray.size<=sizeLine:=by rw [List.size_toArray,List.size_toArray];lia
 have hlong:¬(!a8.toArray.isEmpty && Builtin.List.listTooLong (a8.toArray.size+C6.toArray.size))=true:=by
  rw [Zs8 hsz,Bool.and_false];exact Bool.false_ne_true
 refine call_meets F.slot_list_extend ⟨_,e,rfl⟩ F.entry_list_extend (F.args_list_extend_2 _ _)
  (AutoSeq1.list_extend_list_list_0 l a8.toArray n b C6.toArray n2 hlong (by rw [List.size_toArray];lia) (by lia)) ⟨e,e2,?_⟩
 refine ⟨.non,_,I.lset (its':=a8++C6) hH e (by simp) (r.append r2) ?_,rfl,q⟩;rw [List.length_append];lia
def Zyi:V->List V->Hp->VK->Prop:=fun x vs H Q=>∃l xs i k y,x=.ref l/\vs=[.int i]/\H l=some (.lst xs)/\-(2 ^ 63)<=i/\i<2 ^ 63/\seqIndex? i xs.length=some k/\xs[k]? =some y/\Q y (upd H l (.lst (xs.eraseIdx k)))
theorem Znd:MtM X "list.pop" Zyi:=by
 intro a7 s σ H x vs v us Q I rx rv h;obtain ⟨l,xs,i,k,y,rfl,rfl,hH,h1,h2,hk,hy,q⟩:=h;cases rx;obtain ⟨u,rfl,ru⟩:=rv.one;obtain ⟨t,rfl⟩:=ru;obtain ⟨z,a8,n,r,hl,e⟩:=I.lstM hH;obtain ⟨w,hw,A8⟩:=r.get hy;refine call_meets F.slot_list_pop ⟨_,e,rfl⟩ F.entry_list_pop (F.args_list_pop_2 _ _)
  (MeetsSeq.list_pop_at l a8.toArray n i t k w (fitsIndex_both h1 h2) (by rw [List.size_toArray,<-hl];exact hk) (by rw [<-Array.getElem?_toList];exact hw) (by rw [List.size_toArray];lia)) ⟨e,?_⟩
 refine ⟨y,_,I.lset (its':=a8.eraseIdx k) hH e ?_ (r.eraseIdx k) ?_,A8,q⟩
 ·show a8.toArray.eraseIdxIfInBounds k=(a8.eraseIdx k).toArray;rw [List.eraseIdxIfInBounds_toArray]
 ·have:=Zlt xs k;lia
def Yaq:R2:=fun x y H Q=>∃l b xs zs,x=.ref l/\y=.ref b/\H l=some (.lst xs)/\H b=some (.lst zs)/\xs.length+zs.length<=sizeLine/\∀p,H p=none->Q (.ref p) (upd H p (.lst (xs++zs)))
theorem Zxd:OpR X (binaryOp .Add) Yaq:=by
 intro a7 s σ H x y v u Q I rx ry h;obtain ⟨l,b,xs,zs,rfl,rfl,hH,hB,hz,q⟩:=h;cases rx;cases ry;obtain ⟨z,a8,n,r,hl,e⟩:=I.lstM hH;obtain ⟨z2,C6,n2,r2,hl2,e2⟩:=I.lstM hB;refine PySem.P.add_list e e2 ?_ (by rw [List.size_toArray,List.size_toArray];lia);have ea:a8.toArray++C6.toArray=(a8++C6).toArray:=by simp
 rw [ea];exact ⟨.ref _,_,I.lnew (t':=s.toks) (r.append r2) (by rw [List.length_append];lia),rfl,q _ I.fresh⟩
end
section
variable {prog:Program} {w:World} {A:Around} {E:Value->Shared->Prop} {s:Shared}
end
section
variable {X:Cx}
end
end L2
namespace L2
open PySem PySem.Spec PyProof.Rows
section
variable {κ:Type} [DecidableEq κ]
def Yv(kvs:List (κ×V))(k:κ):Option V:=(kvs.find? fun kv=>decide (kv.1=k)).map (·.2)
def W2(kvs:List (κ×V))(k:κ)(v:V):List (κ×V) :=
 if (kvs.any fun kv=>decide (kv.1=k))=true then kvs.map (fun kv=>if kv.1=k then (kv.1,v) else kv) else kvs++[(k,v)]
def Zf2(kvs:List (κ×V))(k:κ):List (κ×V):=kvs.filter fun kv=>decide (kv.1≠k)
theorem Xf{p:κ×V}{r:List (κ×V)}{k:κ}(e:p.1=k):Yv (p ::r) k=some p.2:=by simp [Yv,List.find?_cons,e]
theorem Y7{p:κ×V}{r:List (κ×V)}{k:κ}(e:¬p.1=k):Yv (p ::r) k=Yv r k:=by simp [Yv,List.find?_cons,e]
theorem Zcs(k:κ):∀kvs:List (κ×V),(kvs.any fun kv=>decide (kv.1=k))=(Yv kvs k).isSome
 | []=>rfl
 | p ::r=>by
  rw [List.any_cons]
  by_cases e:p.1=k
  ·simp only [Xf e,decide_eq_true e,Bool.true_or,Option.isSome_some]
  ·rw [Y7 e,decide_eq_false e,Bool.false_or];exact Zcs k r
theorem Zna(k j:κ)(y:V):∀kvs:List (κ×V),Yv (kvs.map fun kv=>if kv.1=k then (kv.1,y) else kv) j=(Yv kvs j).map fun x=>if j=k then y else x
 | []=>rfl
 | p ::r=>by
  have ih:=Zna k j y r;rw [List.map_cons]
  by_cases h:p.1=k
  ·rw [if_pos h]
   by_cases e:p.1=j
   ·rw [Xf (p:=(p.1,y)) e,Xf e,Option.map_some,if_pos (e.symm.trans h)]
   ·rw [Y7 (p:=(p.1,y)) e,Y7 e,ih]
  ·rw [if_neg h]
   by_cases e:p.1=j
   ·rw [Xf (p:=p) e,Xf e,Option.map_some,if_neg (fun z=>h (e.trans z))]
   ·rw [Y7 (p:=p) e,Y7 e,ih]
theorem Zlh(k j:κ)(y:V):∀kvs:List (κ×V),Yv kvs k=none->Yv (kvs++[(k,y)]) j=if j=k then some y else Yv kvs j
 | [],_=>by
  by_cases e:k=j
  ·rw [if_pos e.symm];exact Xf (p:=(k,y)) e
  ·rw [if_neg (fun z=>e z.symm)];exact Y7 (p:=(k,y)) e
 | p ::r,hn=>by
  rw [List.cons_append];have hk:¬p.1=k:=fun z=>by rw [Xf z] at hn;cases hn
  rw [Y7 hk] at hn;have ih:=Zlh k j y r hn
  by_cases e:p.1=j
  ·rw [Xf e,Xf e,if_neg (fun z=>hk (e.trans z))]
  ·rw [Y7 e,Y7 e,ih]
theorem Znk(kvs:List (κ×V))(k j:κ)(y:V):Yv (W2 kvs k y) j=if j=k then some y else Yv kvs j:=by
 unfold W2
 by_cases a:(kvs.any fun kv=>decide (kv.1=k))=true
 ·rw [if_pos a,Zna];rw [Zcs] at a
  by_cases e:j=k
  ·obtain ⟨x,hx⟩:=Option.isSome_iff_exists.mp a;rw [if_pos e,e,hx,Option.map_some,if_pos rfl]
  ·rw [if_neg e];cases Yv kvs j with
   | none=>rfl
   | some x=>rw [Option.map_some,if_neg e]
 ·rw [if_neg a];refine Zlh k j y kvs ?_;rw [Zcs] at a;cases q:Yv kvs k with
  | none=>rfl
  | some x=>rw [q] at a;exact (a rfl).elim
theorem Zbs(kvs:List (κ×V))(k:κ)(v:V):(W2 kvs k v).length<=kvs.length+1:=by
 unfold W2;split
 ·rw [List.length_map];lia
 ·rw [List.length_append,List.length_cons,List.length_nil];lia
theorem Zsu{kvs:List (κ×V)}{k:κ}(v:V)(h:Yv kvs k=none):W2 kvs k v=kvs++[(k,v)]:=by
 unfold W2;rw [Zcs,h];exact if_neg (by decide)
theorem Zc0.isSome_eq{o:Option V}{u:Option Value}(r:Zc0 o u):o.isSome=u.isSome:=by
 cases o with
 | none=>cases u with
  | none=>rfl
  | some _=>exact (show False from r).elim
 | some _=>cases u with
  | none=>exact (show False from r).elim
  | some _=>rfl
theorem KV.val{kvs:List (κ×V)}{vs:List (κ×Value)}(r:KV kvs vs)(k:κ):Zc0 (Yv kvs k) (valueAt vs k):=by
 unfold KV at r
 induction r with
 | nil=>exact True.intro
 | @cons p q ps qs h t ih =>
  obtain ⟨h1,h2⟩:=h
  by_cases e:p.1=k
  ·have e':q.1=k:=h1.symm.trans e;have b:valueAt (q ::qs) k=some q.2:=by simp [valueAt,List.find?_cons,e']
   rw [Xf e,b];exact h2
  ·have e':¬q.1=k:=fun z=>e (h1.trans z)
   have b:valueAt (q ::qs) k=valueAt qs k:=by simp [valueAt,List.find?_cons,e']
   rw [Y7 e,b];exact ih
theorem KV.any{kvs:List (κ×V)}{vs:List (κ×Value)}(r:KV kvs vs)(k:κ):(kvs.any fun kv=>decide (kv.1=k))=vs.any fun kv=>decide (kv.1=k):=by
 unfold KV at r
 induction r with
 | nil=>rfl
 | cons h t ih=>rw [List.any_cons,List.any_cons,ih,h.1]
theorem KV.repl{kvs:List (κ×V)}{vs:List (κ×Value)}(r:KV kvs vs)(k:κ){y:V}{u:Value}(ry:Ye y u) :
  KV (kvs.map fun kv=>if kv.1=k then (kv.1,y) else kv) (vs.map fun kv=>if kv.1=k then (kv.1,u) else kv):=by
 unfold KV at r ⊢
 induction r with
 | nil=>exact .nil
 | @cons p q ps qs h t ih =>
  rw [List.map_cons,List.map_cons];refine .cons ?_ ih;obtain ⟨h1,h2⟩:=h
  by_cases e:p.1=k
  ·rw [if_pos e,if_pos (h1.symm.trans e)];exact ⟨h1,ry⟩
  ·rw [if_neg e,if_neg (fun z=>e (h1.trans z))];exact ⟨h1,h2⟩
theorem KV.put{kvs:List (κ×V)}{vs:List (κ×Value)}(r:KV kvs vs)(k:κ){y:V}{u:Value}(ry:Ye y u):KV (W2 kvs k y) (stored vs k u):=by
 unfold W2 stored;rw [r.any k]
 by_cases e:(vs.any fun kv=>decide (kv.1=k))=true
 ·rw [if_pos e,if_pos e];exact r.repl k ry
 ·rw [if_neg e,if_neg e];exact Paired.snoc r ⟨rfl,ry⟩
theorem KV.drop{kvs:List (κ×V)}{vs:List (κ×Value)}(r:KV kvs vs)(k:κ):KV (Zf2 kvs k) (without vs k):=by
 unfold KV at r ⊢;unfold Zf2 without
 induction r with
 | nil=>exact .nil
 | @cons p q ps qs h t ih =>
  obtain ⟨h1,h2⟩:=h;rw [List.filter_cons,List.filter_cons]
  by_cases e:p.1=k
  ·have a:¬decide (p.1≠k)=true:=by simp [e]
   have b:¬decide (q.1≠k)=true:=by simp [h1.symm.trans e]
   rw [if_neg a,if_neg b];exact ih
  ·have e':¬q.1=k:=fun z=>e (h1.trans z)
   have a:decide (p.1≠k)=true:=by simp [e]
   have b:decide (q.1≠k)=true:=by simp [e']
   rw [if_pos a,if_pos b];exact .cons ⟨h1,h2⟩ ih
theorem KV.length{kvs:List (κ×V)}{vs:List (κ×Value)}(r:KV kvs vs):kvs.length=vs.length:=Paired.length r
theorem Znn(kvs:List (κ×V))(k:κ):(Zf2 kvs k).length<=kvs.length:=List.length_filter_le _ _
end
theorem Zhr{P:Program}{w:World}{k:Key}{u:Value}(r:Ye (kV k) u):(Zz P w).is k u=true:=by
 cases k with
 | inl i=>obtain ⟨t,e⟩:=(show ∃t,u=Value.int i t from r);subst e;exact Zm4 P w i t
 | inr x=>obtain ⟨t,e⟩:=(show ∃t,u=Value.str x t from r);subst e;exact Zni P w x t
theorem Zg7{P:Program}{w:World}:∀{ks:List Key} {us:List Value},Z5 (ks.map kV) us->ItemsAre (Zz P w) ks us
 | [],_,r=>by rw [List.map_nil] at r;cases r;exact .nil
 | k ::ks,_,r=>by
  rw [List.map_cons] at r;cases r with
  | cons h t=>exact .cons (Zhr h) (Zg7 t)
abbrev KT(H:Hp):List (List Key×V)->List (List Key×Addr×Value)->Prop:=Paired fun p q=>p.1=q.1/\H q.2.1=some (.tup (p.1.map kV))/\Ye p.2 q.2.2
theorem KT.val{H:Hp}{kvs:List (List Key×V)}{xs:List (List Key×Addr×Value)}(r:KT H kvs xs)(k:List Key):Zc0 (Yv kvs k) ((atKey xs k).map (·.2)):=by
 induction r with
 | nil=>exact True.intro
 | @cons p q ps qs h t ih =>
  obtain ⟨h1,_,h2⟩:=h
  by_cases e:p.1=k
  ·have e':q.1=k:=h1.symm.trans e;have b:atKey (q ::qs) k=some q.2:=by simp [atKey,List.find?_cons,e']
   rw [Xf e,b];exact h2
  ·have e':¬q.1=k:=fun z=>e (h1.trans z)
   have b:atKey (q ::qs) k=atKey qs k:=by simp [atKey,List.find?_cons,e']
   rw [Y7 e,b];exact ih
theorem KT.repl{H:Hp}{kvs:List (List Key×V)}{xs:List (List Key×Addr×Value)}(r:KT H kvs xs)(k:List Key){y:V}{u:Value}(ry:Ye y u) :
  KT H (kvs.map fun kv=>if kv.1=k then (kv.1,y) else kv) (xs.map (putAt k u)):=by
 induction r with
 | nil=>exact .nil
 | @cons p q ps qs h t ih =>
  rw [List.map_cons,List.map_cons];refine .cons ?_ ih;obtain ⟨h1,h2,h3⟩:=h;unfold putAt
  by_cases e:p.1=k
  ·rw [if_pos e,if_pos (h1.symm.trans e)];exact ⟨h1,h2,ry⟩
  ·rw [if_neg e,if_neg (fun z=>e (h1.trans z))];exact ⟨h1,h2,h3⟩
theorem KT.put{H:Hp}{kvs:List (List Key×V)}{xs:List (List Key×Addr×Value)}(r:KT H kvs xs)(k:List Key){b:Addr}{y:V}{u:Value}(hb:H b=some (.tup (k.map kV)))(ry:Ye y u) :
  KT H (W2 kvs k y) (storedH xs k b u):=by
 have e:(kvs.any fun kv=>decide (kv.1=k))=(atKey xs k).isSome:=by
  rw [Zcs,(r.val k).isSome_eq,Option.isSome_map]
 unfold W2 storedH;rw [e]
 by_cases q:(atKey xs k).isSome=true
 ·rw [if_pos q,if_pos q];exact r.repl k ry
 ·rw [if_neg q,if_neg q];exact Paired.snoc r ⟨rfl,hb,ry⟩
theorem KT.keeps{H H':Hp}{kvs:List (List Key×V)}{xs:List (List Key×Addr×Value)}(r:KT H kvs xs)(ht:∀b ys,H b=some (.tup ys)->H' b=some (.tup ys)):KT H' kvs xs :=
 Paired.mapP r fun _ _ z=>⟨z.1,ht _ _ z.2.1,z.2.2⟩
section
variable {P:Program} {w:World} {H:Hp} {h:Heap} {a:Addr}
theorem Zv2{u:HO}(ok:HOk P w H h)(e:Rd H a u):Yf P w H h a u:=e.ok ok
theorem Zbt{kvs:List (Key×V)}(ok:HOk P w H h)(e:Rd H a (.dK kvs)):kvs.length<=sizeLine/\(a ==sysModules)=false/\∃vs,KV kvs vs/\h.DictOf (Zz P w) a vs :=
 show Yf P w H h a (.dK kvs) from Zv2 ok e
theorem Zlo{kvs:List (Key×V)}(ok:HOk P w H h)(e:H a=some (.dK kvs)):kvs.length<=sizeLine/\(a ==sysModules)=false/\∃vs,KV kvs vs/\h.DictOf (Zz P w) a vs:=Zbt ok (.inl e)
theorem Zje{ks:List Key}(ok:HOk P w H h)(e:H a=some (.tup (ks.map kV))):(tupleKind (Zz P w)).is h ks a:=by
 obtain ⟨_,a8,r,o,h1,h2,n,h3⟩:=(show Yf P w H h a (.tup (ks.map kV)) from ok a _ e)
 exact ⟨o,a8.toArray,n,h1,h2,h3,by simpa using Zg7 r⟩
theorem Zkp{kvs:List (List Key×V)}(ok:HOk P w H h)(e:Rd H a (.dT kvs)):kvs.length<=sizeLine/\(a ==sysModules)=false /\
  ∃xs,KT H kvs xs/\h.DictOfH (tupleKind (Zz P w)) a xs:=by
 obtain ⟨z,y,xs,r,o,es,ep,h1,h2,h3,h4,h5⟩:=(show Yf P w H h a (.dT kvs) from Zv2 ok e)
 refine ⟨z,y,xs,r,o,es,ep,h1,h2,h3,h4,fun x hx=>?_,h5⟩;have all:∀{l:List (List Key×V)} {m:List (List Key×Addr×Value)},KT H l m->∀x∈m,(tupleKind (Zz P w)).is h x.1 x.2.1:=by
  intro l m q
  induction q with
  | nil=>intro x hx;exact nomatch hx
  | @cons p q ps qs hq t ih =>
   intro x hx;rcases List.mem_cons.mp hx with e|hx
   ·subst e;exact Zje ok (by rw [<-hq.1];exact hq.2.1)
   ·exact ih x hx
 exact all r x hx
theorem Zv3{kvs:List (List Key×V)}(ok:HOk P w H h)(e:H a=some (.dT kvs)):kvs.length<=sizeLine/\(a ==sysModules)=false /\
  ∃xs,KT H kvs xs/\h.DictOfH (tupleKind (Zz P w)) a xs:=Zkp ok (.inl e)
end
def Zab(H:Hp)(a:Addr)(y:V)(r:Option V):Prop :=
 (∃kvs k,Rd H a (.dK kvs)/\y=kV k/\r=Yv kvs k)\/∃kvs k b,Rd H a (.dT kvs)/\y=.ref b/\H b=some (.tup (k.map kV))/\r=Yv kvs k
def Zgk(H:Hp)(a:Addr)(y v:V)(H':Hp):Prop :=
 (∃kvs k,H a=some (.dK kvs)/\y=kV k/\kvs.length<sizeLine/\H'=upd H a (.dK (W2 kvs k v))) \/
 ∃kvs k b,H a=some (.dT kvs)/\y=.ref b/\H b=some (.tup (k.map kV))/\kvs.length<sizeLine/\H'=upd H a (.dT (W2 kvs k v))
theorem Zab.k{H:Hp}{a:Addr}{kvs:List (Key×V)}{k:Key}(e:H a=some (.dK kvs)):Zab H a (kV k) (Yv kvs k):=.inl ⟨kvs,k,.inl e,rfl,rfl⟩
theorem Zab.t{H:Hp}{a b:Addr}{kvs:List (List Key×V)}{k:List Key}(e:H a=some (.dT kvs))(eb:H b=some (.tup (k.map kV))):Zab H a (.ref b) (Yv kvs k):=.inr ⟨kvs,k,b,.inl e,rfl,eb,rfl⟩
theorem Zgk.k{H:Hp}{a:Addr}{kvs:List (Key×V)}{k:Key}{v:V}(e:H a=some (.dK kvs))(hl:kvs.length<sizeLine):Zgk H a (kV k) v (upd H a (.dK (W2 kvs k v))):=.inl ⟨kvs,k,e,rfl,hl,rfl⟩
theorem Zgk.t{H:Hp}{a b:Addr}{kvs:List (List Key×V)}{k:List Key}{v:V}(e:H a=some (.dT kvs))(eb:H b=some (.tup (k.map kV)))(hl:kvs.length<sizeLine) :
  Zgk H a (.ref b) v (upd H a (.dT (W2 kvs k v))):=.inr ⟨kvs,k,b,e,rfl,eb,hl,rfl⟩
section
variable {X:Cx} {a7:List (Addr×Obj)} {σ:St} {H:Hp} {s:Shared} {a:Addr} {y v:V} {u r:Value} {o:Option V} {A:Around} {E:Value->Shared->Prop}
theorem Inv.big(I:Inv X a7 σ H s):sysModules<s.heap.objs.size:=by
 have h:mainGlobals<s.heap.objs.size:=(I.mod.glob.keeps I.bk).lt;exact Nat.lt_trans (by decide) h
theorem Zqg{Q:Value->Shared->Prop}(hu:A.units+1<cLine)(I:Inv X a7 σ H s)(g:Zab H a y (some v))(ry:Ye y u)(h:∀w' s',Inv X a7 σ H s'->Ye v w'->Q w' s') :
  wpAny (model X.prog X.w) A (getItem (.ref a) u) Q E s:=by
 rcases g with ⟨kvs,k,e,ey,l⟩|⟨kvs,k,b,e,ey,eb,l⟩
 ·subst ey;obtain ⟨z,hd,vs,m8,dd⟩:=Zbt I.hok e;obtain ⟨w',hw,A8⟩:=Zc0.some_of (v:=v) (o:=valueAt vs k) (by rw [l];exact m8.val k);exact wpAny_getItem_of (Zhr ry) dd.mapOf hw (h w' _ (I.tok _) A8)
 ·subst ey;cases (show u=Value.ref b from ry);obtain ⟨z,hd,xs,m8,dd⟩:=Zkp I.hok e;obtain ⟨w',hw,A8⟩:=Zc0.some_of (v:=v) (o:=(atKey xs k).map (·.2)) (by rw [l];exact m8.val k);obtain ⟨p,hp,hp2⟩:=Option.map_eq_some_iff.mp hw;refine wpAny_getItem_heap (tupleKind_room_in1 hu) (Zje I.hok eb) dd hp ?_;rw [hp2];exact h w' _ (I.tok _) A8
theorem Yac{Q:Value->Shared->Prop}(hu:A.units+1<cLine)(I:Inv X a7 σ H s)(g:Zab H a y o)(ry:Ye y u)(h:∀s',Inv X a7 σ H s'->Q (.bool o.isSome) s') :
  wpAny (model X.prog X.w) A (compareOp .In u (.ref a)) Q E s:=by
 rcases g with ⟨kvs,k,e,ey,l⟩|⟨kvs,k,b,e,ey,eb,l⟩
 ·subst ey;obtain ⟨z,hd,vs,m8,dd⟩:=Zbt I.hok e;refine wpAny_in_of (Zhr ry) hd dd.mapOf ?_;rw [<-(m8.val k).isSome_eq,<-l];exact h _ (I.tok _)
 ·subst ey;cases (show u=Value.ref b from ry);obtain ⟨z,hd,xs,m8,dd⟩:=Zkp I.hok e;refine wpAny_in_heap (tupleKind_room_in1 hu) (Zje I.hok eb) hd dd ?_;have q:=(m8.val k).isSome_eq;rw [Option.isSome_map] at q;rw [<-q,<-l];exact h _ (I.tok _)
theorem Zvt{Q:Value->Shared->Prop}(hu:A.units+1<cLine)(I:Inv X a7 σ H s)(g:Zab H a y o)(ry:Ye y u)(h:∀s',Inv X a7 σ H s'->Q (.bool (!o.isSome)) s') :
  wpAny (model X.prog X.w) A (compareOp .NotIn u (.ref a)) Q E s:=by
 rcases g with ⟨kvs,k,e,ey,l⟩|⟨kvs,k,b,e,ey,eb,l⟩
 ·subst ey;obtain ⟨z,hd,vs,m8,dd⟩:=Zbt I.hok e;refine wpAny_notIn_of (Zhr ry) hd dd.mapOf ?_;rw [<-(m8.val k).isSome_eq,<-l];exact h _ (I.tok _)
 ·subst ey;cases (show u=Value.ref b from ry);obtain ⟨z,hd,xs,m8,dd⟩:=Zkp I.hok e;refine wpAny_notIn_heap (tupleKind_room_in1 hu) (Zje I.hok eb) hd dd ?_;have q:=(m8.val k).isSome_eq;rw [Option.isSome_map] at q;rw [<-q,<-l];exact h _ (I.tok _)
theorem Zil{h':Heap}{t':Nat}{ob:HO}(I:Inv X a7 σ H s)(mu:Mut (H a))(hs:Heap.SameBut a s.heap h')(he:∃q,h'.get? a=some q)(new:Yf X.prog X.w (upd H a ob) h' a ob) :
  Inv X a7 σ (upd H a ob) { s with heap:=h',toks:=t' } :=
 I.write (x:=a) (e:=a) mu (.inl rfl) (fun b q hb z=>(hs.2 b hb).trans z) he new
theorem Zj7{P:Program}{w:World}{H':Hp}{h':Heap}{kvs:List (Key×V)}{vs:List (Key×Value)}(z:kvs.length<=sizeLine)(hd:(a ==sysModules)=false)(m8:KV kvs vs)(dd:h'.DictOf (Zz P w) a vs) :
  Yf P w H' h' a (.dK kvs):=⟨z,hd,vs,m8,dd⟩
theorem Zrh{H':Hp}{Q:Unit->Shared->Prop}(hu:A.units+1<cLine)(I:Inv X a7 σ H s)(g:Zgk H a y v H')(ry:Ye y u)(rv:Ye v r)(h:∀s',Inv X a7 σ H' s'->Q () s') :
  wpAny (model X.prog X.w) A (setItem (.ref a) u r) Q E s:=by
 rcases g with ⟨kvs,k,e,ey,l,eH⟩|⟨kvs,k,b,e,ey,eb,l,eH⟩
 ·subst ey eH;obtain ⟨z,hd,vs,m8,dd⟩:=Zlo I.hok e;have hz:vs.length<=sizeLine:=by rw [<-m8.length];exact z
  have hl:(W2 kvs k v).length<=sizeLine:=by have:=Zbs kvs k v;lia
  refine wpAny_setItem_pairs (hsz:=hz) (Zhr ry) dd fun h' K7 hs=>h _ ?_
  have he:∃q,h'.get? a=some q:=let ⟨q,_,_,hq,_⟩:=K7;⟨q,hq⟩;exact Zil I (by rw [e];exact True.intro) hs he (Zj7 hl hd (m8.put k rv) K7)
 ·subst ey eH;cases (show u=Value.ref b from ry);obtain ⟨z,hd,xs,m8,dd⟩:=Zv3 I.hok e;have hz:xs.length<=sizeLine:=by rw [<-Paired.length m8];exact z
  have hl:(W2 kvs k v).length<=sizeLine:=by have:=Zbs kvs k v;lia
  refine wpAny_setItem_heap (hsz:=hz) (tupleKind_room_in1 hu) (Zje I.hok eb) dd fun h' K7 hs=>h _ ?_
  obtain ⟨q,es,ep,hq,h2,h3,h4,_,h5⟩:=K7;refine Zil I (by rw [e];exact True.intro) hs ⟨q,hq⟩ ⟨hl,hd,_,(m8.put k eb rv).keeps fun c ys ec=>?_,q,es,ep,hq,h2,h3,h4,h5⟩;rw [Zd (Zwc ec e (fun z=>nomatch z))];exact ec
end
section
variable {X:Cx} {a7:List (Addr×Obj)} {σ:St} {H:Hp} {s:Shared} {a:Addr} {kvs:List (Key×V)} {k:Key} {u:Value} {A:Around} {E:Value->Shared->Prop}
theorem Zyj{Q:Unit->Shared->Prop}(I:Inv X a7 σ H s)(e:H a=some (.dK kvs))(ry:Ye (kV k) u)(l:(Yv kvs k).isSome=true)(h:∀s',Inv X a7 σ (upd H a (.dK (Zf2 kvs k))) s'->Q () s') :
  wpAny (model X.prog X.w) A (delItem (.ref a) u) Q E s:=by
 obtain ⟨z,hd,vs,m8,dd⟩:=Zlo I.hok e;refine wpAny_delItem_slot dd.typeIs (by decide) PySem.F.slot_dict_delitem
  (call_meetsIn PySem.F.slot_dict_delitem dd.typeIs PySem.F.entry_dict_delitem (PySem.F.args_dict_delitem_2 _ _) (meets_dict_delitem_pairs (Zz X.prog X.w) a (Zhr ry)) ⟨vs,dd,by rw [<-m8.length];exact z,by rw [<-(m8.val k).isSome_eq];exact l,fun h' K7 hs=>h _ ?_⟩)
 have he:∃q,h'.get? a=some q:=let ⟨q,_,_,hq,_⟩:=K7;⟨q,hq⟩;exact Zil I (by rw [e];exact True.intro) hs he (Zj7 (Nat.le_trans (Znn kvs k) z) hd (m8.drop k) K7)
theorem Zzz{v:V}{more:List Value}{Q:Value->Shared->Prop}(I:Inv X a7 σ H s)(e:H a=some (.dK kvs))(ry:Ye (kV k) u)(l:Yv kvs k=some v)(hm:more=[]\/∃x,more=[x])
  (h:∀w' s',Inv X a7 σ (upd H a (.dK (Zf2 kvs k))) s'->Ye v w'->Q w' s'):wpAny (model X.prog X.w) A (call (.builtin "dict.pop") (.ref a ::u ::more)) Q E s:=by
 obtain ⟨z,hd,vs,m8,dd⟩:=Zlo I.hok e;obtain ⟨w',hw,A8⟩:=Zc0.some_of (v:=v) (o:=valueAt vs k) (by rw [<-l];exact m8.val k);have hp:(keyPart u).isSome=true:=by
  cases k with
  | inl i=>obtain ⟨t,q⟩:=(show ∃t,u=Value.int i t from ry);subst q;rfl
  | inr x=>obtain ⟨t,q⟩:=(show ∃t,u=Value.str x t from ry);subst q;rfl
 have ha:argsOk "dict.pop" ⟨.ref a ::u ::more,[]⟩:=by
  rcases hm with q|⟨x,q⟩
  ·subst q;exact PySem.F.args_dict_pop_2 _ _
  ·subst q;exact PySem.F.args_dict_pop_3 _ _ _
 refine call_meetsIn PySem.F.slot_dict_pop dd.typeIs PySem.F.entry_dict_pop ha (meets_dict_pop_there (Zz X.prog X.w) a (Zhr ry) more hm hp)
  ⟨vs,w',dd,by rw [<-m8.length];exact z,hw,fun h' K7 hs=>h w' _ ?_ A8⟩
 have he:∃q,h'.get? a=some q:=let ⟨q,_,_,hq,_⟩:=K7;⟨q,hq⟩;exact Zil I (by rw [e];exact True.intro) hs he (Zj7 (Nat.le_trans (Znn kvs k) z) hd (m8.drop k) K7)
theorem Zyv{Q:Value->Shared->Prop}(I:Inv X a7 σ H s)(e:Rd H a (.dK kvs))(h:∀t s',Inv X a7 σ H s'->Q (.int kvs.length t) s'):wpAny (model X.prog X.w) A (call (.builtin "len") [.ref a]) Q E s:=by
 obtain ⟨z,hd,vs,m8,dd⟩:=Zbt I.hok e;refine call_len_dict hd dd (by rw [<-m8.length];rw [sizeLine_eq] at z;lia) ?_;rw [<-m8.length];exact h _ _ (I.tok _)
end
def Zyx(i:Expr):Prop:=∀ov iv,subscripted i false ov iv=operate [ov,iv] (getItem ov iv)
theorem Zvs{prog:Program}{w:World}{A:Around}{E:Value->Shared->Prop}{s:Shared}{env:Env}{value slice:Expr}{pos:Pos}{T id:String}{Q:Value->Shared->Prop}
  (hl:typeLookup (.type T) "__getitem__" =pure (some (.builtin id))) (hs:Zyx slice)
  (h:wpAny (model prog w) A (eval value env) (fun o s₁=>wpAny (model prog w) A (eval slice env) (fun i s₂=>s₂.TypeIs o T/\wpAny (model prog w) A (getItem o i) Q E s₂) E s₁) E s) :
  wpAny (model prog w) A (eval (.Subscript value slice pos) env) Q E s:=by
 refine Subscript_ (wpAny_mono h (fun o s₁ h₁=>wpAny_mono h₁ (fun i s₂ h₂=>?_) fun _ _ x=>x) fun _ _ x=>x);obtain ⟨hT,h₂⟩:=h₂;unfold subscriptTail;refine wpAny_bind ?_;rw [getitemInPython_of_ne hT.not_modules];refine wpAny_bind (wpAny_specialOf hT hl ?_);have C2:wpAny (model prog w) A (subscripted slice false o i) (fun r s₃=>wpAny (model prog w) A (letTemporaryGo value o r >>=fun _=>pure r) Q E s₃) E s₂:=by
  rw [hs o i];exact wpAny_operating (wpAny_mono h₂ (fun r s₃ h₃=>wpAny_bind (wpAny_letTemporaryGo (wpAny_pure h₃))) fun _ _ x=>x)
 first
  | exact wpAny_pure (wpAny_bind C2)
  | exact wpAny_bind (wpAny_pure (wpAny_bind C2))
  | exact wpAny_bind C2
theorem Znm{X:Cx}{a7:List (Addr×Obj)}{σ:St}{H:Hp}{s:Shared}{a:Addr}{y:V}{o:Option V}(I:Inv X a7 σ H s)(g:Zab H a y o):s.TypeIs (.ref a) "dict" :=by
 rcases g with ⟨kvs,k,e,_,_⟩|⟨kvs,k,b,e,_,_,_⟩
 ·obtain ⟨_,_,vs,_,dd⟩:=Zbt I.hok e;exact dd.typeIs
 ·obtain ⟨_,_,xs,_,dd⟩:=Zkp I.hok e;exact dd.typeIs
def Zyt(td ty:TE):TE:=fun σ H Q=>td σ H fun x H1=>ty σ H1 fun y H2=>∃a v,x=.ref a/\Zab H2 a y (some v)/\Q v H2
def Zzh(td ty tv:TE):TS:=fun D σ H=>tv σ H fun v H1=>td σ H1 fun x H2=>ty σ H2 fun y H3=>∃a H4,x=.ref a/\Zgk H3 a y v H4/\D.nx σ H4
section
variable {X:Cx} {o i e value:Expr} {pos v6 O4:Pos} {td ty tv:TE}
theorem Zbx(hu:X.A.units+1<cLine)(ho:PE X o td)(hi:PE X i ty)(hs:Zyx i):PE X (.Subscript o i pos) (Zyt td ty):=by
 intro a7 s σ H Q I h;refine Zvs PySem.F.slot_dict_getitem.lookup hs (thn (ho a7 s σ H _ I h) fun u s1 ⟨x,H1,I1,rx,q1⟩=>thn (hi a7 s1 σ H1 _ I1 q1) fun iv s2 ⟨y,H2,I2,ry,a,v,ex,g,q2⟩=>?_);subst ex;obtain rfl:u=Value.ref a:=rx;exact ⟨Znm I2 g,Zqg hu I2 g ry fun w' s3 I3 A8=>⟨v,H2,I3,A8,q2⟩⟩
theorem Zbv(hu:X.A.units+1<cLine)(ho:PE X o td)(hi:PE X i ty)(hv:PE X value tv)(hs:swapsWith value (some (.Subscript o i v6)) pos.line X.env=pure false) :
  PS X (.Assign [.Subscript o i v6] value pos) (Zzh td ty tv):=by
 intro a7 s σ H D I h;refine wpAny_Assign_Subscript (thn (hv a7 s σ H _ I h) fun r s1 ⟨v,H1,I1,rv,q1⟩=>thn (ho a7 s1 σ H1 _ I1 q1) fun u s2 ⟨x,H2,I2,rx,q2⟩=>thn (hi a7 s2 σ H2 _ I2 q2) fun iv s3 ⟨y,H3,I3,ry,a,H4,ex,g,q3⟩=>?_) hs;subst ex;obtain rfl:u=Value.ref a:=rx;exact Zrh hu I3 g ry rv fun s4 I4=>⟨σ,H4,I4,q3⟩
end
theorem Zs9{P:Program}{w:World}{H:Hp}(h:Heap)(hb:sysModules<h.objs.size):Yf P w H (h.push { cls:=.type "dict",data:=.dict #[] }) h.objs.size (.dK []) :=
 ⟨Nat.zero_le _,beq_eq_false_iff_ne.mpr (Ne.symm (Nat.ne_of_lt hb)),[],.nil,Heap.DictOf.new h⟩
theorem Zsr{P:Program}{w:World}{H:Hp}(h:Heap)(hb:sysModules<h.objs.size):Yf P w H (h.push { cls:=.type "dict",data:=.dict #[] }) h.objs.size (.dT []) :=
 ⟨Nat.zero_le _,beq_eq_false_iff_ne.mpr (Ne.symm (Nat.ne_of_lt hb)),[],.nil,_,#[],0,Heap.get?_push_size _ rfl,⟨rfl,rfl,rfl⟩,rfl,rfl,List.nodup_nil⟩
def Zx0:TE:=fun _ H Q=>∀p,H p=none->Q (.ref p) (upd H p (.dK []))
def Zx9:TE:=fun _ H Q=>∀p,H p=none->Q (.ref p) (upd H p (.dT []))
section
variable {X:Cx} {pos:Pos}
theorem Zrx:PE X (.Dict [] [] pos) Zx0:=fun a7 s σ H Q I h =>
 wpAny_Dict_empty ⟨.ref s.heap.objs.size,_,I.laid (a:=s.heap.objs.size) (o:=.dK []) (t':=s.toks) (fun _ _ q=>Heap.get?_push_of_some _ q) (Nat.le_refl _) (Zs9 s.heap I.big),rfl,h _ (I.hok.fresh (Nat.le_refl _))⟩
theorem Zs5:PE X (.Dict [] [] pos) Zx9:=fun a7 s σ H Q I h =>
 wpAny_Dict_empty ⟨.ref s.heap.objs.size,_,I.laid (a:=s.heap.objs.size) (o:=.dT []) (t':=s.toks) (fun _ _ q=>Heap.get?_push_of_some _ q) (Nat.le_refl _) (Zsr s.heap I.big),rfl,h _ (I.hok.fresh (Nat.le_refl _))⟩
end
structure M1(X:Cx)(o:Expr)(m:Str)(i5:Pos)(e:Expr)(g9:Pos):Prop where
 base:attributeBase o m X.env (eval o X.env)=eval o X.env
 few:((backTo g9 (starEach [e] X.env)).all (fun x=>!x.1) && (backToKw g9 (keywordEach [] X.env)).all (fun x=>x.1.isSome)
  && decide (([e]:List Expr).length+([]:List Keyword).length+(if ([]:List Keyword).isEmpty then 0 else 1)<30))=true
 line:(i5.endLine ==g9.line)=true
 trees:backTo g9 (starEach [e] X.env)=[(false,eval e X.env)]
def IsD(H:Hp)(a:Addr):Prop:=(∃kvs,Rd H a (.dK kvs))\/∃kvs,Rd H a (.dT kvs)
theorem Zx1{X:Cx}{a7:List (Addr×Obj)}{σ:St}{H:Hp}{s:Shared}{a:Addr}(I:Inv X a7 σ H s)(d:IsD H a) :
  s.TypeIs (.ref a) "dict" /\(∀b,Value.ref a=.ref b->∃ob,s.heap.get? b=some ob/\ob.dict=none)/\(a ==sysModules)=false:=by
 rcases d with ⟨kvs,e⟩|⟨kvs,e⟩
 ·obtain ⟨_,hd,vs,_,dd⟩:=Zbt I.hok e;refine ⟨dd.typeIs,fun b q=>?_,hd⟩;cases q;obtain ⟨ob,_,_,h1,h2,_⟩:=dd;exact ⟨ob,h1,h2.2.1⟩
 ·obtain ⟨_,hd,xs,_,dd⟩:=Zkp I.hok e;refine ⟨dd.typeIs,fun b q=>?_,hd⟩;cases q;obtain ⟨ob,_,_,h1,h2,_⟩:=dd;exact ⟨ob,h1,h2.2.1⟩
section
variable {X:Cx} {a7:List (Addr×Obj)} {σ:St} {H:Hp} {s:Shared} {a:Addr} {y d:V} {u r:Value} {o:Option V} {A:Around} {E:Value->Shared->Prop}
end
def Zw2(td ty:TE):TE:=fun σ H Q=>td σ H fun x H1=>∃a,x=.ref a/\IsD H1 a/\ty σ H1 fun y H2=>∃kvs k v,H2 a=some (.dK kvs)/\y=kV k/\Yv kvs k=some v/\Q v (upd H2 a (.dK (Zf2 kvs k)))
section
variable {X:Cx} {o e f:Expr} {i5 g9:Pos} {td ty tx:TE}
theorem Zne(ho:PE X o td)(he:PE X e ty) (m:M1 X o "pop" i5 e g9):PE X (.Call (.Attribute o "pop" i5) [e] [] g9) (Zw2 td ty):=by
 intro a7 s σ H Q I h;refine wpAny_Call_method m.base m.few m.line PySem.F.plainAttrs_dict PySem.F.slot_dict_pop PySem.F.type_dict_pop (thn (ho a7 s σ H _ I h) fun u s1 ⟨x,H1,I1,rx,a,ex,d,q1⟩=>?_);subst ex;obtain rfl:u=Value.ref a:=rx;obtain ⟨t1,t2,_⟩:=Zx1 I1 d;refine ⟨t1,t2,?_⟩;rw [m.trees];refine Calls.callWith_builtin rfl (Calls.evalArgs_plain (Calls.spliced_cons (thn (he a7 s1 σ H1 _ I1 q1) fun iv s2 ⟨y,H2,I2,ry,kvs,k,v,ea,ey,l,q2⟩=>Calls.spliced_nil ?_)));subst ey;exact Zzz I2 ea ry l (.inl rfl) fun w' s3 I3 A8=>⟨v,_,I3,A8,q2⟩
end
section
variable {X:Cx} {a7:List (Addr×Obj)} {σ:St} {H:Hp} {s:Shared} {a:Addr} {kvs:List (Key×V)} {A:Around} {E:Value->Shared->Prop}
theorem Zr3{Q:Value->Shared->Prop}(I:Inv X a7 σ H s)(e:Rd H a (.dK kvs))(h:∀p s',H p=none->Inv X a7 σ (upd H p (.dK kvs)) s'->Q (.ref p) s'):wpAny (model X.prog X.w) A (call (.type "dict") [.ref a]) Q E s:=by
 obtain ⟨z,hd,vs,m8,dd⟩:=Zbt I.hok e;refine kt_call_dict hd dd (by rw [<-m8.length];exact z) fun h' K7 hs=>?_
 refine h _ _ (I.hok.fresh (Nat.le_refl _)) (I.laid (a:=s.heap.objs.size) (o:=.dK kvs) (t':=s.toks) (fun b q hq=>?_) (Nat.le_refl _) (Zj7 z (beq_eq_false_iff_ne.mpr (Ne.symm (Nat.ne_of_lt I.big))) m8 K7));exact (hs.2 b (Nat.ne_of_lt (Heap.lt_size hq))).trans (Heap.get?_push_of_some _ hq)
end
section
variable {X:Cx} {a7:List (Addr×Obj)} {σ:St} {H:Hp} {s:Shared} {a:Addr} {y:V} {u:Value} {A:Around} {E:Value->Shared->Prop}
end
end L2
namespace Att
open PySem PySem.W PySem.Calls PyProof.Rows
theorem Zh4{P:Params}{h:Heap}:∀(ns:List Int) (vs:List Value),WellAll P h vs (ns.map WData.int)->IntsAre vs ns:=by
 intro ns
 induction ns with
 | nil =>
  intro vs w;rw [List.map_nil] at w;cases w;exact .nil
 | cons n ns ih =>
  intro vs w;rw [List.map_cons] at w;cases w with
  | cons a b =>
   cases a;exact .cons _ _ (ih _ b)
theorem Zqk{l:OpenLaw}{n:Nat}(hn:l.most=some n){P:Params}{h:Heap}{args:List WData}{vals:List Value}
  (R5:l.row.toRowW.claim.pre args=true) (hwl:WellAll P h vals args) :
  ∃a vs ns,vals=[Value.ref a]/\args=[WData.list (ns.map WData.int)]/\h.get? a=some { cls:=.type "list",data:=.seq vs.toArray }/\IntsAre vs ns/\ns.length<=n:=by
 have hsh:WShape.hasAll [] args [.list .int]=true:=(pre_splitW R5).1;have hc:l.pre.holds [] { args:=args }=true:=(pre_splitW R5).2;obtain ⟨d,r,rfl,h1,h2⟩:=hasAllW_cons hsh;obtain rfl:=hasAllW_nil h2;obtain ⟨xs,rfl,h3⟩:=hasW_list h1;obtain ⟨ns,rfl⟩:=items_int h3;have g8:ns.length<=n:=by
  unfold OpenLaw.pre at hc;have h4:(WTm.not (.lt (.lit (.int (n:Int))) (.len (.arg 0)))).holds [] { args:=[.list (ns.map .int)] }=true:=by
   have h4:=(holds_andW hc).1;rw [hn] at h4;exact h4
  have h5:=condW_of h4 (w_not (w_lt w_lit (w_len_list (w_arg rfl))));rw [List.length_map] at h5;refine Nat.le_of_not_lt fun q=>?_
  have q':(n:Int)<((ns.length:Nat):Int):=by lia
  first
   | (rw [decide_eq_true q'] at h5;exact absurd h5 (by decide))
   | (simp at h5;lia)
 cases hwl with
 | cons w1 w2 =>
  cases w2;cases w1 with
  | list ho x0=>exact ⟨_,_,ns,rfl,rfl,ho,Zh4 ns _ x0,g8⟩
theorem Zqu(l:OpenLaw)(args:List WData):l.row.toRowW.claim.post args (.bool true) args=true :=
 postW_of (r:=l.row.toRowW) (X:=(true ==true))
  (show WShape.has [] (.bool true) .bool=true by first | rfl | decide | simp [WShape.has,WShape.arms,WShape.armsAll])
  (show (WTm.eq .res (.lit (.bool true))).value [] { args:=args,res:=some (.bool true),after:=args }=some (.bool (true ==true)) from w_eq_bool (w_res rfl) w_lit) rfl
theorem attach_call{l:OpenLaw}{n:Nat}{q:Program}{B6:List Str}{XP:(Str->Option Value)->Heap->Prop}{YP:World->Heap->Prop}{d:DefRec}
  (hn:l.most=some n) (hdf:d.params.defaults=[])
  (call:∀(w:World) (s₀ s₁:Shared) (mg mb:Str->Option Value) (fa:Addr) (o:Obj) (pm cd m9:Value) (a:Addr) (vs:List Value) (ns:List Int),
   Ground q B6 [] XP w s₀ mg mb s₁.heap->YP w s₁.heap ->
   s₁.heap.get? fa=some o->o.data=.func (docDef d.name d.params d.body d.scope pm cd m9)->s₁.heap.CodeRec cd d.name->mg d.name=some (.ref fa) ->
   s₁.heap.get? a=some { cls:=.type "list",data:=.seq vs.toArray }->IntsAre vs ns->ns.length<=n->s₁.gens=#[] ->
   codeAny (model l.prog w) callerA (.call (.ref fa) ⟨[.ref a],[]⟩) (fun r s'=>r=.ok (.ret (.bool true))/\OldK s₁.heap s'.heap/\s'.os=s₁.os/\AllBare s'.gens) s₁) :
  WalkO q B6 XP YP l.row.toRowW d [] (fun f vs=>PySem.call f vs):=by
 intro w s₀ s₁ mg mb G Y fa o pm cd m9 dV kV ho hd A9 hD hmg hg args vals as R5 hlay hrd hwl hlo;obtain rfl:dV=.none:=Dflts.none hD hdf;obtain rfl:kV=.none:=Dflts.noKw hD;obtain ⟨a,vs,ns,rfl,rfl,hobj,M3,g8⟩:=Zqk hn R5 hwl;refine enter_call (codeAny_mono (call w s₀ s₁ mg mb fa o pm cd m9 a vs ns G Y ho (fd_plain hd) A9 hmg hobj M3 g8 hg) fun r s' hq=>?_);obtain ⟨rfl,h2,h3,h4⟩:=hq;exact ⟨.inl ⟨.bool true,.bool true,[],rfl,fun _=>rfl,.bool true,Zqu l _,fun _=>⟨List.Pairwise.nil,fun _ hm=>(nomatch hm)⟩⟩,h2,h3,h4⟩
section
variable {prog:Program} {w:World} {A:Around} {E:Value->Shared->Prop} {s:Shared} {K:Frag}
def Yaf(h:Heap)(L d:Addr):List (Addr×Obj):=(List.range h.objs.size).filterMap fun a=>if a=L\/a=d then none else (h.get? a).map fun o=>(a,o)
end
end Att
namespace L2
open PySem PySem.Spec PyProof.Rows
theorem Zlb:∀{vs:List Value} {ns:List Int},IntsAre vs ns->Z5 (ns.map V.int) vs
 | _,_,.nil=>.nil
 | _,_,.cons n t h=>.cons ⟨t,rfl⟩ (Zlb h)
end L2
namespace L2
open PySem PySem.Spec PyProof.Rows
end L2
/- THE LAST THEOREM (shape;LID,My.* are yours):
   My.Adr:a structure of the addresses that your layer names (classes,functions);My.Txt K t:a structure (Prop) of the equations over K;
   My.txt_mk:{K} {implicit addresses ..} (e1:nsIn K mainGlobals "law" =some (some (.ref f))) (e2:K.lookup f=some ⟨oc,od,.func (fnOf "law" "law" params body scope dV kV m9 pm an a9 ct),sl⟩) (e3:codeIn K a9 "law" =true) .. :∃t,My.Txt K t
(the tactic k_is has no namespace:write k_is) -/
namespace L2
open PySem PySem.Spec PyProof.Rows
def Yp(s:Stmt)(j:Nat):Stmt:=match s with
 | .ClassDef _ _ _ body _ _ _ _ _ _ _=>body.getD j (.Pass ⟨0,0,0,0⟩)
 | _=>.Pass ⟨0,0,0,0⟩
def Xa(s:Stmt):Arguments:=match s with
 | .FunctionDef _ a _ _ _ _ _ _ _ _=>a
 | _=>{ posonlyargs:=[],args:=[],vararg:=none,kwonlyargs:=[],kw_defaults:=[],kwarg:=none,defaults:=[] }
def Ys(s:Stmt):List Stmt:=match s with
 | .FunctionDef _ _ b _ _ _ _ _ _ _=>b
 | _=>[]
def Zh(s:Stmt):Scope:=match s with
 | .FunctionDef _ _ _ _ _ _ sc _ _ _=>sc
 | _=>{ kind:=.function,names:=[],isGenerator:=false,isCoroutine:=false }
abbrev CX0:CXT:=fun _ _ _ _ _ _=>False
abbrev E0:XK:=fun _ _ _=>False
theorem Yg{X:Cx}:Zay CX0 X E0:=fun _ _ _ _ _ _ _ h=>h.elim
structure Fun(K:Frag)(x qual:Str)(st:Stmt)(f:Addr)(fd:FuncData):Prop where
 ex:∃(oc:Value) (od:Option Addr) (kV m9 pm:Value) (an:Option Addr) (a9 ct:Value) (D3:Array (Option Value)),
  fd=fnOf x qual (Xa st) (Ys st) (Zh st) .none kV m9 pm an a9 ct/\K.lookup f=some ⟨oc,od,.func fd,D3⟩/\codeIn K a9 qual=true
 kp:keepIn K (.ref f)=true
section
variable {P:Program} {w:World} {K:Frag} {mg:Str->Option Value} {base:Heap}
theorem Fun.ok{x qual:Str}{st:Stmt}{f:Addr}{fd:FuncData}{N ps:List Str}{k:Nat}{sp:Sp}(F:Fun K x qual st f fd)(S:Zk N ps (Zh st))(len:∀vs H Q E,sp vs H Q E->vs.length=ps.length)
  (m5:∀(a9:Value) (A:Around) (outer:List Env) (s:Shared) (H:Hp) (vs:List V) (Q:VK) (E:XK),Xj k (A.deeper (envOfC qual (Zh st) s.heap.objs.size f a9))->sp vs H Q E ->
   ∃t,PSs (Zd0 CX0 P w K mg base N qual (Zh st) f a9 A outer s H E).nox (Ys st) t/\t { nx:=fun _ H'=>Q .non H',rt:=Q } (start N vs) H):Zw P w K mg base CX0 (k+1) f fd ps sp:=by
 obtain ⟨oc,od,kV,m9,pm,an,a9,ct,D3,rfl,lk,A9⟩:=F.ex;refine Zqc lk A9 S len fun A outer s H vs Q E hr P3=>?_
 obtain ⟨t,h,q⟩:=m5 a9 A outer s H vs Q E hr P3;exact ⟨t,h.nox,q⟩
theorem Fun.binds{x qual:Str}{st:Stmt}{f:Addr}{fd:FuncData}{ps:List Str}(F:Fun K x qual st f fd)
  (h:∀(kV m9 pm:Value) (an:Option Addr) (a9 ct:Value) (us:List Value),us.length=ps.length->bindArgs (fnOf x qual (Xa st) (Ys st) (Zh st) .none kV m9 pm an a9 ct) ⟨us,[]⟩=pure (ps.zip us)):Zak K fd ps []:=by
 obtain ⟨oc,od,kV,m9,pm,an,a9,ct,D3,rfl,lk,A9⟩:=F.ex;exact .all (h kV m9 pm an a9 ct)
theorem Zdp{x qual:Str}{st:Stmt}{f:Addr}{oc:Value}{od an:Option Addr}{D3:Array (Option Value)}{kV m9 pm a9 ct:Value}(l:K.lookup f=some ⟨oc,od,.func (fnOf x qual (Xa st) (Ys st) (Zh st) .none kV m9 pm an a9 ct),D3⟩)
  (c:codeIn K a9 qual=true) (k:keepIn K (.ref f)=true):Fun K x qual st f (fnOf x qual (Xa st) (Ys st) (Zh st) .none kV m9 pm an a9 ct):=⟨⟨oc,od,kV,m9,pm,an,a9,ct,D3,rfl,l,c⟩,k⟩
end
theorem W5{A:Around}{k:Nat}(hr:Xj k A):A.units+1<cLine:=Nat.lt_of_le_of_lt (Nat.add_le_add_left (by decide:1<=64) _) hr.units
theorem Zx{n:Nat}(h:n<=1000):n<sizeLine:=Nat.lt_of_le_of_lt h (by decide)
section
variable {X:Cx}
theorem pv(i:Nat){x:Str}{pos:Pos}(hN:X.N[i]? =some x:=by rfl)(hv:Vis X.env.scope x:=by first | exact Or.inl rfl | exact Or.inr (Or.inl rfl) | exact Or.inr (Or.inr rfl)) (hd:(x ==("__debug__" :Str))=false:=by decide)
  (A9:(x ==("__classdict__" :Str))=false:=by decide):PE X (.Name x pos) (Zic i):=Zxp hN hv hd A9
theorem Zri:Xe X (.builtin "len") (fun xs H Q=>∃a kvs,xs=[V.ref a]/\H a=some (.dK kvs)/\Q (.int kvs.length) H):=by
 intro a7 s σ H xs us Q I r h;obtain ⟨a,kvs,rfl,ha,q⟩:=h;obtain ⟨u,rfl,ru⟩:=Za0 r;cases ru;exact Zyv I (.inl ha) fun t s' I'=>⟨.int kvs.length,H,I',⟨t,rfl⟩,q⟩
end
theorem Zeq{A B:Prop}(h:B):if false=true then A else B:=by
 rw [if_neg Bool.false_ne_true];exact h
theorem Zd3{A B:Prop}(h:A):if true=true then A else B:=by
 rw [if_pos rfl];exact h
theorem Yo{c A B:Prop}[Decidable c](h1:c->A)(h2:¬c->B):if c then A else B:=by
 by_cases h:c
 ·rw [if_pos h];exact h1 h
 ·rw [if_neg h];exact h2 h
def Same(H H':Hp):Prop:=∀b o,H b=some o->H' b=some o
theorem Same.refl(H:Hp):Same H H:=fun _ _ h=>h
theorem Same.trans{H H1 H2:Hp}(a:Same H H1)(b:Same H1 H2):Same H H2:=fun c o h=>b c o (a c o h)
theorem Same.free{H H':Hp}(e:Same H H'){l:Addr}(h:H' l=Option.none):H l=Option.none:=by
 cases q:H l with
 | none=>rfl
 | some o =>
  rw [e l o q] at h;cases h
theorem Same.seq{K:Frag}{H H':Hp}{a:Addr}{xs:List V}(e:Same H H')(h:SqL K H a xs):SqL K H' a xs:=by
 rcases h with (h|⟨o,h⟩)|h
 ·exact .inl (.inl (e _ _ h))
 ·exact .inl (.inr ⟨o,e _ _ h⟩)
 ·exact .inr h
section
variable {κ:Type} [DecidableEq κ]
end
end L2
section
namespace L2
open PySem PySem.Spec PyProof.Rows
section
variable {prog:Program} {w:World} {A:Around} {R:Result->Shared->Prop} {s:Shared}
theorem Zal{J8 v5 k9:Expr}{E1:List Expr}{scope:Scope}{pos:Pos}{it P4:Value}{env:Env}(I:Nat->Shared->Prop)
  (D8:∀n s,I n s->wpAny (model prog w) A (pyNext it) (fun r s₁=>match r with
   | none=>R (.ok .next) s₁
   | some v=>wpAny (model prog w) A (letOwnedTupleGo v5 it v) (fun _ s₁'=>wpAny (model prog w) A (assign v5 env v) (fun _ s₂ =>
     wpAny (model prog w) A (forIn E1 true fun c r=>if r=true then do let ok <-isTrue c env (eval c env);pure (ForInStep.yield ok) else pure (ForInStep.yield r)) (fun ok s₃ =>
      if ok=true then wpAny (model prog w) A (eval J8 env) (fun x s₄ =>
       wpAny (model prog w) A (call (.builtin "list.append") [P4,x]) (fun _ s₅=>∃m,m<n/\I m s₅) (fun _ _=>False) s₄) (fun _ _=>False) s₃
      else ∃m,m<n/\I m s₃) (fun _ _=>False) s₂) (fun _ _=>False) s₁') (fun _ _=>False) s₁) (fun _ _=>False) s)
  (n:Nat) (h:I n s) :
  codeAny (model prog w) A (.compLoop (.ListComp J8 [⟨v5,k9,E1,0⟩] scope pos) 0 it P4 env) R s:=by
 refine codeAny_loop rfl I (fun n s hI=>?_) n h;show wpAny _ A ((compTurn (.ListComp J8 [⟨v5,k9,E1,0⟩] scope pos) 0 it P4 env).onRaise (fun x=>do noteFrame x env;theTreesLotGoes x)) _ _ s;refine wpAny_noted ?_;rw [compTurn_list];refine wpAny_bind (wpAny_standAt (wpAny_bind (wpAny_mono (D8 n s hI) (fun r s₁ h₁=>?_) fun _ _ h'=>h'.elim)));cases r with
 | none=>exact wpAny_pure h₁
 | some v =>
  refine wpAny_bind (wpAny_mono h₁ (fun _ s₁' h₁'=>?_) fun _ _ h'=>h'.elim);refine wpAny_bind (wpAny_mono h₁' (fun _ s₂ h₂=>wpAny_bind (wpAny_mono h₂ (fun ok s₃ h₃=>?_) fun _ _ h'=>h'.elim)) fun _ _ h'=>h'.elim);cases ok with
  | false=>exact wpAny_pure ⟨rfl,h₃⟩
  | true =>
   exact wpAny_bind (wpAny_bind (wpAny_mono h₃ (fun x s₄ h₄=>wpAny_bind (wpAny_mono h₄ (fun _ s₅ h₅=>wpAny_pure (wpAny_pure ⟨rfl,h₅⟩)) fun _ _ h'=>h'.elim)) fun _ _ h'=>h'.elim))
end
def Y5(X:Cx)(scope:Scope)(cl:List (Str×Addr))(N':List Str)(s:Shared)(H:Hp)(C:Addr)(ex:List Addr):Cx where
 prog:=X.prog
 w:=X.w
 K:=X.K
 mg:=X.mg
 base:=X.base
 A:=X.A
 N:=N'
 s₀:=s
 H₀:=H
 env:=compEnvC scope cl C X.env
 outer:=X.stack
 stack:=X.stack
 ex:=ex
 fn:=fun _=>false
 calm:=X.calm
 pn:=[]
 xe:=fun _ _=>False
structure Ya(X:Cx)(scope:Scope)(cl:List (Str×Addr))(N':List Str)(fr:St->St):Prop where
 kind:scope.kind=.function
 cell:∀y∈scope.names,y.2 ≠ .cell
 names:∀y∈scope.names,y.2=.local->scope.names.lookup y.1=some .local
 clos:closureFor scope X.env=pure cl
 sub:∀x c,cl.lookup x=some c->X.env.cells.lookup x=some c
 has:∀x,((relabel scope X.env).names.lookup x=some .cell\/(relabel scope X.env).names.lookup x=some .free)->∃c,cl.lookup x=some c
 len:∀σ:St,σ.length=X.N.length->(fr σ).length=N'.length
 fr:∀(σ:St) (i:Nat) (x:Str) (v:V),N'[i]? =some x->(fr σ)[i]? =some (some v)->Vis (relabel scope X.env) x ->
  ((relabel scope X.env).names.lookup x=some .cell\/(relabel scope X.env).names.lookup x=some .free) /\
  (X.env.kindOf x=some .cell\/X.env.kindOf x=some .free)/\∃j:Nat,X.N[j]? =some x/\σ[j]? =some (some v)
def Zat(a b:St):Prop:=∀(i:Nat) (v:V),a[i]? =some (some v)->b[i]? =some (some v)
theorem Zat.set{a:St}{i:Nat}{v:V}(h:a[i]? =some none):Zat a (a.set i (some v)):=fun j u e=>by
 by_cases hj:i=j
 ·subst hj;rw [h] at e;cases e
 ·rw [List.getElem?_set_ne hj];exact e
theorem Zat.trans{a b c:St}(h:Zat a b)(k:Zat b c):Zat a c:=fun i v e=>k i v (h i v e)
def PF(X:Cx)(E1:List Expr)(t:TT):Prop :=
 ∀(a7:List (Addr×Obj)) (s:Shared) (σ:St) (H:Hp) (Q:Bool->Hp->Prop),Inv X a7 σ H s->t σ H Q ->
  wpAny (model X.prog X.w) X.A (forIn E1 true fun c r=>if r=true then do let ok <-isTrue c X.env (eval c X.env);pure (ForInStep.yield ok) else pure (ForInStep.yield r)) (TP X a7 σ Q) X.xe s
def Zy2:TT:=fun _ H Q=>Q true H
theorem Zda{X:Cx}:PF X [] Zy2:=fun _ _ _ H _ I h=>wpAny_tests_nil ⟨H,I,h⟩
theorem Zd4{X:Cx}{c:Expr}{t:TT}(h:PT X c t):PF X [c] t:=fun a7 s σ H Q I hq=>wpAny_tests_one (h a7 s σ H Q I hq)
def Zfd(J:It)(fr:St->St)(g:TG)(tf:TT)(te:TE)(Q:VK)(σ:St)(H1:Hp)(D:Addr):Prop :=
 ∃W:Nat->Nat->List V->Hp->Prop,(∃m,W 0 m [] (upd H1 D (.lst [])))/\∀i m ys H,W i m ys H ->
  (J.stop i H/\Q (.ref D) H)\/(J.go i H/\∃N:List V->Hp->Prop,(∀ys' H',N ys' H'->∃m',m'<m/\W (i+1) m' ys' H') /\
   ∀x H',J.yld i H x H'->g x (fr σ) H' fun σ2 H2=>Zat (fr σ) σ2/\tf σ2 H2 fun b H3 =>
    if b=true then te σ2 H3 fun y H4=>H4 D=some (.lst ys)/\ys.length<sizeLine/\N (ys++[y]) (upd H4 D (.lst (ys++[y]))) else N ys H3)
def Zv6(wi:TI)(fr:St->St)(g:TG)(tf:TT)(te:TE):TE:=fun σ H Q=>wi σ H fun J H1=>∀D,H1 D=none->Zfd J fr g tf te Q σ H1 D
section
variable {X:Cx} {a7:List (Addr×Obj)} {σ:St} {H:Hp} {s:Shared} {scope:Scope} {cl:List (Str×Addr)} {N':List Str} {fr:St->St} {C:Addr} {fp:List Addr}
theorem Zuk(I:Inv X a7 σ H s)(S:Ya X scope cl N' fr)(hC:s.heap.objs.size<=C)(hf:∀b∈fp,Zhy X a7 H b)(ho:∀b∈fp,∃o,s.heap.get? b=some o):(Y5 X scope cl N' s H C fp).Ok where
 mod:=I.ok.mod
 kind:=S.kind
 glob:=I.ok.glob
 blt:=I.ok.blt
 above:=hC
 inj:=fun x y c h1 h2=>I.ok.inj x y c (S.sub x c h1) (S.sub y c h2)
 has:=fun x h=>S.has x h
 cab:=fun x c h=>absurd (show false=true from h) Bool.false_ne_true
 hd:=I.ok.hd
 frames:=I.ok.frames
 stk:=.inl rfl
 exf:=fun b hb=>by
  obtain ⟨o,e⟩:=ho b hb;refine ⟨Nat.ne_of_lt (Nat.lt_of_lt_of_le (Heap.lt_size e) hC),fun x c h=>(hf b hb).2.2.2.2.1 x c (S.sub x c h)⟩
 bs:=I.bs
 bsz:=Nat.le_trans I.ok.bsz I.sz
 noex:=fun b o e hb=>by
  rcases (hf b hb).2.2.2.1 with z|z
  ·exact I.ok.noex b o e z
  ·exact absurd (Nat.lt_of_lt_of_le (Heap.lt_size e) (Nat.le_trans I.ok.bsz z)) (Nat.lt_irrefl _)
 exfs:=fun b hb z=>by
  rcases List.mem_cons.mp (I.stkSub b z) with q|q
  ·exact (hf b hb).2.1 q
  ·exact (hf b hb).2.2.1 q
 funs:=I.stack
 frf:=I.stkFree
theorem Zjc{h₁:Heap}{m₁:Str->Option Value}{tk:Nat}{D:Addr}(I:Inv X a7 σ H s)(S:Ya X scope cl N' fr)(hC:s.heap.objs.size<C)(hD:D=s.heap.objs.size)(hf:∀b∈fp,Zhy X a7 H b)(ho:∀b∈fp,∃o,s.heap.get? b=some o)
  (u5:∀b o,s.heap.get? b=some o->h₁.get? b=some o) (hl:h₁.get? D=some { cls:=.type "list",data:=.seq ([]:List Value).toArray 0 }) (hn:h₁.Ns C m₁) (hCz:h₁.objs.size<=C+1) :
  Inv (Y5 X scope cl N' s H C fp) [] (fr σ) (upd H D (.lst [])) { s with heap:=h₁,toks:=tk }:=by
 have fD:H D=none:=I.hok.fresh (Nat.le_of_eq hD.symm);have fC:H C=none:=I.hok.fresh (Nat.le_of_lt hC);have hDC:D≠C:=by rw [hD];exact Nat.ne_of_lt hC
 refine ⟨Zuk I S (Nat.le_of_lt hC) hf ho,rfl,I.bare,Un.laid u5 (Nat.le_of_eq hD.symm) fD,⟨m₁,hn,fun i x v e1 e2 e3=>?_⟩,fun x c e=>?_,?_,fun x c e=>?_,fun p hp=>absurd (show p∈([]:List (Addr×Obj)) from hp) (by simp),?_,S.len σ I.len⟩
 ·obtain ⟨k1,k2,j,j1,j2⟩:=S.fr σ i x v e1 e2 e3;obtain ⟨c,hc⟩:=S.has x k1;have Q7:=S.sub x c hc;obtain ⟨m,_,G0⟩:=I.loc;obtain ⟨u,r,l⟩:=G0 j x v j1 j2 (by rcases k2 with k|k;exact .inr (.inl k);exact .inr (.inr k));refine ⟨u,r,.inr ⟨k1,c,hc,?_⟩⟩;rcases l with ⟨k,_⟩|⟨_,c2,hc2,o,z,d⟩
  ·rcases k2 with q|q <;>(rw [k] at q;cases q)
  ·rw [Q7] at hc2;cases hc2;exact ⟨o,u5 _ _ z,d⟩
 ·obtain ⟨v,o,z,d⟩:=I.cell x c (S.sub x c e);exact ⟨v,o,u5 _ _ z,d⟩
 ·show upd H D (.lst []) C=none;rw [Zd hDC.symm];exact fC
 ·show upd H D (.lst []) c=none;rw [Zd (fun z=>?_)]
  ·exact I.freeC x c (S.sub x c e)
  ·obtain ⟨v,o,q,d⟩:=I.cell x c (S.sub x c e);have:=Heap.lt_size q;rw [z,hD] at this;exact Nat.lt_irrefl _ this
 ·exact I.hok.laid u5 (Nat.le_of_eq hD.symm) ⟨Nat.zero_le _,[],0,.nil,hl⟩
theorem Zoa{H':Hp}{s2:Shared}{h':Heap}(I:Inv X a7 σ H s)(hC:s.heap.objs.size<C)(hf:∀b∈fp,Zhy X a7 H b)(J:Inv (Y5 X scope cl N' s H C fp) [] (fr σ) H' s2)(hs:Heap.SameBut C s2.heap h') :
  Inv X a7 σ H' { s2 with heap:=h' }:=by
 have fC:H' C=none:=J.free;have u:Un (frs X.stack) fp H H' s.heap s2.heap:=J.base;have ne:∀b o,s.heap.get? b=some o->b≠C:=fun b o e=>Nat.ne_of_lt (Nat.lt_trans (Heap.lt_size e) hC)
 have u2:Un (frs X.stack) fp H H' s.heap h':=by
  refine ⟨fun b o e n hb hx=>?_,fun b o e n hb hx=>?_,u.free,fun b o e hx=>?_,u.tups,u.frzs,u.tbls⟩
  ·rw [hs.2 b (ne b o e)];exact u.keep b o e n hb hx
  ·obtain ⟨sl,q⟩:=u.slot b o e n hb hx;exact ⟨sl,by rw [hs.2 b (ne b o e)];exact q⟩
  ·obtain ⟨o',q⟩:=u.there b o e hx;exact ⟨o',by rw [hs.2 b (ne b o e)];exact q⟩
 have hok:HOk X.prog X.w H' h':=fun b o e=>by
  refine (J.hok b o e).stay (fun c v hc q=>?_) (fun _ q=>q) fun _ _ q=>q
  have nc:c≠C:=by
   rintro rfl;rcases hc with z|z
   ·rw [<-z,fC] at e;cases e
   ·rw [fC] at z;cases z
  rw [hs.2 c nc];exact q
 refine I.call' (s':={ s2 with heap:=h' }) (ch:=fp) J.os u2 hok J.bare fun b hb=>?_
 obtain ⟨_,f1,f2,f3,f4,f5⟩:=hf b hb;exact ⟨f3,f1,f4,f5⟩
end
theorem Wt{X:Cx}{J8 tg k9:Expr}{E1:List Expr}{scope:Scope}{pos:Pos}{cl:List (Str×Addr)}{N':List Str}{fr:St->St}{wi:TI}{g:TG}{tf:TT}{te:TE}
  (hc:X.calm=true) (S:Ya X scope cl N' fr) (hi:PI X tg k9 wi) (hg:∀s H C ex,PG (Y5 X scope cl N' s H C ex) tg g) (hf:∀s H C ex,PF (Y5 X scope cl N' s H C ex) E1 tf)
  (he:∀s H C ex,PE (Y5 X scope cl N' s H C ex) J8 te) (hs:∀x,foldedSetIterable k9 X.env x=pure x:=by intro _;rfl):PE X (.ListComp J8 [⟨tg,k9,E1,0⟩] scope pos) (Zv6 wi fr g tf te):=by
 intro a7 s σ H Q I h;rw [eval_ListComp];refine wpAny_comprehension_free (use:=none) rfl hs S.clos S.kind S.names (thn (hi a7 s σ H _ I h) fun v s1 h1=>thn h1 fun itv s2 h2=>?_);obtain ⟨it,fp,tn,J,H2,e,I2,T,st2,f2,q⟩:=h2;subst e;refine wpAny_newObj_type (wpAny_newFunctionEnv S.cell (by intro y hy;simp at hy) (fun h₁ D6 z6=>?_) S.kind);dsimp only at D6 z6 ⊢;generalize hP:s2.heap.push { cls:=.type "list",dict:=none,data:=.seq ([]:List Value).toArray }=P at D6 z6 ⊢;have hPz:P.objs.size=s2.heap.objs.size+1:=by rw [<-hP,Heap.size_push]
 have P8:s2.heap.objs.size<P.objs.size:=by rw [hPz];exact Nat.lt_succ_self _
 have R6:∀b∈fp,∃o,s2.heap.get? b=some o:=fun b hb=>let ⟨o,e,_⟩:=T.obj _ _ st2 b hb;⟨o,e⟩
 have C7:∀b,b<s2.heap.objs.size->b≠P.objs.size:=fun b hb=>Nat.ne_of_lt (Nat.lt_trans hb P8)
 have u5:∀b o,s2.heap.get? b=some o->h₁.get? b=some o:=fun b o e=>z6.extBut b o (C7 b (Heap.lt_size e)) (Heap.get?_push_of_some _ (hP ▸ Heap.get?_push_of_some _ e))
 have B8:h₁.get? s2.heap.objs.size=some { cls:=.type "list",data:=.seq ([]:List Value).toArray 0 }:=z6.extBut _ _ (Nat.ne_of_lt P8) (Heap.get?_push_of_some _ (hP ▸ Heap.get?_push_size _ rfl));have fD:H2 s2.heap.objs.size=none:=I2.hok.fresh (Nat.le_refl _);obtain ⟨W,⟨m0,w0⟩,D8⟩:=q s2.heap.objs.size fD;have hz:h₁.objs.size<=P.objs.size+1:=by
  have e:=z6.1;rw [Heap.size_push] at e;exact Nat.le_of_eq e
 have st1:tn 0 h₁:=T.keep _ _ _ st2 fun b hb o e=>u5 b o e
 have z7:∀{j7:List (Addr×Obj)} {H':Hp},(∀p∈j7,p.1∉fp)->(∀b∈fp,H' b=none)->∀b∈fp,Zhy (Y5 X scope cl N' s2 H2 P.objs.size fp) j7 H' b:=fun {j7 H'} hp hn b hb=>by
  obtain ⟨o,e⟩:=R6 b hb;obtain ⟨_,f1,f2',f3,f4,f5⟩:=f2 b hb;refine ⟨hn b hb,C7 b (Heap.lt_size e),fun z=>?_,.inl hb,fun x c h=>f4 x c (S.sub x c h),fun p hp' z=>?_⟩
  ·rcases List.mem_cons.mp (I2.stkSub b z) with q|q
   ·exact f1 q
   ·exact f2' q
  ·have hp2:p∈j7:=by simpa [Y5] using hp'
   exact hp p hp2 (by rw [z];exact hb)
 have loop:∀s3:Shared,s3={ s2 with heap:=h₁,toks:=s2.toks+([]:List (Str×Value)).length } ->
   codeAny (model X.prog X.w) X.A (.compLoop (.ListComp J8 [⟨tg,k9,E1,0⟩] scope pos) 0 (.ref it) (.ref s2.heap.objs.size) (compEnvC scope cl P.objs.size X.env)) (compPost (model X.prog X.w) X.A X.xe none (EP X a7 σ Q) (.ref s2.heap.objs.size) P.objs.size) s3:=by
  rintro s3 rfl;have I3:Inv (Y5 X scope cl N' s2 H2 P.objs.size fp) [] (fr σ) (upd H2 s2.heap.objs.size (.lst [])) { s2 with heap:=h₁,toks:=s2.toks+([]:List (Str×Value)).length }:=Zjc I2 S P8 rfl f2 R6 u5 B8 D6 hz;refine Zal (fun n s'=>∃i ys H',Inv (Y5 X scope cl N' s2 H2 P.objs.size fp) [] (fr σ) H' s'/\tn i s'.heap/\(∀b∈fp,H' b=none)/\W i n ys H') ?_ m0 ⟨0,[],_,I3,st1,fun b hb=>?_,w0⟩
  ·rintro n s3 ⟨i,ys,H3,I3,U3,U4,w3⟩;rcases D8 i n ys H3 w3 with ⟨stop,qn⟩|⟨go,N,hN,step⟩
   ·refine thn (T.done (Y5 X scope cl N' s2 H2 P.objs.size fp) rfl rfl rfl hc i [] s3 (fr σ) H3 _ I3 (z7 (by simp) U4) U3 stop) fun r s4 ⟨hr,I4⟩=>?_
    subst hr;obtain ⟨m4,hn4,_⟩:=I4.loc;exact ⟨m4,hn4,fun h' K8=>⟨.ref s2.heap.objs.size,H3,Zoa I2 P8 f2 I4 K8,rfl,qn⟩⟩
   ·refine thn (T.item (Y5 X scope cl N' s2 H2 P.objs.size fp) rfl rfl rfl hc i [] s3 (fr σ) H3 _ I3 (z7 (by simp) U4) U3 go) fun r s4 ⟨u,hr,h4⟩=>?_
    subst hr;refine thn h4 fun _ s5 ⟨x,H5,I5,r5,y5,M2,fr5⟩=>?_
    have I5':=I5.pinned (z7 (by simp) fr5) (T.obj _ _ M2);refine thn (hg s2 H2 P.objs.size fp _ s5 (fr σ) H5 x u _ I5' r5 (step x H5 y5)) fun _ s6 ⟨σ6,H6,I6,kp,q6⟩=>?_
    refine thn (hf s2 H2 P.objs.size fp _ s6 σ6 H6 _ I6 q6) fun ok s7 ⟨H7,I7,q7⟩=>?_
    have w5:∀{σ8:St} {H8:Hp} {s8:Shared} {T6:List V},Zat (fr σ) σ8->Inv (Y5 X scope cl N' s2 H2 P.objs.size fp) ([]++Zg4 fp s5.heap) σ8 H8 s8->N T6 H8 ->
      ∃m,m<n/\∃i ys H',Inv (Y5 X scope cl N' s2 H2 P.objs.size fp) [] (fr σ) H' s8/\tn i s8.heap/\(∀b∈fp,H' b=none)/\W i m ys H':=fun {σ8 H8 s8 T6} kp8 I8 n8=>by
     obtain ⟨m',hm,w8⟩:=hN T6 H8 n8;refine ⟨m',hm,i+1,T6,H8,(I8.unpinned).weak (by rw [I8.len];exact S.len σ I2.len) kp8,T.keep _ _ _ M2 fun b hb o e=>(I8.pin (b,o) (List.mem_append_right _ (List.mem_append_right _ (W7 hb e)))).1,fun b hb=>?_,w8⟩;obtain ⟨o,e,d⟩:=T.obj _ _ M2 b hb;exact (I8.pin (b,o) (List.mem_append_right _ (List.mem_append_right _ (W7 hb e)))).2.1
    cases ok with
    | false=>exact w5 kp I7 q7
    | true =>
     refine thn (he s2 H2 P.objs.size fp _ s7 σ6 H7 _ I7 q7) fun uy s8 ⟨y,H8,I8,r8,T8,hz8,q8⟩=>?_
     exact thn (Xs _ s8 σ6 H8 (.ref s2.heap.objs.size) [y] (.ref s2.heap.objs.size) [uy] (fun _ H9=>N (ys++[y]) H9) I8 rfl (.cons r8 .nil) ⟨_,ys,y,rfl,rfl,T8,hz8,q8⟩) fun _ s9 ⟨v9,H9,I9,_,q9⟩=>w5 kp I9 q9
  ·show upd H2 s2.heap.objs.size (.lst []) b=none;obtain ⟨o,e⟩:=R6 b hb;rw [Zd (Nat.ne_of_lt (Heap.lt_size e))];exact (f2 b hb).1
 exact codeAny_compStart_list (loop _ rfl) (T.self X.A 0 _ _ _ st1 (loop _ rfl))
section
variable {K:Frag} {a:Addr} {fr:St->St} {g:TG} {tf:TT} {te:TE} {Q:VK} {σ:St} {H1:Hp} {D:Addr}
def Zco(fr:St->St)(g:TG)(tf:TT)(te:TE)(σ:St)(D:Addr)(x:V)(ys:List V)(H:Hp)(N:List V->Hp->Prop):Prop :=
 g x (fr σ) H fun σ2 H2=>Zat (fr σ) σ2/\tf σ2 H2 fun b H3=>if b=true then te σ2 H3 fun y H4=>H4 D=some (.lst ys)/\ys.length<sizeLine/\N (ys++[y]) (upd H4 D (.lst (ys++[y]))) else N ys H3
theorem Wb{xs:List V}(Pv:Nat->List V->Hp->Prop)(h0:Pv 0 [] (upd H1 D (.lst [])))(hl:∀i ys H,i<=xs.length->Pv i ys H->SqL K H a xs)
  (hs:∀i x ys H,xs[i]? =some x->Pv i ys H->Zco fr g tf te σ D x ys H (Pv (i+1))) (hd:∀ys H,Pv xs.length ys H->Q (.ref D) H):Zfd (Itl K a) fr g tf te Q σ H1 D:=by
 refine ⟨fun i m ys H=>m=xs.length-i/\i<=xs.length/\Pv i ys H,⟨xs.length,by simp,Nat.zero_le _,h0⟩,?_⟩;rintro i m ys H ⟨rfl,hi,p⟩;have q:=hl i ys H hi p
 by_cases d5:i<xs.length
 ·refine .inr ⟨⟨xs,xs[i],q,by simp [d5]⟩,Pv (i+1),fun ys' H' p'=>⟨xs.length-(i+1),by lia,rfl,d5,p'⟩,fun x H' y=>?_⟩;obtain ⟨e,y⟩:=y;subst e;exact hs i x ys _ (y xs q) p
 ·have e:i=xs.length:=by lia
  subst e;exact .inl ⟨⟨xs,q,Nat.le_refl _⟩,hd ys H p⟩
theorem Zpc{lo:Int}{n:Nat}(Pv:Nat->List V->Hp->Prop)(h0:Pv 0 [] (upd H1 D (.lst [])))
  (hs:∀i ys H,i<n->Pv i ys H->Zco fr g tf te σ D (.int (lo+i)) ys H (Pv (i+1))) (hd:∀ys H,Pv n ys H->Q (.ref D) H):Zfd (Itr lo n) fr g tf te Q σ H1 D:=by
 refine ⟨fun i m ys H=>m=n-i/\i<=n/\Pv i ys H,⟨n,by simp,Nat.zero_le _,h0⟩,?_⟩;rintro i m ys H ⟨rfl,hi,p⟩
 by_cases d5:i<n
 ·refine .inr ⟨d5,Pv (i+1),fun ys' H' p'=>⟨n-(i+1),by lia,rfl,d5,p'⟩,fun x H' y=>?_⟩;obtain ⟨e,y⟩:=y;subst e y;exact hs i ys _ d5 p
 ·have e:i=n:=by lia
  subst e;exact .inl ⟨Nat.le_refl _,hd ys H p⟩
def Its(x:Str):It:=⟨fun i _=>i<x.cps.size,fun i H v H'=>H'=H/\∃c,x.cps[i]? =some c/\v=.str ⟨#[c]⟩,fun i _=>x.cps.size<=i⟩
theorem Ztw{x:Str}(Pv:Nat->List V->Hp->Prop)(h0:Pv 0 [] (upd H1 D (.lst [])))
  (hs:∀i c ys H,x.cps[i]? =some c->Pv i ys H->Zco fr g tf te σ D (.str ⟨#[c]⟩) ys H (Pv (i+1))) (hd:∀ys H,Pv x.cps.size ys H->Q (.ref D) H):Zfd (Its x) fr g tf te Q σ H1 D:=by
 refine ⟨fun i m ys H=>m=x.cps.size-i/\i<=x.cps.size/\Pv i ys H,⟨x.cps.size,by simp,Nat.zero_le _,h0⟩,?_⟩;rintro i m ys H ⟨rfl,hi,p⟩
 by_cases d5:i<x.cps.size
 ·refine .inr ⟨d5,Pv (i+1),fun ys' H' p'=>⟨x.cps.size-(i+1),by lia,rfl,d5,p'⟩,fun v H' y=>?_⟩;obtain ⟨e,c,hc,ev⟩:=y;subst e ev;exact hs i c ys _ hc p
 ·have e:i=x.cps.size:=by lia
  subst e;exact .inl ⟨Nat.le_refl _,hd ys H p⟩
end
theorem Zoo{P:Program}{w:World}{K:Frag}{tg:Expr}(it:Addr)(x:Str)(t:Tok):Zlz P w K tg (Its x) [it] it (fun i h=>h.IsStrIter it "str_ascii_iterator" x t i) where
 mem:=by simp
 obj:=fun i h st b hb=>by
  have e:b=it:=by simpa using hb
  subst e;obtain ⟨o,e,c,d⟩:=st;exact ⟨o,e,fun v z=>by rw [d] at z;cases z⟩
 keep:=fun i h h' st k=>by
  obtain ⟨o,e,r⟩:=st;exact ⟨o,k it (by simp) o e,r⟩
 item:=by
  intro X hP hw hK hc i a7 s σ H E I hf st hg;subst hP hw hK;obtain ⟨f0,f1,f2,f3,f4,f5⟩:=hf it (by simp);have d5:i<x.cps.size:=hg;refine wpAny_pyNext_ascii_item st (c:=x.cps[i]) (by simp [d5]) fun h' A7 sb=>?_
  have I1:Inv X a7 σ H { s with heap:=h',toks:=s.toks+1 }:=I.turned (fun b o hb e=>(sb.2 b hb).trans e) f0 f1 f3 f4 f5;obtain ⟨o,e,c,d⟩:=id A7;exact ⟨_,rfl,Zlq (s:={ s with heap:=h',toks:=s.toks+1 }) e c d (by decide) ⟨.str ⟨#[x.cps[i]]⟩,H,I1,⟨_,rfl⟩,⟨rfl,_,by simp [d5],rfl⟩,A7,fun b hb=>(hf b hb).1⟩⟩
 done:=by
  intro X hP hw hK hc i a7 s σ H E I hf st hg;subst hP hw hK;obtain ⟨f0,f1,f2,f3,f4,f5⟩:=hf it (by simp);have B9:x.cps.size<=i:=hg;exact wpAny_pyNext_ascii_end (I.ok.hd hc) st (by simp [B9]) fun h' eb=>⟨rfl,I.turned (t':=s.toks) (fun b o hb e=>eb b o hb e) f0 f1 f3 f4 f5⟩
 self:=fun _ _ _ _ _ st h=>wpAny_pyIter_striter_ascii st h
def Yay(tl:TE):TI:=fun σ H R=>tl σ H fun v H1=>∃x,v=.str x/\x.cps.all (· < 128)=true/\R (Its x) H1
theorem Zyh{X:Cx}{tg l:Expr}{tl:TE}(hl:PE X l tl):PI X tg l (Yay tl):=by
 intro a7 s σ H R I h;refine thn (hl a7 s σ H _ I h) fun v s1 ⟨y,H1,I1,r1,q1⟩=>?_
 obtain ⟨x,e,ha,q⟩:=q1;subst e;obtain ⟨t,rfl⟩:=r1;refine wpAny_pyIter_ascii ha ?_;refine ⟨s1.heap.objs.size,[s1.heap.objs.size],_,_,H1,rfl,I1.kept (t':=s1.toks) fun b o e=>Heap.get?_push_of_some _ e,Zoo _ x t,⟨_,Heap.get?_push_size _ rfl,rfl,rfl⟩,fun b hb=>?_,q⟩;have e:b=s1.heap.objs.size:=by simpa using hb
 subst e;exact I1.fpOk (Nat.le_refl _) (I1.hok.fresh (Nat.le_refl _))
theorem Z5.at_bool:∀{bs:List Bool} {us:List Value} {i:Nat} {u:Value},Z5 (bs.map V.bl) us->us[i]? =some u->∃b,bs[i]? =some b/\u=.bool b
 | [],_,_,_,.nil,e=>by simp at e
 | b ::bs,_,0,u,.cons r _,e=>by
  simp at e;subst e;exact ⟨b,rfl,r⟩
 | b ::bs,_,i+1,u,.cons _ t,e=>by
  obtain ⟨c,h1,h2⟩:=Z5.at_bool (i:=i) t (by simpa using e);exact ⟨c,by simpa using h1,h2⟩
theorem Zqp(bs:List Bool):(List.range bs.length).all (fun i=>bs.getD i false)=bs.all id:=by
 have e:(List.range bs.length).map (fun i=>bs.getD i false)=bs:=by
  apply List.ext_getElem
  ·simp
  ·intro i h1 h2;simp at h1;simp [h1]
 calc (List.range bs.length).all (fun i=>bs.getD i false)=((List.range bs.length).map (fun i=>bs.getD i false)).all id:=by rw [List.all_map];rfl
  _=bs.all id:=by rw [e]
theorem Zi0{X:Cx}(hc:X.calm=true):Xe X (.builtin "all") (fun xs H Q=>∃(p:Addr) (bs:List Bool),xs=[.ref p]/\SqL X.K H p (bs.map V.bl)/\Q (.bl (bs.all id)) H):=by
 intro a7 s σ H xs us Q I r h;obtain ⟨p,bs,rfl,hq,q⟩:=h;obtain ⟨u,rfl,ru⟩:=Za0 r;cases ru;obtain ⟨a8,rv,pl,hz⟩:=I.list hq;have d5:p<s.heap.objs.size:=by obtain ⟨_,_,e,_⟩:=pl;exact Heap.lt_size e
 refine call_all_walk (wpAny_pyIter_list pl.isList ?_);refine ⟨s.heap.objs.size,_,_,a8.toArray.size,_,_,fun i=>bs.getD i false,rfl,Walks.list (A:=X.A.in1) (show X.A.in1.handled=none from I.ok.hd hc) s.heap.objs.size p (Nat.ne_of_lt d5) a8.toArray,⟨⟨_,Heap.get?_push_size _ rfl,rfl,rfl⟩,pl.isList.push _⟩,?_,fun h' tk k=>?_⟩
 ·intro i v s' Q' E' hv hQ;obtain ⟨b,hb,rfl⟩:=Z5.at_bool (i:=i) rv (by simpa using hv);refine wpAny_truthy_bool ?_;have e:bs.getD i false=b:=by rw [List.getD_eq_getElem?_getD,hb];rfl
  have hQ':Q' (bs.getD i false) s':=hQ;rw [e] at hQ';exact hQ'
 ·have hl:=rv.length;rw [List.length_map] at hl;refine ⟨.bl (bs.all id),H,?_,?_,q⟩
  ·refine I.kept (t':=tk) fun b o e=>k b o ?_ (Heap.get?_push_of_some _ e)
   have:=Heap.lt_size e;intro z;have z':b=s.heap.objs.size:=by simpa using z
   rw [z'] at this;exact Nat.lt_irrefl _ this
  ·show Value.bool ((List.range a8.toArray.size).all fun i=>bs.getD i false)=Value.bool (bs.all id);rw [List.size_toArray,<-hl,Zqp]
theorem Znt{X:Cx}:Xe X (.builtin "isinstance") (fun xs H Q=>∃x c b t,xs=[x,c]/\Xo X.K H x t/\((∃n,c=.ty n/\kitOne X.K t (.type n)=some b)\/∃a,c=.ref a/\kitOne X.K t (.ref a)=some b)/\Q (.bl b) H):=by
 intro a7 s σ H xs us Q I r h;obtain ⟨x,c,b,t,rfl,ty,k,q⟩:=h;obtain ⟨u,w',rfl,rx,A8⟩:=Zk6 r;rcases k with ⟨n,rfl,k⟩|⟨a,rfl,k⟩
 ·cases A8;exact Zk1 I rx ty k fun tk=>⟨.bl b,H,I.tok tk,rfl,q⟩
 ·cases A8;exact Zk1 I rx ty k fun tk=>⟨.bl b,H,I.tok tk,rfl,q⟩
def Zzw:V->Option Int->Option Int->Hp->VK->Prop:=fun x lo hi H Q=>∃z,x=.str z/\z.length<=sizeLine/\Q (.str (Txt.slice z lo hi)) H
theorem Zxb{X:Cx}:SlR X Zzw:=by
 intro a7 s σ H x v vl vu lo hi sl Q I rx hs pl pu h;obtain ⟨z,rfl,hz,q⟩:=h;obtain ⟨t,rfl⟩:=rx;refine ⟨"str",_,F.slot_str_getitem.lookup,typeIs_str _ _ _,?_⟩;obtain ⟨o,ho,hc,hd⟩:=hs;cases pl with
 | none =>
  cases pu with
  | none=>exact wpAny_getItem_str_slice (l:=none) (u:=none) (st:=none) ⟨o,ho,hc,hd⟩ rfl (post_val_or_str ⟨Nat.le_trans (Txt.slice_le z none none) hz,fun t' k=>⟨.str (Txt.slice z none none),H,I.tok k,⟨t',rfl⟩,q⟩⟩)
  | int j tj=>exact wpAny_getItem_str_slice (l:=none) (u:=some (j,tj)) (st:=none) ⟨o,ho,hc,hd⟩ rfl (post_val_or_str ⟨Nat.le_trans (Txt.slice_le z none (some j)) hz,fun t' k=>⟨.str (Txt.slice z none (some j)),H,I.tok k,⟨t',rfl⟩,q⟩⟩)
 | int i ti =>
  cases pu with
  | none=>exact wpAny_getItem_str_slice (l:=some (i,ti)) (u:=none) (st:=none) ⟨o,ho,hc,hd⟩ rfl (post_val_or_str ⟨Nat.le_trans (Txt.slice_le z (some i) none) hz,fun t' k=>⟨.str (Txt.slice z (some i) none),H,I.tok k,⟨t',rfl⟩,q⟩⟩)
  | int j tj=>exact wpAny_getItem_str_slice (l:=some (i,ti)) (u:=some (j,tj)) (st:=none) ⟨o,ho,hc,hd⟩ rfl (post_val_or_str ⟨Nat.le_trans (Txt.slice_le z (some i) (some j)) hz,fun t' k=>⟨.str (Txt.slice z (some i) (some j)),H,I.tok k,⟨t',rfl⟩,q⟩⟩)
end L2
namespace L2
open PySem PySem.Spec PyProof.Rows
def Zy0(M:St->Hp->St->Hp->Prop)(t:TS):TS:=fun D σ H=>t { D with nx:=M σ H } σ H/\∀σ' H',M σ H σ' H'->D.nx σ' H'
theorem Zx5{X:Cx}{st:Stmt}{t:TS}(M:St->Hp->St->Hp->Prop)(h:PS X st t):PS X st (Zy0 M t):=by
 intro a7 s σ H D I hq;refine thn (h a7 s σ H { D with nx:=M σ H } I hq.1) fun f s' q=>?_
 cases f with
 | next=>obtain ⟨σ',H',I',m⟩:=q;exact ⟨σ',H',I',hq.2 σ' H' m⟩
 | brk=>exact q
 | cont=>exact q
 | ret u=>exact q
end L2
namespace L2
open PySem PySem.Spec PyProof.Rows
def Zrz:Expr->Bool
 | .Starred .. =>false
 | _=>true
theorem Zqz{e:Expr}{es:List Expr}{env:Env}(h:Zrz e=true):starEach (e ::es) env=(false,eval e env) ::starEach es env:=by
 cases e <;>first
  | rfl
  | exact absurd h Bool.false_ne_true
theorem Zb{X:Cx}{e:Expr}{es:List Expr}{te:TE}{t:TA}(ha:PE X e te)(hr:PA X es t)(h:Zrz e=true:=by rfl):PA X (e ::es) (Zjr te t):=Zvl ha hr (Zqz h)
end L2
namespace L2
open PySem PySem.Spec PyProof.Rows
structure WSs(X:Cx)(b:List Stmt)(D:Zc1)(σ:St)(H:Hp):Prop where
 run:∀(a7:List (Addr×Obj)) (s:Shared),Inv X a7 σ H s->wpAny (model X.prog X.w) X.A (execs b X.env) (SP X a7 D) X.xe s
structure WS(X:Cx)(st:Stmt)(D:Zc1)(σ:St)(H:Hp):Prop where
 run:∀(a7:List (Addr×Obj)) (s:Shared),Inv X a7 σ H s->wpAny (model X.prog X.w) X.A (exec st X.env) (SP X a7 D) X.xe s
structure WE(X:Cx)(e:Expr)(σ:St)(H:Hp)(Q:VK):Prop where
 run:∀(a7:List (Addr×Obj)) (s:Shared),Inv X a7 σ H s->wpAny (model X.prog X.w) X.A (eval e X.env) (EP X a7 σ Q) X.xe s
section
variable {X:Cx} {b Z3:List Stmt} {st:Stmt} {e:Expr} {D:Zc1} {σ:St} {H:Hp} {t:TS} {te:TE} {Q:VK}
theorem Zr:PSs X b (WSs X b):=fun a7 s _ _ _ I h=>h.run a7 s I
theorem Yad:PS X st (WS X st):=fun a7 s _ _ _ I h=>h.run a7 s I
theorem Zvd:PE X e (WE X e):=fun a7 s _ _ _ I h=>h.run a7 s I
theorem WSs.of(h:PSs X b t)(q:t D σ H):WSs X b D σ H:=⟨fun a7 s I=>h a7 s σ H D I q⟩
theorem WS.of(h:PS X st t)(q:t D σ H):WS X st D σ H:=⟨fun a7 s I=>h a7 s σ H D I q⟩
theorem WE.of(h:PE X e te)(q:te σ H Q):WE X e σ H Q:=⟨fun a7 s I=>h a7 s σ H Q I q⟩
theorem WSs.step(h:PS X st t)(q:t { D with nx:=WSs X Z3 D } σ H):WSs X (st ::Z3) D σ H:=WSs.of (Ztb h Zr) q
theorem WSs.last(h:PS X st t)(q:t D σ H):WSs X [st] D σ H:=WSs.of (Zu9 h) q
theorem WSs.cut(M:St->Hp->Prop)(h:WS X st { D with nx:=M } σ H)(k:∀σ' H',M σ' H'->WSs X Z3 D σ' H'):WSs X (st ::Z3) D σ H:=by
 refine WSs.step (t:=Zy0 (fun _ _=>M) (WS X st)) (Zx5 (fun _ _=>M) Yad) ⟨h,fun σ' H' m=>k σ' H' m⟩
end
end L2
namespace L2
open PySem PySem.Spec PyProof.Rows
end L2
namespace L2
open PySem PySem.Spec PyProof.Rows
end L2
end
section
namespace L2
open PySem PySem.Spec PyProof.Rows
def Znq{α:Type}(P:α->Prop):List α->Prop
 | []=>True
 | a ::l=>P a/\Znq P l
theorem Znq.mem{α:Type}{P:α->Prop}:∀{l:List α} {a:α},Znq P l->a∈l->P a
 | _ ::_,a,h,m=>by
  rcases List.mem_cons.mp m with rfl|m
  ·exact h.1
  ·exact Znq.mem h.2 m
theorem Za1{env:Env}:∀{names:List (Str×NameKind)} {x:Str},names.lookup x=some .free ->
  (names.map fun (n,k)=>if (k ==NameKind.free && env.scope.kind ==.function && env.kindOf n ==some .cell) then (n,NameKind.cell) else (n,k)).lookup x=some .cell \/
  (names.map fun (n,k)=>if (k ==NameKind.free && env.scope.kind ==.function && env.kindOf n ==some .cell) then (n,NameKind.cell) else (n,k)).lookup x=some .free
 | [],_,h=>by simp at h
 | (n,k) ::r,x,h=>by
  have ih:=@Za1 env r x
  by_cases hx:x ==n
  ·have hk:k=.free:=by
    rw [List.lookup_cons,hx] at h;exact Option.some.inj h
   subst hk
   by_cases hc:(NameKind.free ==NameKind.free && env.scope.kind ==.function && env.kindOf n ==some .cell)=true
   ·left
    rw [List.map_cons];show List.lookup x ((if _ then (n,NameKind.cell) else (n,NameKind.free)) ::_)=_;rw [if_pos hc,List.lookup_cons,hx]
   ·right
    rw [List.map_cons];show List.lookup x ((if _ then (n,NameKind.cell) else (n,NameKind.free)) ::_)=_;rw [if_neg hc,List.lookup_cons,hx]
  ·have hx:(x ==n)=false:=by simpa using hx
   rw [List.lookup_cons,hx] at h;have q:=ih h;rw [List.map_cons];have e:∀(b:Bool) (l:List (Str×NameKind)),List.lookup x ((if b=true then (n,NameKind.cell) else (n,k)) ::l)=l.lookup x:=fun b l=>by
    cases b <;>simp [List.lookup_cons,hx]
   rcases q with q|q
   ·exact .inl ((e _ _).trans q)
   ·exact .inr ((e _ _).trans q)
theorem Zbc{env:Env}:∀{names:List (Str×NameKind)} {x:Str},
    ((names.map fun (n,k)=>if (k ==NameKind.free && env.scope.kind ==.function && env.kindOf n ==some .cell) then (n,NameKind.cell) else (n,k)).lookup x=some .cell \/
     (names.map fun (n,k)=>if (k ==NameKind.free && env.scope.kind ==.function && env.kindOf n ==some .cell) then (n,NameKind.cell) else (n,k)).lookup x=some .free) ->
    names.lookup x=some .cell\/names.lookup x=some .free
  | [],_,h=>by simp at h
  | (n,k) ::r,x,h=>by
    have ih:=@Zbc env r x;rw [List.map_cons] at h
    by_cases hx:x ==n
    · rw [List.lookup_cons,hx];have e:∀(c:Prop) [Decidable c] (l:List (Str×NameKind)),List.lookup x ((if c then (n,NameKind.cell) else (n,k)) ::l)=some (if c then .cell else k):=fun c _ l=>by
        split <;>rw [List.lookup_cons,hx]
      rcases h with h|h
      · have h:=(e _ _).symm.trans h;have h:=Option.some.inj h;split at h
        · rename_i c
          right
          have:k=.free:=by
            rw [Bool.and_eq_true,Bool.and_eq_true] at c;simpa using c.1.1
          rw [this]
        · left;rw [h]
      · have h:=(e _ _).symm.trans h;have h:=Option.some.inj h;split at h
        · cases h
        · right;rw [h]
    · have hx:(x ==n)=false:=by simpa using hx
      have e:∀(c:Prop) [Decidable c] (l:List (Str×NameKind)),List.lookup x ((if c then (n,NameKind.cell) else (n,k)) ::l)=l.lookup x:=fun c _ l=>by
        split <;>rw [List.lookup_cons,hx]
      rw [List.lookup_cons,hx];exact ih (h.imp (fun z=>(e _ _).symm.trans z) fun z=>(e _ _).symm.trans z)
theorem Ya.std{X:Cx}{scope:Scope}{cl:List (Str×Addr)}{N':List Str}(n:Nat)(js:List Nat)(kind:scope.kind=.function)(cell:∀y∈scope.names,y.2 ≠ .cell)
  (names:∀y∈scope.names,y.2=.local->scope.names.lookup y.1=some .local) (clos:closureFor scope X.env=pure cl) (p7:Znq (fun p=>X.env.cells.lookup p.1=some p.2) cl)
  (C5:(scope.names.all fun y=>y.2 !=.free || ((cl.lookup y.1).isSome && (X.env.kindOf y.1 ==some .cell || X.env.kindOf y.1 ==some .free)))=true)
  (hN:N'.length=n+js.length) (hj:Znq (fun p:Nat×Nat=>∃x,N'[n+p.1]? =some x/\X.N[p.2]? =some x/\scope.names.lookup x=some .free) ((List.range js.length).zip js)) :
  Ya X scope cl N' (fun σ=>List.replicate n none++js.map fun j=>(σ[j]?).join) where
 kind:=kind
 cell:=cell
 names:=names
 clos:=clos
 sub:=fun x c h=>Znq.mem (P:=fun p=>X.env.cells.lookup p.1=some p.2) (a:=(x,c)) p7 (PySem.mem_of_lookup h)
 has:=fun x h=>by
  rcases Zbc (env:=X.env) h with h|h
  ·exact absurd rfl (cell _ (PySem.mem_of_lookup h))
  ·have q:=List.all_eq_true.mp C5 _ (PySem.mem_of_lookup h);simp only [bne_self_eq_false,Bool.false_or,Bool.and_eq_true] at q;exact Option.isSome_iff_exists.mp q.1
 len:=fun σ _=>by simp [hN]
 fr:=fun σ i x v h1 h2 _=>by
  have hi:n<=i:=by
   rcases Nat.lt_or_ge i n with d5|hge
   ·rw [List.getElem?_append_left (by simpa using d5),List.getElem?_replicate,if_pos d5] at h2;cases h2
   ·exact hge
  rw [List.getElem?_append_right (by simpa using hi),List.length_replicate,List.getElem?_map] at h2;cases hjs:js[i-n]? with
  | none=>rw [hjs] at h2;cases h2
  | some j =>
   rw [hjs] at h2;have h2:(σ[j]?).join=some v:=Option.some.inj h2;have d5:i-n<js.length:=by
    rcases Nat.lt_or_ge (i-n) js.length with z|z
    ·exact z
    ·rw [List.getElem?_eq_none z] at hjs;cases hjs
   have hm:(i-n,j)∈(List.range js.length).zip js:=by
    rw [List.mem_iff_getElem?];refine ⟨i-n,?_⟩;rw [List.getElem?_zip_eq_some];exact ⟨by simp [d5],hjs⟩
   obtain ⟨x',e1,e2,e3⟩:=Znq.mem hj hm;have e:n+(i-n)=i:=by lia
   simp only [e] at e1;rw [h1] at e1;cases e1;have q:=List.all_eq_true.mp C5 _ (PySem.mem_of_lookup e3);simp only [bne_self_eq_false,Bool.false_or,Bool.and_eq_true,Bool.or_eq_true,beq_iff_eq] at q;refine ⟨Za1 e3,q.2,j,e2,?_⟩;cases hs:σ[j]? with
   | none=>rw [hs] at h2;cases h2
   | some o=>rw [hs] at h2;exact congrArg some h2
end L2
namespace L2
open PySem PySem.Spec PyProof.Rows
inductive Tr where
 | non | int (i:Int) | str (x:Str) | tup (ts:List Tr) | lst (ts:List Tr)
noncomputable instance:DecidableEq Tr:=fun _ _=>Classical.propDecidable _
mutual
inductive Im(K:Frag)(H:Hp):Nat->Tr->V->Prop where
 | non {n:Nat}:Im K H n .non .non
 | int {n:Nat} (i:Int):Im K H n (.int i) (.int i)
 | str {n:Nat} (x:Str):Im K H n (.str x) (.str x)
 | tupI {n:Nat} {a:Addr} {xs:List V} {ts:List Tr}:SqT K H a xs->Ims K H n ts xs->Im K H (n+1) (.tup ts) (.ref a)
 | lstI {n:Nat} {a:Addr} {xs:List V} {ts:List Tr}:SqL K H a xs->Ims K H n ts xs->Im K H (n+1) (.lst ts) (.ref a)
inductive Ims(K:Frag)(H:Hp):Nat->List Tr->List V->Prop where
 | nil {n:Nat}:Ims K H n [] []
 | cons {n:Nat} {t:Tr} {v:V} {ts:List Tr} {vs:List V}:Im K H n t v->Ims K H n ts vs->Ims K H n (t ::ts) (v ::vs)
end
theorem Ims.toP{K:Frag}{H:Hp}{n:Nat}:∀{ts:List Tr} {xs:List V},Ims K H n ts xs->Paired (Im K H n) ts xs
 | [],_,h=>by cases h;exact .nil
 | _ ::_,_,h=>by
  cases h with
  | cons r t=>exact .cons r t.toP
theorem Ims.ofP{K:Frag}{H:Hp}{n:Nat}:∀{ts:List Tr} {xs:List V},Paired (Im K H n) ts xs->Ims K H n ts xs
 | _,_,.nil=>.nil
 | _,_,.cons r t=>.cons r (Ims.ofP t)
theorem Im.tup{K:Frag}{H:Hp}{n:Nat}{a:Addr}{xs:List V}{ts:List Tr}(sq:SqT K H a xs)(ps:Paired (Im K H n) ts xs):Im K H (n+1) (.tup ts) (.ref a):=.tupI sq (.ofP ps)
theorem Im.lst{K:Frag}{H:Hp}{n:Nat}{a:Addr}{xs:List V}{ts:List Tr}(sq:SqL K H a xs)(ps:Paired (Im K H n) ts xs):Im K H (n+1) (.lst ts) (.ref a):=.lstI sq (.ofP ps)
theorem Paired.get{α β:Type}{R:α->β->Prop}:∀{l₁:List α} {l₂:List β} {i:Nat} {a:α},Paired R l₁ l₂->l₁[i]? =some a->∃b,l₂[i]? =some b/\R a b
 | _,_,_,_,.nil,e=>by simp at e
 | _,_,0,_,.cons r _,e=>by simp at e;subst e;exact ⟨_,rfl,r⟩
 | _,_,i+1,a,.cons _ t,e=>by
  obtain ⟨u,h1,h2⟩:=Paired.get (i:=i) (a:=a) t (by simpa using e);exact ⟨u,by simpa using h1,h2⟩
theorem Paired.get'{α β:Type}{R:α->β->Prop}:∀{l₁:List α} {l₂:List β} {i:Nat} {b:β},Paired R l₁ l₂->l₂[i]? =some b->∃a,l₁[i]? =some a/\R a b
 | _,_,_,_,.nil,e=>by simp at e
 | _,_,0,_,.cons r _,e=>by simp at e;subst e;exact ⟨_,rfl,r⟩
 | _,_,i+1,a,.cons _ t,e=>by
  obtain ⟨u,h1,h2⟩:=Paired.get' (i:=i) (b:=a) t (by simpa using e);exact ⟨u,by simpa using h1,h2⟩
theorem Paired.append{α β:Type}{R:α->β->Prop}{a₁:List α}{b₁:List β}{a₂:List α}{b₂:List β}(h:Paired R a₁ b₁)(s:Paired R a₂ b₂):Paired R (a₁++a₂) (b₁++b₂):=by
 induction h with
 | nil=>exact s
 | cons r t ih=>exact .cons r ih
theorem Paired.strs{K:Frag}{H:Hp}{n:Nat}:∀xs:List Str,Paired (Im K H n) (xs.map Tr.str) (xs.map V.str)
 | []=>.nil
 | x ::xs=>.cons (.str x) (Paired.strs (K:=K) (H:=H) (n:=n) xs)
theorem Same.at{H H':Hp}{b:Addr}{o:HO}(e:Same H H')(h:H b=some o):H' b=some o:=e b o h
theorem Same.new{H:Hp}{p:Addr}{o:HO}(h:H p=none):Same H (upd H p o):=fun b u e=>by rw [Zd (Zg e h)];exact e
theorem Paired.uniq{α β:Type}{R:α->β->Prop}(f:∀a a' b,R a b->R a' b->a=a'){l l':List α}{m:List β}(h:Paired R l m)(h':Paired R l' m):l=l':=by
 induction h generalizing l' with
 | nil=>cases h';rfl
 | cons r t ih=>cases h' with
  | cons r' t'=>rw [f _ _ _ r r',ih t']
section
variable {X:Cx} {a7:List (Addr×Obj)} {σ:St} {H:Hp} {s:Shared}
theorem Inv.lt_excl(I:Inv X a7 σ H s){a:Addr}{xs ys:List V}(h:SqL X.K H a xs)(h':SqT X.K H a ys):False:=by
 obtain ⟨a8,_,pl,_⟩:=I.list h;obtain ⟨its',_,tp,_⟩:=I.tuple h';exact SeqAt.ne_of_list_tuple pl.isList (show s.heap.IsTuple a its'.toArray from tp) rfl
theorem Im.inj(I:Inv X a7 σ H s):∀{n:Nat} {t u:Tr} {v:V},Im X.K H n t v->Im X.K H n u v->t=u:=by
 intro n
 induction n with
 | zero=>intro t u v h h';cases h <;>cases h' <;>rfl
 | succ n ih =>
  intro t u v h h';cases h with
  | non=>cases h';rfl
  | int i=>cases h';rfl
  | str x=>cases h';rfl
  | tupI sq pm =>
   cases h' with
   | tupI m6 pm' =>
    have e:=I.tuple_inj sq m6;subst e;rw [Paired.uniq (R:=Im X.K H n) (fun _ _ _ z z'=>ih z z') pm.toP pm'.toP]
   | lstI m6 pm'=>exact (I.lt_excl m6 sq).elim
  | lstI sq pm =>
   cases h' with
   | tupI m6 pm'=>exact (I.lt_excl sq m6).elim
   | lstI m6 pm' =>
    have e:=I.list_inj sq m6;subst e;rw [Paired.uniq (R:=Im X.K H n) (fun _ _ _ z z'=>ih z z') pm.toP pm'.toP]
theorem Z6{A:Around}{s:Shared}{u v:Value}{b b':Bool}(h:SeqAt.EqAt A s u v b)(e:b=b'):SeqAt.EqAt A s u v b':=e ▸ h
theorem Zhi(ts us:List Tr):(((List.range (min ts.length us.length)).all fun j=>decide (ts[j]? =us[j]?)) && ts.length ==us.length)=decide (ts=us):=by
 rw [Bool.eq_iff_iff];simp only [Bool.and_eq_true,List.all_eq_true,List.mem_range,decide_eq_true_eq,beq_iff_eq]
 constructor
 ·rintro ⟨h,e⟩;refine List.ext_getElem? fun i=>?_
  by_cases hi:i<ts.length
  ·exact h i (by lia)
  ·rw [List.getElem?_eq_none (by lia),List.getElem?_eq_none (by lia)]
 ·rintro rfl;exact ⟨fun _ _=>rfl,rfl⟩
theorem Zl6{ts us:List Tr}(h:ts.length=us.length):((List.range ts.length).all fun j=>decide (ts[j]? =us[j]?))=decide (ts=us):=by
 have q:=Zhi ts us;rw [h,Nat.min_self,beq_self_eq_true,Bool.and_true] at q;rw [h];exact q
theorem X7(A:Around):A.in1.units=A.units+1:=rfl
theorem Zdd{n:Nat}{A:Around}{ts us:List Tr}{xs ys:List V}{a8 its':List Value}
  (ih:∀{t u:Tr} {x y:V} {vx vy:Value},Im X.K H n t x->Im X.K H n u y->Ye x vx->Ye y vy->SeqAt.EqAt A s vx vy (decide (t=u)))
  (ps:Paired (Im X.K H n) ts xs) (B4:Paired (Im X.K H n) us ys) (rv:Z5 xs a8) (L4:Z5 ys its') :
  ∀j (h1:j<a8.toArray.size) (h2:j<its'.toArray.size),SeqAt.EqAt A s a8.toArray[j] its'.toArray[j] (decide (ts[j]? =us[j]?)):=by
 intro j h1 h2;have l1:=rv.length;have l2:=L4.length;have h1':j<xs.length:=by simpa [l1] using h1
 have h2':j<ys.length:=by simpa [l2] using h2
 obtain ⟨t,e1,r1⟩:=Paired.get' ps (i:=j) (b:=xs[j]) (by simp [h1']);obtain ⟨u,e2,r2⟩:=Paired.get' B4 (i:=j) (b:=ys[j]) (by simp [h2']);obtain ⟨v1,f1,g1⟩:=rv.get (i:=j) (x:=xs[j]) (by simp [h1']);obtain ⟨v2,f2,g2⟩:=L4.get (i:=j) (x:=ys[j]) (by simp [h2']);have k1:a8.toArray[j]=v1:=by
  have:a8[j]? =some a8.toArray[j]:=by simp [show j<a8.length by simpa using h1]
  rw [f1] at this;exact (Option.some.inj this).symm
 have k2:its'.toArray[j]=v2:=by
  have:its'[j]? =some its'.toArray[j]:=by simp [show j<its'.length by simpa using h2]
  rw [f2] at this;exact (Option.some.inj this).symm
 rw [k1,k2,e1,e2];refine Z6 (ih r1 r2 g1 g2) ?_;rw [Bool.eq_iff_iff];simp
theorem Im.tuple_rc(I:Inv X a7 σ H s){n:Nat}{A:Around}{a b:Addr}{ts us:List Tr}{xs ys:List V}
  (ih:∀{t u:Tr} {x y:V} {vx vy:Value},Im X.K H n t x->Im X.K H n u y->Ye x vx->Ye y vy->SeqAt.EqAt A.in1 s vx vy (decide (t=u))) (hu:A.units<cLine)
  (sq:SqT X.K H a xs) (ps:Paired (Im X.K H n) ts xs) (m6:SqT X.K H b ys) (B4:Paired (Im X.K H n) us ys) :
  SeqAt.RcAt A s (.ref a) (.ref b) (decide (Tr.tup ts=Tr.tup us))/\SeqAt.RcNeAt A s (.ref a) (.ref b) (!decide (Tr.tup ts=Tr.tup us)):=by
 obtain ⟨a8,rv,tp,_⟩:=I.tuple sq;obtain ⟨its',L4,z8,_⟩:=I.tuple m6;have l1:=rv.length;have l2:=L4.length;have m1:=Paired.length ps;have m2:=Paired.length B4;have e:((List.range (min a8.toArray.size its'.toArray.size)).all (fun j=>decide (ts[j]? =us[j]?)) && a8.toArray.size ==its'.toArray.size)=decide (Tr.tup ts=Tr.tup us):=by
  rw [List.size_toArray,List.size_toArray,<-l1,<-l2,<-m1,<-m2,Zhi,Bool.eq_iff_iff];simp
 constructor
 ·rw [<-e];exact SeqAt.RcAt.tuples (show s.heap.IsTuple a a8.toArray from tp) (show s.heap.IsTuple b its'.toArray from z8) hu (Zdd ih ps B4 rv L4)
 ·rw [<-e];exact SeqAt.RcNeAt.tuples (show s.heap.IsTuple a a8.toArray from tp) (show s.heap.IsTuple b its'.toArray from z8) hu (Zdd ih ps B4 rv L4)
theorem Im.list_rc(I:Inv X a7 σ H s){n:Nat}{A:Around}{a b:Addr}{ts us:List Tr}{xs ys:List V}
  (ih:∀{t u:Tr} {x y:V} {vx vy:Value},Im X.K H n t x->Im X.K H n u y->Ye x vx->Ye y vy->SeqAt.EqAt A.in1 s vx vy (decide (t=u))) (hu:A.units<cLine)
  (sq:SqL X.K H a xs) (ps:Paired (Im X.K H n) ts xs) (m6:SqL X.K H b ys) (B4:Paired (Im X.K H n) us ys) :
  SeqAt.RcAt A s (.ref a) (.ref b) (decide (Tr.lst ts=Tr.lst us))/\SeqAt.RcNeAt A s (.ref a) (.ref b) (!decide (Tr.lst ts=Tr.lst us)):=by
 obtain ⟨a8,rv,tp,_⟩:=I.list sq;obtain ⟨its',L4,z8,_⟩:=I.list m6;have l1:=rv.length;have l2:=L4.length;have m1:=Paired.length ps;have m2:=Paired.length B4
 by_cases hl:ts.length=us.length
 ·have e:((List.range a8.toArray.size).all fun j=>decide (ts[j]? =us[j]?))=decide (Tr.lst ts=Tr.lst us):=by
   rw [List.size_toArray,<-l1,<-m1,Zl6 hl,Bool.eq_iff_iff];simp
  have hs:a8.toArray.size=its'.toArray.size:=by rw [List.size_toArray,List.size_toArray];lia
  constructor
  ·rw [<-e];exact SeqAt.RcAt.lists tp.isList z8.isList hs hu (Zdd ih ps B4 rv L4)
  ·rw [<-e];exact SeqAt.RcNeAt.lists tp.isList z8.isList hs hu (Zdd ih ps B4 rv L4)
 ·have e:decide (Tr.lst ts=Tr.lst us)=false:=decide_eq_false fun z=>hl (by injection z with z;rw [z])
  have hs:(a8.toArray.size !=its'.toArray.size)=true:=by rw [List.size_toArray,List.size_toArray];simp;lia
  rw [e];exact ⟨SeqAt.RcAt.lists_lengths tp.isList z8.isList hs hu,SeqAt.RcNeAt.lists_lengths tp.isList z8.isList hs hu⟩
theorem Im.eqAt(I:Inv X a7 σ H s):∀(n:Nat) (A:Around) {t u:Tr} {x y:V} {vx vy:Value},Im X.K H n t x->Im X.K H n u y->Ye x vx->Ye y vy->A.units+n<cLine->SeqAt.EqAt A s vx vy (decide (t=u)):=by
 intro n
 induction n with
 | zero =>
  intro A t u x y vx vy h h' rx ry hu;cases h <;>cases h' <;>exact Z6 (Zjx rx ry rfl rfl) (by rw [Bool.eq_iff_iff];simp [eqV])
 | succ n ih =>
  intro A t u x y vx vy h h' rx ry hu;have D4:A.units<cLine:=by lia
  have hu1:A.in1.units+n<cLine:=by rw [X7];lia
  have ih1:∀{t u:Tr} {x y:V} {vx vy:Value},Im X.K H n t x->Im X.K H n u y->Ye x vx->Ye y vy->SeqAt.EqAt A.in1 s vx vy (decide (t=u)):=fun z z' r r'=>ih A.in1 z z' r r' hu1
  cases h with
  | @tupI _ a xs ts sq pm =>
   cases rx;obtain ⟨a8,rv,tp,_⟩:=I.tuple sq;cases h' with
   | non=>cases ry;exact Z6 (SeqAt.EqAt.tuple_none (show s.heap.IsTuple _ a8.toArray from tp) D4) (decide_eq_false fun z=>nomatch z).symm
   | int i=>obtain ⟨t',rfl⟩:=ry;exact Z6 (SeqAt.EqAt.tuple_int i t' (show s.heap.IsTuple _ a8.toArray from tp) D4) (decide_eq_false fun z=>nomatch z).symm
   | str i=>obtain ⟨t',rfl⟩:=ry;exact Z6 (SeqAt.EqAt.tuple_str i t' (show s.heap.IsTuple _ a8.toArray from tp) D4) (decide_eq_false fun z=>nomatch z).symm
   | @tupI _ b ys us m6 pm' =>
    cases ry
    by_cases M8:a=b
    ·subst M8;rw [Im.inj I (Im.tupI sq pm) (Im.tupI m6 pm'),decide_eq_true rfl];exact SeqAt.EqAt.same _
    ·exact SeqAt.EqAt.of_refs M8 (Im.tuple_rc I ih1 D4 sq pm.toP m6 pm'.toP).1
   | lstI m6 pm' =>
    cases ry;obtain ⟨its',L4,z8,_⟩:=I.list m6;exact Z6 (SeqAt.EqAt.tuple_list (show s.heap.IsTuple _ a8.toArray from tp) z8.isList D4) (decide_eq_false fun z=>nomatch z).symm
  | @lstI _ a xs ts sq pm =>
   cases rx;obtain ⟨a8,rv,tp,_⟩:=I.list sq;cases h' with
   | non=>cases ry;exact Z6 (SeqAt.EqAt.list_none tp.isList D4) (decide_eq_false fun z=>nomatch z).symm
   | int i=>obtain ⟨t',rfl⟩:=ry;exact Z6 (SeqAt.EqAt.list_int i t' tp.isList D4) (decide_eq_false fun z=>nomatch z).symm
   | str i=>obtain ⟨t',rfl⟩:=ry;exact Z6 (SeqAt.EqAt.list_str i t' tp.isList D4) (decide_eq_false fun z=>nomatch z).symm
   | tupI m6 pm' =>
    cases ry;obtain ⟨its',L4,z8,_⟩:=I.tuple m6;exact Z6 (SeqAt.EqAt.list_tuple tp.isList (show s.heap.IsTuple _ its'.toArray from z8) D4) (decide_eq_false fun z=>nomatch z).symm
   | @lstI _ b ys us m6 pm' =>
    cases ry
    by_cases M8:a=b
    ·subst M8;rw [Im.inj I (Im.lstI sq pm) (Im.lstI m6 pm'),decide_eq_true rfl];exact SeqAt.EqAt.same _
    ·exact SeqAt.EqAt.of_refs M8 (Im.list_rc I ih1 D4 sq pm.toP m6 pm'.toP).1
  | non =>
   cases rx;cases h' with
   | non=>cases ry;exact Z6 (SeqAt.EqAt.same _) (decide_eq_true rfl).symm
   | int i=>obtain ⟨t',rfl⟩:=ry;exact Z6 (SeqAt.EqAt.none_int i t') (decide_eq_false fun z=>nomatch z).symm
   | str i=>obtain ⟨t',rfl⟩:=ry;exact Z6 (SeqAt.EqAt.none_str i t') (decide_eq_false fun z=>nomatch z).symm
   | tupI m6 pm'=>cases ry;obtain ⟨its',_,z8,_⟩:=I.tuple m6;exact Z6 (SeqAt.EqAt.none_tuple (show s.heap.IsTuple _ its'.toArray from z8) D4) (decide_eq_false fun z=>nomatch z).symm
   | lstI m6 pm'=>cases ry;obtain ⟨its',_,z8,_⟩:=I.list m6;exact Z6 (SeqAt.EqAt.none_list z8.isList D4) (decide_eq_false fun z=>nomatch z).symm
  | int j =>
   cases h' with
   | tupI m6 pm'=>obtain ⟨t',rfl⟩:=rx;cases ry;obtain ⟨its',_,z8,_⟩:=I.tuple m6;exact Z6 (SeqAt.EqAt.int_tuple j t' (show s.heap.IsTuple _ its'.toArray from z8) D4) (decide_eq_false fun z=>nomatch z).symm
   | lstI m6 pm'=>obtain ⟨t',rfl⟩:=rx;cases ry;obtain ⟨its',_,z8,_⟩:=I.list m6;exact Z6 (SeqAt.EqAt.int_list j t' z8.isList D4) (decide_eq_false fun z=>nomatch z).symm
   | _=>exact Z6 (Zjx rx ry rfl rfl) (by rw [Bool.eq_iff_iff];simp [eqV])
  | str j =>
   cases h' with
   | tupI m6 pm'=>obtain ⟨t',rfl⟩:=rx;cases ry;obtain ⟨its',_,z8,_⟩:=I.tuple m6;exact Z6 (SeqAt.EqAt.str_tuple j t' (show s.heap.IsTuple _ its'.toArray from z8) D4) (decide_eq_false fun z=>nomatch z).symm
   | lstI m6 pm'=>obtain ⟨t',rfl⟩:=rx;cases ry;obtain ⟨its',_,z8,_⟩:=I.list m6;exact Z6 (SeqAt.EqAt.str_list j t' z8.isList D4) (decide_eq_false fun z=>nomatch z).symm
   | _=>exact Z6 (Zjx rx ry rfl rfl) (by rw [Bool.eq_iff_iff];simp [eqV])
end
def Zuz(K:Frag)(neg:Bool):R2:=fun x y H Q=>∃n t u,n<=60/\((∃ts us,t=Tr.tup ts/\u=Tr.tup us)\/∃ts us,t=Tr.lst ts/\u=Tr.lst us)/\Im K H n t x/\Im K H n u y/\Q (.bl (if neg then !decide (t=u) else decide (t=u))) H
theorem Zxr{X:Cx}(hu:X.A.units+64<cLine):OpR X (compareOp .Eq) (Zuz X.K false):=by
 intro a7 s σ H x y v u Q I rx ry h;obtain ⟨n,t,t',hn,hk,h1,h2,q⟩:=h;rcases hk with ⟨ts,us,rfl,rfl⟩|⟨ts,us,rfl,rfl⟩
 ·cases h1 with
  | tupI sq pm =>
   cases h2 with
   | tupI m6 pm' =>
    cases rx;cases ry;exact (Im.tuple_rc (A:=X.A) I (fun z z' r r'=>Im.eqAt I _ _ z z' r r' (by rw [X7];lia)) (by lia) sq pm.toP m6 pm'.toP).1 _ _ _ _ ⟨.bl _,H,I,rfl,q⟩
 ·cases h1 with
  | lstI sq pm =>
   cases h2 with
   | lstI m6 pm' =>
    cases rx;cases ry;exact (Im.list_rc (A:=X.A) I (fun z z' r r'=>Im.eqAt I _ _ z z' r r' (by rw [X7];lia)) (by lia) sq pm.toP m6 pm'.toP).1 _ _ _ _ ⟨.bl _,H,I,rfl,q⟩
theorem Zwg{X:Cx}(hu:X.A.units+64<cLine):OpR X (compareOp .NotEq) (Zuz X.K true):=by
 intro a7 s σ H x y v u Q I rx ry h;obtain ⟨n,t,t',hn,hk,h1,h2,q⟩:=h;rcases hk with ⟨ts,us,rfl,rfl⟩|⟨ts,us,rfl,rfl⟩
 ·cases h1 with
  | tupI sq pm =>
   cases h2 with
   | tupI m6 pm' =>
    cases rx;cases ry;exact (Im.tuple_rc (A:=X.A) I (fun z z' r r'=>Im.eqAt I _ _ z z' r r' (by rw [X7];lia)) (by lia) sq pm.toP m6 pm'.toP).2 _ _ _ _ ⟨.bl _,H,I,rfl,q⟩
 ·cases h1 with
  | lstI sq pm =>
   cases h2 with
   | lstI m6 pm' =>
    cases rx;cases ry;exact (Im.list_rc (A:=X.A) I (fun z z' r r'=>Im.eqAt I _ _ z z' r r' (by rw [X7];lia)) (by lia) sq pm.toP m6 pm'.toP).2 _ _ _ _ ⟨.bl _,H,I,rfl,q⟩
def Zv4(t:TA):TE:=fun σ H Q=>t σ H fun xs H1=>xs.length<=sizeLine/\∀p H',Same H1 H'->H1 p=none->H' p=some (.tup xs)->Q (.ref p) H'
def Zy5(t:TA):TE:=fun σ H Q=>t σ H fun xs H1=>xs.length<=sizeLine/\∀p H',Same H1 H'->H1 p=none->H' p=some (.lst xs)->Q (.ref p) H'
theorem Zj{X:Cx}{es:List Expr}{t:TA}{pos:Pos}{x1}(h:PA X es t):PE X (.Tuple es x1 pos) (Zv4 t):=by
 intro a7 s σ H Q I hq;refine wpAny_Tuple_spliced (thn (h pos a7 s σ H _ I hq) fun us s1 ⟨xs,H1,I1,r,z,q⟩=>⟨by rw [<-r.length];exact z,?_⟩);have hf:H1 s1.heap.objs.size=none:=I1.hok.fresh (Nat.le_refl _);refine ⟨.ref s1.heap.objs.size,upd H1 s1.heap.objs.size (.tup xs),I1.laid (t':=s1.toks) (fun b u e=>Heap.get?_push_of_some _ e) (Nat.le_refl _) ?_,rfl,q _ _ (Same.new hf) hf Zi⟩;exact ⟨z,us,r,⟨_,Heap.get?_push_size _ rfl,rfl,_,rfl⟩⟩
theorem Zo{X:Cx}{es:List Expr}{t:TA}{pos:Pos}(h:PA X es t):PE X (.List es pos) (Zy5 t):=by
 intro a7 s σ H Q I hq;refine wpAny_List_spliced (thn (h pos a7 s σ H _ I hq) fun us s1 ⟨xs,H1,I1,r,z,q⟩=>⟨by rw [<-r.length];exact z,?_⟩);have hf:H1 s1.heap.objs.size=none:=I1.hok.fresh (Nat.le_refl _);refine ⟨.ref s1.heap.objs.size,upd H1 s1.heap.objs.size (.lst xs),I1.laid (t':=s1.toks) (fun b u e=>Heap.get?_push_of_some _ e) (Nat.le_refl _) ?_,rfl,q _ _ (Same.new hf) hf Zi⟩;exact ⟨z,us,0,r,Heap.get?_push_size _ rfl⟩
theorem OpR.imp{X:Cx}{f:Value->Value->Sem Value}{r r':R2}(h:OpR X f r)(g:∀x y H Q,r' x y H Q->r x y H Q):OpR X f r':=fun a7 s σ H x y v u Q I rx ry q=>h a7 s σ H x y v u Q I rx ry (g _ _ _ _ q)
theorem SlR.imp{X:Cx}{r r':V->Option Int->Option Int->Hp->VK->Prop}(h:SlR X r)(g:∀x l u H Q,r' x l u H Q->r x l u H Q):SlR X r':=fun a7 s σ H x v vl vu lo hi sl Q I rx hs pl pu q=>h a7 s σ H x v vl vu lo hi sl Q I rx hs pl pu (g _ _ _ _ _ q)
theorem Xe.imp{X:Cx}{f:Value}{r r':List V->Hp->VK->Prop}(h:Xe X f r)(g:∀xs H Q,r' xs H Q->r xs H Q):Xe X f r':=fun a7 s σ H xs us Q I rs q=>h a7 s σ H xs us Q I rs (g _ _ _ q)
def New(H:Hp)(o:HO)(Q:VK):Prop:=∀p H',Same H H'->H p=none->H' p=some o->Q (.ref p) H'
theorem New.at{H:Hp}{o:HO}{Q:VK}(h:New H o Q)(p:Addr)(hp:H p=none):Q (.ref p) (upd H p o):=h p _ (Same.new hp) hp Zi
def Zwa:R2:=fun x y H Q=>∃l b xs zs,x=.ref l/\y=.ref b/\H l=some (.lst xs)/\H b=some (.lst zs)/\xs.length+zs.length<=sizeLine/\New H (.lst (xs++zs)) Q
theorem Zug{X:Cx}:OpR X (binaryOp .Add) Zwa:=Zxd.imp fun x y H Q ⟨l,b,xs,zs,h1,h2,h3,h4,h5,h6⟩=>⟨l,b,xs,zs,h1,h2,h3,h4,h5,fun p hp=>h6.at p hp⟩
def Zvy(K:Frag):V->Option Int->Option Int->Hp->VK->Prop:=fun x lo hi H Q=>∃a xs,x=.ref a/\SqT K H a xs/\¬(HT.sIx xs.length 0 lo=0/\HT.sIx xs.length xs.length hi=xs.length)/\New H (.tup (Zib xs lo hi)) Q
theorem Zuw{X:Cx}:SlR X (Zvy X.K):=Zwf.imp fun x l u H Q ⟨a,xs,h1,h2,h3,h4⟩=>⟨a,xs,h1,h2,h3,fun p hp=>h4.at p hp⟩
def Zvx(K:Frag):V->Option Int->Option Int->Hp->VK->Prop:=fun x lo hi H Q=>∃a xs,x=.ref a/\SqL K H a xs/\New H (.lst (Zib xs lo hi)) Q
theorem Ztk{X:Cx}:SlR X (Zvx X.K):=Zuc.imp fun x l u H Q ⟨a,xs,h1,h2,h4⟩=>⟨a,xs,h1,h2,fun p hp=>h4.at p hp⟩
theorem Zah{X:Cx}{CX:CXT}{k:Nat}{f C:Addr}{fd:FuncData}{ps:List Str}{sp:Sp}{B5:List V}{ds:List Value}{E:XK}{x:Str}{p pos:Pos}{e:Expr}{es:List Expr}{t:TA}(mr:List V->Hp->VK->Prop)(M:Mk X.K C f)
  (F:Zw X.prog X.w X.K X.mg X.base CX k f fd ps sp) (hr:Xj (k+1) X.A) (hg:Gl X x) (hm:X.mg x=some (.ref C)) (hb:Zak X.K fd ps ds) (hd:Z5 B5 ds) (hx:Zay CX X E)
  (hmr:∀vs H Q,mr vs H Q->∀x dx,H x=none->H dx=none->dx≠x->sp (.ref x ::(vs++B5)) (upd (upd H dx (.own x)) x (.ins C dx [])) (fun v H2=>v=.non/\Q (.ref x) H2) E)
  (ha:PA X (e ::es) t) (O5:(x ==("__debug__" :Str))=false:=by decide) (he:starEach (e ::es) X.env=(false,eval e X.env) ::starEach es X.env:=by rfl) (i7:(backTo pos (starEach es X.env)).any (·.1)=false:=by rfl) :
  PE X (.Call (.Name x p) (e ::es) [] pos) (tCB mr t):=by
 intro a7 s σ H Q I h;refine wpAny_Call_Name_kw (Zeu I hg hm ?_ O5);refine PySem.W.callWith_K (h₀:=X.base) I.ok.mod.kin M.kp (thn (ha pos a7 s σ H _ I h) fun us s1 ⟨vs,H1,I1,r,q⟩=>⟨I1.kIn,?_⟩) he i7;exact Zsv M F hr hb hd hx I1 r (hmr vs H1 Q q)
section
variable {X:Cx} {k:Nat}
theorem Zww(hu:X.A.units+1<cLine):OpR X (compareOp .In) (fun y x H Q=>∃a o,x=.ref a/\Zab H a y o/\Q (.bl o.isSome) H):=by
 intro a7 s σ H y x v u Q I ry rx h;obtain ⟨a,ov,rfl,g,q⟩:=h;cases rx;exact Yac hu I g ry fun s3 I3=>⟨.bl ov.isSome,H,I3,rfl,q⟩
theorem Zqi(hu:X.A.units+1<cLine):OpR X (compareOp .NotIn) (fun y x H Q=>∃a o,x=.ref a/\Zab H a y o/\Q (.bl (!o.isSome)) H):=by
 intro a7 s σ H y x v u Q I ry rx h;obtain ⟨a,ov,rfl,g,q⟩:=h;cases rx;exact Zvt hu I g ry fun s3 I3=>⟨.bl (!ov.isSome),H,I3,rfl,q⟩
theorem Wj:OpR X (binaryOp .Add) (fun x y H Q=>rI0 (fun i j=>.int (i+j)) x y H Q\/(∃i j,x=.str i/\y=.str j/\i.length+j.length<=sizeLine/\Q (.str (i++j)) H)\/Zwa x y H Q):=Zwt.or (Zoe.or Zug)
end
theorem sz{n:Nat}(h:n<=1000):n<=sizeLine:=Nat.le_of_lt (Zx h)
structure Zo3(K:Frag)(x qual:Str)(st:Stmt)(dV:Value)(f:Addr)(fd:FuncData):Prop where
 ex:∃(oc:Value) (od:Option Addr) (kV m9 pm:Value) (an:Option Addr) (a9 ct:Value) (D3:Array (Option Value)),
  fd=fnOf x qual (Xa st) (Ys st) (Zh st) dV kV m9 pm an a9 ct/\K.lookup f=some ⟨oc,od,.func fd,D3⟩/\codeIn K a9 qual=true
 kp:keepIn K (.ref f)=true
section
variable {P:Program} {w:World} {K:Frag} {mg:Str->Option Value} {base:Heap}
theorem Zo3.ok{x qual:Str}{st:Stmt}{dV:Value}{f:Addr}{fd:FuncData}{N ps:List Str}{k:Nat}{sp:Sp}(F:Zo3 K x qual st dV f fd)(S:Zk N ps (Zh st))(len:∀vs H Q E,sp vs H Q E->vs.length=ps.length)
  (m5:∀(a9:Value) (A:Around) (outer:List Env) (s:Shared) (H:Hp) (vs:List V) (Q:VK) (E:XK),Xj k (A.deeper (envOfC qual (Zh st) s.heap.objs.size f a9))->sp vs H Q E ->
   WSs (Zd0 CX0 P w K mg base N qual (Zh st) f a9 A outer s H E).nox (Ys st) { nx:=fun _ H'=>Q .non H',rt:=Q } (start N vs) H):Zw P w K mg base CX0 (k+1) f fd ps sp:=by
 obtain ⟨oc,od,kV,m9,pm,an,a9,ct,D3,rfl,lk,A9⟩:=F.ex;refine Zqc lk A9 S len fun A outer s H vs Q E hr P3=>?_
 exact ⟨_,PSs.nox Zr,m5 a9 A outer s H vs Q E hr P3⟩
theorem Fun.okW{x qual:Str}{st:Stmt}{f:Addr}{fd:FuncData}{N ps:List Str}{k:Nat}{sp:Sp}(F:Fun K x qual st f fd)(S:Zk N ps (Zh st))
  (m5:∀(a9:Value) (A:Around) (outer:List Env) (s:Shared) (H:Hp) (vs:List V) (Q:VK) (E:XK),Xj k (A.deeper (envOfC qual (Zh st) s.heap.objs.size f a9))->sp vs H Q E ->
   let X:=(Zd0 CX0 P w K mg base N qual (Zh st) f a9 A outer s H E).nox;WSs X (Ys st) { nx:=fun _ H'=>Q .non H',rt:=Q } (start N vs) H) (len:∀vs H Q E,sp vs H Q E->vs.length=ps.length:=by rintro _ _ _ _ h;repeat (first|(obtain ⟨e,_⟩:=h;subst e;rfl)|obtain ⟨_,h⟩:=h)):Zw P w K mg base CX0 (k+1) f fd ps sp :=
 F.ok S len fun a9 A outer s H vs Q E hr h=>⟨_,Zr,m5 a9 A outer s H vs Q E hr h⟩
theorem Zuq{x qual:Str}{st:Stmt}{f:Addr}{oc dV:Value}{od an:Option Addr}{D3:Array (Option Value)}{kV m9 pm a9 ct:Value}(l:K.lookup f=some ⟨oc,od,.func (fnOf x qual (Xa st) (Ys st) (Zh st) dV kV m9 pm an a9 ct),D3⟩)
  (c:codeIn K a9 qual=true) (k:keepIn K (.ref f)=true):Zo3 K x qual st dV f (fnOf x qual (Xa st) (Ys st) (Zh st) dV kV m9 pm an a9 ct):=⟨⟨oc,od,kV,m9,pm,an,a9,ct,D3,rfl,l,c⟩,k⟩
end
structure Dn(K:Frag)(x qual:Str)(st:Stmt)(ps:List Str) where
 f:Addr
 fd:FuncData
 F:Fun K x qual st f fd
 b:Zak K fd ps []
theorem Yj{X:Cx}{y q x:Str}{st:Stmt}{ps:List Str}{d:Dn X.K y q st ps}{sp:Sp}{j k:Nat}{e:Expr}{es:List Expr}{t:TA}{p pos:Pos}(F:Zw X.prog X.w X.K X.mg X.base CX0 k d.f d.fd ps sp)(hr:Xj j X.A)(hm:X.mg x=some (.ref d.f))(ha:PA X (e ::es) t)(hg:Gl X x:=by rfl)(hj:k<=j:=by decide) (O5:(x ==("__debug__" :Str))=false:=by decide) (he:starEach (e ::es) X.env=(false,eval e X.env) ::starEach es X.env:=by rfl) (i7:(backTo pos (starEach es X.env)).any (·.1)=false:=by rfl):PE X (.Call (.Name x p) (e ::es) [] pos) (Zv9 sp [] E0 t):=Xv F (hr.mono hj) hg hm d.F.kp d.b .nil Yg ha O5 he i7
theorem Zm5{α:Type}{l:List α}{i:Nat}{a:α}(h:l[i]? =some a):l.drop i=a ::l.drop (i+1):=by
 have hi:i<l.length:=by
  rcases Nat.lt_or_ge i l.length with z|z
  ·exact z
  ·rw [List.getElem?_eq_none z] at h;cases h
 rw [List.drop_eq_getElem_cons hi];rw [List.getElem?_eq_getElem hi] at h;rw [Option.some.inj h]
theorem Xt:∀l:List Str,(l.map V.str).all W4=true
 | []=>rfl
 | _ ::l=>by rw [List.map_cons,List.all_cons,Xt l];rfl
theorem Wv(x:Str):∀l:List Str,inV (.str x) (l.map V.str)=decide (x∈l)
 | []=>by simp [inV]
 | y ::l=>by
  have ih:=Wv x l;unfold inV at ih ⊢;rw [List.map_cons,List.any_cons,ih,Bool.eq_iff_iff];simp only [eqV,Bool.or_eq_true,beq_iff_eq,decide_eq_true_eq,List.mem_cons]
  constructor
  ·rintro (h|h)
   ·exact .inl h.symm
   ·exact .inr h
  ·rintro (h|h)
   ·exact .inl h.symm
   ·exact .inr h
end L2
end
section
namespace NM
def tA:List Int:=[0,1035609595,1591546621,1776858963,1869515134,207121919,1962171305,454727606,934757567,592286321,1177302783,484597899,2054827476,1896763824,227363803,784868522,1541120607,2082079291,1369884984,958709409,1662393215,867403751,1316040773,418501921,1027413738,1329914572,948381912,913256656,1187423725,1664836201,392434261,1903795744,1844302127,161532633,2114781469,949938980,684942492,1304871617,1553096528,632254608,1904938431,1177567069,1507443699,923030587,1731762210,977450723,1282992784,1986753328,513706869,985311221,664957286,2125682195,474190956,1235096585,456628328,1385409768,1667453686,319569803,1906159924,17552705,1269958954,1073116705,951897872,1004962466]
def tB:List Int:=[0,1073741815,1610612722,1789569691,805306361,214748363,1968526660,766958439,1476394995,2028178983,1181115996,1268967599,984263330,412977621,1457221034,787410664,1811939312,1831677213,2087831306,1412818177,590557998,255652813,1708225614,1820692642,492131665,1331439850,1280230625,676059661,728610517,1369946453,393705332,381005160,905969656,1138817076,1989580421,1871378591,1043915653,1421982403,1780150903,137659207,295278999,1126119464,1201568221,1173624774,854112807,1694125974,910346321,525448122,1319807647,1029915618,665719925,610559071,1713857127,1600483082,1411771645,1971780423,1438047073,1902595145,1758715041,1401324063,196852666,1637016209,190502580,1516873357]
end NM
namespace NM
open PySem L2
def Zdy:List Nat:=[97,98,99,100,101,102,103,104,105,106,107,108,109,110,111,112,113,114,115,116,117,118,119,120,121,122]
theorem Zmm:("abcdefghijklmnopqrstuvwxyz" :Str).cps.toList=Zdy:=by trivial
theorem Zim:("abcdefghijklmnopqrstuvwxyz" :Str).length=26:=by trivial
def uniq(f:Nat->Str):Nat->List Str
 | 0=>[]
 | n+1=>if f n∈uniq f n then uniq f n else uniq f n++[f n]
end NM
end
section
namespace L2
open PySem PySem.Spec PyProof.Rows
def Zyy:HO->Bool
 | .dK _=>true
 | .dT _=>true
 | _=>false
section
variable {X:Cx} {a7:List (Addr×Obj)} {σ:St} {H:Hp} {s:Shared} {d:Addr} {o:Obj} {u:HO}
theorem HOk.retold{P:Program}{w:World}{h:Heap}{v v':HO}(x:HOk P w H h)(hd:H d=some v)(no:∀y,v ≠ .own y)(nt:∀xs,v ≠ .tup xs)(nz:∀o y,v ≠ .frz o (.own y))(nb:∀ps,v ≠ .tbl ps)(new:Yf P w (upd H d v') h d v'):HOk P w (upd H d v') h:=fun b q e=>by
 by_cases hb:b=d
 ·subst hb;rw [Zi] at e;cases e;exact new
 ·rw [Zd hb] at e;refine (x b q e).stay (fun _ _ _ z=>z) (fun c z=>?_) (fun c xs z=>?_) (fun c ob z=>?_) (fun c ps z=>?_)
  ·rw [Zd (fun y=>by subst y;rw [hd] at z;exact no _ (Option.some.inj z))];exact z
  ·rw [Zd (fun y=>by subst y;rw [hd] at z;exact nt _ (Option.some.inj z))];exact z
  ·rw [Zd (fun y=>by subst y;rw [hd] at z;exact nz _ _ (Option.some.inj z))];exact z
  ·rw [Zd (fun y=>by subst y;rw [hd] at z;exact nb _ (Option.some.inj z))];exact z
theorem Zgc{P:Program}{w:World}{h:Heap}{v v' u:HO}(hd:H d=some v)(no:∀y,v ≠ .own y)(nt:∀xs,v ≠ .tup xs)(nz:∀o y,v ≠ .frz o (.own y))(nb:∀ps,v ≠ .tbl ps)(x:Yf P w H h d u):Yf P w (upd H d v') h d u :=
 x.stay (fun _ _ _ z=>z) (fun c z=>by rw [Zd (fun y=>by subst y;rw [hd] at z;exact no _ (Option.some.inj z))];exact z) (fun c xs z=>by rw [Zd (fun y=>by subst y;rw [hd] at z;exact nt _ (Option.some.inj z))];exact z) (fun c ob z=>by rw [Zd (fun y=>by subst y;rw [hd] at z;exact nz _ _ (Option.some.inj z))];exact z) (fun c ps z=>by rw [Zd (fun y=>by subst y;rw [hd] at z;exact nb _ (Option.some.inj z))];exact z)
theorem Inv.retell{v':HO}{v:HO}(I:Inv X a7 σ H s)(hd:H d=some v)(no:∀y,v ≠ .own y)(nt:∀xs,v ≠ .tup xs)(nz:∀o y,v ≠ .frz o (.own y))(nb:∀ps,v ≠ .tbl ps)(nf:∀o u,X.H₀ d≠some (.frz o u))(new:Yf X.prog X.w (upd H d v') s.heap d v') :
  Inv X a7 σ (upd H d v') s:=by
 have nd:∀b,H b=none->b≠d:=fun b n z=>by subst z;rw [n] at hd;cases hd
 refine ⟨I.ok,I.os,I.bare,?_,I.loc,I.cell,?_,fun x c e=>?_,fun p hp=>?_,I.hok.retold hd no nt nz nb new,I.len⟩
 ·have b:=I.base;refine ⟨b.keep,b.slot,fun c q e n hx=>?_,b.there,fun c xs e=>?_,fun c ob q e=>?_,fun c ps e=>?_⟩
  ·have z:=b.free c q e n hx;rw [Zd (nd c z)];exact z
  ·have z:=b.tups c xs e;rw [Zd (fun y=>by subst y;rw [hd] at z;exact nt _ (Option.some.inj z))];exact z
  ·have z:=b.frzs c ob q e;rw [Zd (fun y=>by subst y;exact nf _ _ e)];exact z
  ·obtain ⟨m,z⟩:=b.tbls c ps e;exact ⟨m,by rw [Zd (fun y=>by subst y;rw [hd] at z;exact nb _ (Option.some.inj z))];exact z⟩
 ·rw [Zd (nd _ I.free)];exact I.free
 ·rw [Zd (nd _ (I.freeC x c e))];exact I.freeC x c e
 ·obtain ⟨p1,p2,p3⟩:=I.pin p hp;exact ⟨p1,by rw [Zd (nd _ p2)];exact p2,p3⟩
theorem Inv.notFrz(I:Inv X a7 σ H s){v:HO}(hd:H d=some v)(n:∀o u,v ≠ .frz o u):∀o u,X.H₀ d≠some (.frz o u):=fun o u z=>by
 have:=I.base.frzs d o u z;rw [hd] at this;exact n _ _ (Option.some.inj this)
theorem Inv.freeze(I:Inv X a7 σ H s)(hd:H d=some u)(hu:Zyy u=true)(ho:s.heap.get? d=some o):Inv X a7 σ (upd H d (.frz o u)) s:=by
 have n1:∀y,u ≠ .own y:=fun y z=>by subst z;cases hu
 have n2:∀xs,u ≠ .tup xs:=fun y z=>by subst z;cases hu
 have n3:∀o y,u ≠ .frz o (.own y):=fun o y z=>by subst z;cases hu
 refine I.retell hd n1 n2 n3 (fun y z=>by subst z;cases hu) (I.notFrz hd fun _ _ z=>by subst z;cases hu) ⟨ho,Zgc hd n1 n2 n3 (fun y z=>by subst z;cases hu) (I.hok d u hd)⟩
theorem Inv.thaw(I:Inv X a7 σ H s)(hd:H d=some (.frz o u))(nf:∀o u,X.H₀ d≠some (.frz o u))(nu:∀y,u ≠ .own y:=by exact fun _ z=>nomatch z):Inv X a7 σ (upd H d u) s:=by
 obtain ⟨_,q⟩:=I.hok d _ hd;have n3:∀o' y,HO.frz o u ≠ .frz o' (.own y):=fun o' y z=>nu y (HO.frz.inj z).2
 exact I.retell hd (fun _ z=>nomatch z) (fun _ z=>nomatch z) n3 (fun _ z=>nomatch z) nf (Zgc hd (fun _ z=>nomatch z) (fun _ z=>nomatch z) n3 (fun _ z=>nomatch z) q)
end
theorem Same.thaw{H H':Hp}{d:Addr}{o:Obj}{u:HO}(hd:H d=some u)(h:Same (upd H d (.frz o u)) H'):Same H (upd H' d u):=fun b q e=>by
 by_cases hb:b=d
 ·subst hb;rw [hd] at e;cases e;exact Zi
 ·rw [Zd hb];exact h b q (by rw [Zd hb];exact e)
def Itd(d:Addr)(o:Obj)(kvs:List (Key×V)):It :=
 ⟨fun i H=>H d=some (.frz o (.dK kvs))/\i<kvs.length,fun i H x H'=>H'=H/\∃kv,kvs[i]? =some kv/\x=kV kv.1,fun i H=>H d=some (.frz o (.dK kvs))/\kvs.length<=i⟩
theorem Zsi{P:Program}{w:World}{k:Key}{u:Value}(h:(Zz P w).is k u=true):Ye (kV k) u:=by
 rcases Y2 (show Zhg k u=true from h) with ⟨i,t,rfl,rfl⟩|⟨x,t,rfl,rfl⟩
 ·exact ⟨t,rfl⟩
 ·exact ⟨t,rfl⟩
theorem KV.get{kvs:List (Key×V)}{vs:List (Key×Value)}{i:Nat}{kv:Key×V}(r:KV kvs vs)(h:kvs[i]? =some kv):∃u,vs[i]? =some (kv.1,u)/\Ye kv.2 u:=by
 obtain ⟨q,h1,h2,h3⟩:=Paired.get r h;exact ⟨q.2,by rw [h1,h2],h3⟩
theorem Zqr{P:Program}{w:World}{K:Frag}{tg:Expr}{d:Addr}{o:Obj}{kvs:List (Key×V)}{vs:List (Key×Value)}{ep:Nat}(it:Addr)(hk:KV kvs vs)
  (hD:∀h:Heap,h.get? d=some o->h.DictAt (Zz P w) d vs ep):Zlz P w K tg (Itd d o kvs) [it] it (fun i h=>h.IsKeyIter it d i vs.length ep) where
 mem:=by simp
 obj:=fun i h st b hb=>by
  have e:b=it:=by simpa using hb
  subst e;obtain ⟨ob,e,c,dd⟩:=st;exact ⟨ob,e,fun v z=>by rw [dd] at z;cases z⟩
 keep:=fun i h h' st k=>st.at fun ob e=>k it (by simp) ob e
 item:=by
  intro X hP hw hK hc i a7 s σ H E I hf st hg;subst hP hw hK;obtain ⟨hq,d5⟩:=hg;obtain ⟨f0,f1,f2,f3,f4,f5⟩:=hf it (by simp);have M5:s.heap.get? d=some o:=(I.hok d _ hq).1;obtain ⟨u,hu,_⟩:=hk.get (i:=i) (kv:=kvs[i]) (by simp [d5]);refine wpAny_pyNext_dict_item (knd:=Zz X.prog X.w) st (hD _ M5) hu fun key h' D7 A7 sb=>?_
  have I1:Inv X a7 σ H { s with heap:=h' }:=I.turned (t':=s.toks) (fun b o hb e=>(sb.2 b hb).trans e) f0 f1 f3 f4 f5;obtain ⟨ob,e,c,dd⟩:=id A7;exact ⟨key,rfl,Zlq (s:={ s with heap:=h' }) e c dd (by decide) ⟨kV kvs[i].1,H,I1,Zsi D7,⟨rfl,kvs[i],by simp [d5],rfl⟩,A7,fun b hb=>(hf b hb).1⟩⟩
 done:=by
  intro X hP hw hK hc i a7 s σ H E I hf st hg;subst hP hw hK;obtain ⟨hq,B9⟩:=hg;obtain ⟨f0,f1,f2,f3,f4,f5⟩:=hf it (by simp);have M5:s.heap.get? d=some o:=(I.hok d _ hq).1;have hl:=KV.length hk;exact wpAny_pyNext_dict_end (knd:=Zz X.prog X.w) (I.ok.hd hc) st (hD _ M5) (List.getElem?_eq_none (by lia)) fun h' eb=>⟨rfl,I.turned (t':=s.toks) (fun b o hb e=>eb b o hb e) f0 f1 f3 f4 f5⟩
 self:=fun _ _ _ _ _ st h=>wpAny_pyIter_keyiter st h
def NF(X:Cx)(d:Addr)(u:HO):Prop:=(∀o u,X.H₀ d≠some (.frz o u))/\∀y,u ≠ .own y
def Zfu(X:Cx)(Q:Hp->Prop)(H:Hp):Prop:=∃d o u,H d=some (.frz o u)/\NF X d u/\Q (upd H d u)
theorem Zfu.run{X:Cx}{a7:List (Addr×Obj)}{σ:St}{H:Hp}{s:Shared}{Q:Hp->Prop}(I:Inv X a7 σ H s)(h:Zfu X Q H):∃H',Inv X a7 σ H' s/\Q H':=by
 obtain ⟨d,o,u,hd,nf,q⟩:=h;exact ⟨_,I.thaw hd nf.1 nf.2,q⟩
def Zy4(X:Cx)(tl:TE):TI:=fun σ H R=>tl σ H fun x H1=>∃d kvs,x=.ref d/\H1 d=some (.dK kvs)/\∀o,NF X d (.dK kvs)->R (Itd d o kvs) (upd H1 d (.frz o (.dK kvs)))
theorem Zey{P:Program}{w:World}{h:Heap}{d:Addr}{o:Obj}{vs:List (Key×Value)}(x:h.DictOf (Zz P w) d vs)(ho:h.get? d=some o):∃ep,∀h':Heap,h'.get? d=some o->h'.DictAt (Zz P w) d vs ep:=by
 obtain ⟨o',es,ep,e,r⟩:=x;rw [ho] at e;cases e;exact ⟨ep,fun h' e'=>⟨o,es,e',r⟩⟩
theorem Zz4{X:Cx}{tg l:Expr}{tl:TE}(hl:PE X l tl):PI X tg l (Zy4 X tl):=by
 intro a7 s σ H R I h;refine thn (hl a7 s σ H _ I h) fun v s1 ⟨y,H1,I1,r1,q1⟩=>?_
 obtain ⟨d,kvs,rfl,hd,q⟩:=q1;cases r1;obtain ⟨hz,hs,vs,kv,dd⟩:=Zlo I1.hok hd;obtain ⟨o,_,_,ho,_⟩:=id dd;obtain ⟨ep,hD⟩:=Zey dd ho;have I2:=I1.freeze hd rfl ho;refine wpAny_pyIter_dict (knd:=Zz X.prog X.w) hs (hD _ ho) ?_;have I3:Inv X a7 σ (upd H1 d (.frz o (.dK kvs))) { s1 with heap:=s1.heap.push { cls:=.type "dict_keyiterator",data:=.fields #[.ref d,.int 0 0,.int vs.length 0,.int ep 0] } }:=I2.kept (t':=s1.toks) fun b o e=>Heap.get?_push_of_some _ e
 refine ⟨s1.heap.objs.size,[s1.heap.objs.size],_,_,_,rfl,I3,Zqr _ kv hD,⟨_,Heap.get?_push_size _ rfl,rfl,rfl⟩,fun b hb=>?_,q o ⟨I1.notFrz hd (fun _ _ z=>nomatch z),fun _ z=>nomatch z⟩⟩;have e:b=s1.heap.objs.size:=by simpa using hb
 subst e;exact I2.fpOk (Nat.le_refl _) (I2.hok.fresh (Nat.le_refl _))
def Zzq(X:Cx)(t:TS):TS:=fun D σ H=>t { nx:=fun σ'=>Zfu X (D.nx σ'),rt:=fun v=>Zfu X (D.rt v),bk:=fun σ'=>Zfu X (D.bk σ'),ct:=fun σ'=>Zfu X (D.ct σ') } σ H
theorem Zpo{X:Cx}{st:Stmt}{t:TS}(h:PS X st t):PS X st (Zzq X t):=by
 intro a7 s σ H D I hq;refine thn (h a7 s σ H _ I hq) fun f s' z=>?_
 cases f with
 | next=>obtain ⟨σ',H',I',q⟩:=z;obtain ⟨H2,I2,q2⟩:=q.run I';exact ⟨σ',H2,I2,q2⟩
 | brk=>obtain ⟨σ',H',I',q⟩:=z;obtain ⟨H2,I2,q2⟩:=q.run I';exact ⟨σ',H2,I2,q2⟩
 | cont=>obtain ⟨σ',H',I',q⟩:=z;obtain ⟨H2,I2,q2⟩:=q.run I';exact ⟨σ',H2,I2,q2⟩
 | ret u=>obtain ⟨v,σ',H',I',r,q⟩:=z;obtain ⟨H2,I2,q2⟩:=q.run I';exact ⟨v,σ',H2,I2,r,q2⟩
def Zxf(X:Cx)(t:TE):TE:=fun σ H Q=>t σ H fun v=>Zfu X (Q v)
theorem Zus{X:Cx}{e:Expr}{t:TE}(h:PE X e t):PE X e (Zxf X t):=by
 intro a7 s σ H Q I hq;refine thn (h a7 s σ H _ I hq) fun u s' ⟨v,H',I',r,q⟩=>?_
 obtain ⟨H2,I2,q2⟩:=q.run I';exact ⟨v,H2,I2,r,q2⟩
theorem Zy1{d:Addr}{o:Obj}{kvs:List (Key×V)}{g:TG}{tb:TS}{D:Zc1}{σ:St}{H:Hp}(Pv:Nat->St->Hp->Prop)(h0:Pv 0 σ H)(hl:∀i σ H,i<=kvs.length->Pv i σ H->H d=some (.frz o (.dK kvs)))
  (hs:∀i kv σ H,kvs[i]? =some kv->Pv i σ H->g (kV kv.1) σ H fun σ2 H2=>tb { D with nx:=Pv (i+1),ct:=Pv (i+1),bk:=D.nx } σ2 H2) (hd:∀σ H,Pv kvs.length σ H->D.nx σ H) :
  ∃W:Nat->Nat->St->Hp->Prop,(∃m,W 0 m σ H)/\∀i m σ H,W i m σ H ->
   ((Itd d o kvs).stop i H/\D.nx σ H)\/((Itd d o kvs).go i H/\∃N:St->Hp->Prop,(∀σ' H',N σ' H'->∃m',m'<m/\W (i+1) m' σ' H')/\∀x H',(Itd d o kvs).yld i H x H'->g x σ H' fun σ2 H2=>tb { D with nx:=N,ct:=N,bk:=D.nx } σ2 H2):=by
 refine ⟨fun i m σ H=>m=kvs.length-i/\i<=kvs.length/\Pv i σ H,⟨kvs.length,by simp,Nat.zero_le _,h0⟩,?_⟩;rintro i m σ H ⟨rfl,hi,p⟩;have q:=hl i σ H hi p
 by_cases d5:i<kvs.length
 ·refine .inr ⟨⟨q,d5⟩,Pv (i+1),fun σ' H' p'=>⟨kvs.length-(i+1),by lia,rfl,d5,p'⟩,fun x H' y=>?_⟩;obtain ⟨e,kv,B7,ex⟩:=y;subst e ex;exact hs i kv σ _ B7 p
 ·have e:i=kvs.length:=by lia
  subst e;exact .inl ⟨⟨q,Nat.le_refl _⟩,hd σ H p⟩
section
variable {X:Cx} {a7:List (Addr×Obj)} {σ:St} {H:Hp} {s:Shared}
theorem Inv.turnedNew{ch:List Addr}{o:HO}{h':Heap}{t':Nat}(I:Inv X a7 σ H s)(hf:∀b∈ch,Zhy X a7 H b)(k:∀b u,b∉ch->s.heap.get? b=some u->h'.get? b=some u)
  (new:Yf X.prog X.w (upd H s.heap.objs.size o) h' s.heap.objs.size o):Inv X a7 σ (upd H s.heap.objs.size o) { s with heap:=h',toks:=t' }:=by
 have hn:H s.heap.objs.size=none:=I.fresh;have u5:∀b u,s.heap.get? b=some u->b≠s.heap.objs.size:=fun b u e=>Nat.ne_of_lt (Heap.lt_size e)
 have trk:∀b u,H b=some u->b∉ch:=fun b u e z=>by rw [(hf b z).1] at e;cases e
 refine I.step (g':=s.gens) (d':=s.drawn) (ch:=ch) (fun b hb=>?_) (fun b o _ _ hc e _=>k b o hc e) (fun b o _ _ hc e _=>⟨o.slots,k b o hc e⟩) (fun b o _ e n=>by rw [Zd (u5 b o e)];exact n)
  (fun b o hc e=>⟨o,k b o hc e⟩) (fun b xs e=>by rw [Zd (Zg e hn)];exact e) (fun b ob u e=>by rw [Zd (Zg e hn)];exact e) (fun b ps e=>⟨#[],by rw [Zd (Zg e hn),e];simp⟩) (fun m hm=>?_) (fun b u e=>?_) I.bare
 ·obtain ⟨f0,f1,f2,f3,f4,f5⟩:=hf b hb;exact ⟨f3,f1,f4,f5⟩
 ·obtain ⟨ob,es,ep,ho,r⟩:=hm;exact ⟨ob,es,ep,k _ ob (fun z=>(hf _ z).2.1 rfl) ho,r⟩
 ·by_cases hb:b=s.heap.objs.size
  ·subst hb;rw [Zi] at e;cases e;exact new
  ·rw [Zd hb] at e;refine (I.hok b u e).stay (fun c v hc q=>k c v ?_ q) (fun c q=>by rw [Zd (Zg q hn)];exact q) fun c xs q=>by rw [Zd (Zg q hn)];exact q
   rcases hc with z|z
   ·rw [z];exact trk b u e
   ·exact trk c _ z
end
def Ite(K:Frag)(l:Addr):It :=
 ⟨fun i H=>∃xs x,SqL K H l xs/\xs[i]? =some x,fun i H x H'=>∃p y,x=.ref p/\H p=none/\H'=upd H p (.tup [.int (i:Nat),y])/\∀xs,SqL K H l xs->xs[i]? =some y,fun i H=>∃xs,SqL K H l xs/\xs.length<=i⟩
theorem Zq0{P:Program}{w:World}{K:Frag}{F0:List Expr}{x1:Nat}{pos:Pos}{l:Addr}(e it:Addr)(u4:e≠it) :
  Zlz P w K (.Tuple F0 x1 pos) (Ite K l) [e,it] e (fun i h=>(∃u5,IsEnum h e it (i:Nat) u5)/\h.IsListIter it l i) where
 mem:=by simp
 obj:=fun i h st b hb=>by
  obtain ⟨⟨u5,he⟩,hi⟩:=st;rcases List.mem_cons.mp hb with rfl|hb
  ·exact ⟨_,he,fun v z=>nomatch z⟩
  ·have q:b=it:=by simpa using hb
   subst q;obtain ⟨o,e,c,d⟩:=hi;exact ⟨o,e,fun v z=>by rw [d] at z;cases z⟩
 keep:=fun i h h' st k=>by
  obtain ⟨⟨u5,he⟩,hi⟩:=st;exact ⟨⟨u5,k e (by simp) _ he⟩,hi.at fun o q=>k it (by simp) o q⟩
 item:=by
  intro X hP hw hK hc i a7 s σ H E I hf st hg;subst hP hw hK;obtain ⟨⟨u5,he⟩,hi⟩:=st;obtain ⟨xs,x,hq,hx⟩:=hg;obtain ⟨a8,rv,p,hz⟩:=I.list hq;obtain ⟨u,hu,ru⟩:=rv.get hx;refine wpAny_pyNext_enum_item he hi p.isList (x:=u) (by simpa using hu) u4 fun h' ho hi' ht hsz kk=>?_
  refine ⟨_,rfl,wpAny_letOwnedTupleGo_enum ho fun h2 he2 sb=>?_⟩;have hel:e<s.heap.objs.size:=Heap.lt_size he;have L5:it<s.heap.objs.size:=let ⟨o,q,_⟩:=hi;Heap.lt_size q;have k2:∀b v,b∉[e,it]->s.heap.get? b=some v->h2.get? b=some v:=fun b v hb q=>by
   have b1:b≠e:=fun z=>hb (by simp [z])
   have b2:b≠it:=fun z=>hb (by simp [z])
   exact (sb.2 b b1).trans (kk b v b1 b2 q)
  have htup:h2.get? s.heap.objs.size=some { cls:=.type "tuple",data:=.seq #[.int i s.toks,u] }:=(sb.2 _ (Nat.ne_of_gt hel)).trans ht;have new:Yf X.prog X.w (upd H s.heap.objs.size (.tup [.int (i:Nat),x])) h2 s.heap.objs.size (.tup [.int (i:Nat),x]) :=
   ⟨sz (by simp),[.int i s.toks,u],.cons ⟨_,rfl⟩ (.cons ru .nil),⟨_,htup,rfl,_,rfl⟩⟩
  refine ⟨.ref s.heap.objs.size,_,I.turnedNew (t':=s.toks+1) hf k2 new,rfl,⟨_,x,rfl,I.fresh,rfl,fun ys hy=>by rw [I.list_inj hy hq];exact hx⟩,⟨⟨_,he2⟩,?_⟩,fun b hb=>?_⟩
  ·exact hi'.at fun o q=>(sb.2 it u4.symm).trans q
  ·rw [Zd ?_]
   ·exact (hf b hb).1
   ·rcases List.mem_cons.mp hb with rfl|hb
    ·exact Nat.ne_of_lt hel
    ·have q:b=it:=by simpa using hb
     subst q;exact Nat.ne_of_lt L5
 done:=by
  intro X hP hw hK hc i a7 s σ H E I hf st hg;subst hP hw hK;obtain ⟨⟨u5,he⟩,hi⟩:=st;obtain ⟨xs,hq,hx⟩:=hg;obtain ⟨a8,rv,p,hz⟩:=I.list hq;obtain ⟨f0,f1,f2,f3,f4,f5⟩:=hf it (by simp);have hl:=rv.length;exact wpAny_pyNext_enum_end (I.ok.hd hc) he hi p.isList (by simp;lia) fun h' eb=>⟨rfl,I.turned (t':=s.toks) (fun b o hb e=>eb b o hb e) f0 f1 f3 f4 f5⟩
 self:=fun _ _ _ _ _ st h=>by
  obtain ⟨⟨u5,he⟩,_⟩:=st;exact wpAny_pyIter_enum he h
def Zzo(K:Frag)(ta:TA):TI:=fun σ H R=>ta σ H fun vs H1=>∃l,vs=[.ref l]/\(∃xs,SqL K H1 l xs)/\R (Ite K l) H1
theorem Zif{X:Cx}{F0:List Expr}{x1:Nat}{O4:Pos}{a:Expr}{ta:TA}{p pos:Pos} (hg:Gl X "enumerate") (hm:X.mg "enumerate" =none) (ha:PA X [a] ta) (hs:starEach [a] X.env=[(false,eval a X.env)]:=by rfl) :
  PI X (.Tuple F0 x1 O4) (.Call (.Name "enumerate" p) [a] [] pos) (Zzo X.K ta):=by
 intro a7 s σ H R I h;refine Call_ (Zfi I hg hm boot_enumerate (PyProof.Rows.callWith_type1 (thn (ha pos a7 s σ H _ I h) fun us s1 ⟨vs,H1,I1,r1,q1⟩=>?_) hs rfl));obtain ⟨l,e,⟨xs,hq⟩,q⟩:=q1;subst e;obtain ⟨u,rfl,ru⟩:=Za0 r1;cases ru;obtain ⟨a8,rv,pl,hz⟩:=I1.list hq;refine call_enumerate_list pl.isList fun h' he hi hsz kk=>wpAny_pyIter_enum he ?_
 have I2:Inv X a7 σ H1 { s1 with heap:=h' }:=I1.kept (t':=s1.toks) kk;refine ⟨s1.heap.objs.size+1,[s1.heap.objs.size+1,s1.heap.objs.size],_,_,H1,rfl,I2,Zq0 _ _ (Nat.succ_ne_self _),⟨⟨_,he⟩,hi⟩,fun b hb=>?_,q⟩;rcases List.mem_cons.mp hb with rfl|hb
 ·exact I1.fpOk (Nat.le_succ _) (I1.hok.fresh (Nat.le_succ _))
 ·have e:b=s1.heap.objs.size:=by simpa using hb
  subst e;exact I1.fpOk (Nat.le_refl _) (I1.hok.fresh (Nat.le_refl _))
theorem Zge{K:Frag}{l:Addr}{xs:List V}{g:TG}{tb:TS}{D:Zc1}{σ:St}{H:Hp}(Pv:Nat->St->Hp->Prop)(h0:Pv 0 σ H)(hl:∀i σ H,i<=xs.length->Pv i σ H->SqL K H l xs)
  (hs:∀i x σ H,xs[i]? =some x->Pv i σ H->∀p H1,Same H H1->H p=none->H1 p=some (.tup [.int (i:Nat),x])->g (.ref p) σ H1 fun σ2 H2=>tb { D with nx:=Pv (i+1),ct:=Pv (i+1),bk:=D.nx } σ2 H2) (hd:∀σ H,Pv xs.length σ H->D.nx σ H) :
  ∃W:Nat->Nat->St->Hp->Prop,(∃m,W 0 m σ H)/\∀i m σ H,W i m σ H ->
   ((Ite K l).stop i H/\D.nx σ H)\/((Ite K l).go i H/\∃N:St->Hp->Prop,(∀σ' H',N σ' H'->∃m',m'<m/\W (i+1) m' σ' H')/\∀x H',(Ite K l).yld i H x H'->g x σ H' fun σ2 H2=>tb { D with nx:=N,ct:=N,bk:=D.nx } σ2 H2):=by
 refine ⟨fun i m σ H=>m=xs.length-i/\i<=xs.length/\Pv i σ H,⟨xs.length,by simp,Nat.zero_le _,h0⟩,?_⟩;rintro i m σ H ⟨rfl,hi,p⟩;have q:=hl i σ H hi p
 by_cases d5:i<xs.length
 ·refine .inr ⟨⟨xs,xs[i],q,by simp [d5]⟩,Pv (i+1),fun σ' H' p'=>⟨xs.length-(i+1),by lia,rfl,d5,p'⟩,fun x H' y=>?_⟩;obtain ⟨a,y,e,hn,e2,hy⟩:=y;subst e e2;exact hs i y σ H (hy xs q) p a _ (Same.new hn) hn Zi
 ·have e:i=xs.length:=by lia
  subst e;exact .inl ⟨⟨xs,q,Nat.le_refl _⟩,hd σ H p⟩
def Iti(d:Addr)(o:Obj)(kvs:List (Key×V)):It :=
 ⟨fun i H=>H d=some (.frz o (.dK kvs))/\i<kvs.length,fun i H x H'=>∃p kv,x=.ref p/\H p=none/\kvs[i]? =some kv/\H'=upd H p (.tup [kV kv.1,kv.2]),fun i H=>H d=some (.frz o (.dK kvs))/\kvs.length<=i⟩
theorem Zom{P:Program}{w:World}{K:Frag}{F0:List Expr}{x1:Nat}{pos:Pos}{d:Addr}{o:Obj}{kvs:List (Key×V)}{vs:List (Key×Value)}{ep:Nat}(it:Addr)(hk:KV kvs vs)
  (hD:∀h:Heap,h.get? d=some o->h.DictAt (Zz P w) d vs ep):Zlz P w K (.Tuple F0 x1 pos) (Iti d o kvs) [it] it (fun i h=>∃ok ov,IsItemIter h it d i vs.length ep ok ov) where
 mem:=by simp
 obj:=fun i h st b hb=>by
  have e:b=it:=by simpa using hb
  subst e;obtain ⟨ok,ov,e⟩:=st;exact ⟨_,e,fun v z=>nomatch z⟩
 keep:=fun i h h' st k=>by
  obtain ⟨ok,ov,e⟩:=st;exact ⟨ok,ov,k it (by simp) _ e⟩
 item:=by
  intro X hP hw hK hc i a7 s σ H E I hf st hg;subst hP hw hK;obtain ⟨ok,ov,hi⟩:=st;obtain ⟨hq,d5⟩:=hg;have M5:s.heap.get? d=some o:=(I.hok d _ hq).1;obtain ⟨u,hu,ru⟩:=hk.get (i:=i) (kv:=kvs[i]) (by simp [d5]);refine wpAny_pyNext_items_item (knd:=Zz X.prog X.w) hi (hD _ M5) hu fun key h' D7 ho ht hsz kk=>?_
  refine ⟨_,rfl,wpAny_letOwnedTupleGo_items ho fun h2 he2 sb=>?_⟩;have hel:it<s.heap.objs.size:=Heap.lt_size hi;have k2:∀b v,b∉[it]->s.heap.get? b=some v->h2.get? b=some v:=fun b v hb q=>by
   have b1:b≠it:=fun z=>hb (by simp [z])
   exact (sb.2 b b1).trans (kk b v b1 q)
  have htup:h2.get? s.heap.objs.size=some { cls:=.type "tuple",data:=.seq #[key,u] }:=(sb.2 _ (Nat.ne_of_gt hel)).trans ht;have new:Yf X.prog X.w (upd H s.heap.objs.size (.tup [kV kvs[i].1,kvs[i].2])) h2 s.heap.objs.size (.tup [kV kvs[i].1,kvs[i].2]) :=
   ⟨sz (by simp),[key,u],.cons (Zsi D7) (.cons ru .nil),⟨_,htup,rfl,_,rfl⟩⟩
  refine ⟨.ref s.heap.objs.size,_,I.turnedNew (t':=s.toks) hf k2 new,rfl,⟨_,kvs[i],rfl,I.fresh,by simp [d5],rfl⟩,⟨_,_,he2⟩,fun b hb=>?_⟩;have e:b=it:=by simpa using hb
  subst e;rw [Zd (Nat.ne_of_lt hel)];exact (hf _ hb).1
 done:=by
  intro X hP hw hK hc i a7 s σ H E I hf st hg;subst hP hw hK;obtain ⟨ok,ov,hi⟩:=st;obtain ⟨hq,B9⟩:=hg;obtain ⟨f0,f1,f2,f3,f4,f5⟩:=hf it (by simp);have M5:s.heap.get? d=some o:=(I.hok d _ hq).1;have hl:=KV.length hk;exact wpAny_pyNext_items_end (knd:=Zz X.prog X.w) (I.ok.hd hc) hi (hD _ M5) (List.getElem?_eq_none (by lia)) fun h' eb=>⟨rfl,I.turned (t':=s.toks) (fun b o hb e=>eb b o hb e) f0 f1 f3 f4 f5⟩
 self:=fun _ _ _ _ _ st h=>by
  obtain ⟨ok,ov,hi⟩:=st;exact PySem.W.kcp_self hi h
def Zxy(X:Cx)(tl:TE):TI:=fun σ H R=>tl σ H fun x H1=>∃d kvs,x=.ref d/\H1 d=some (.dK kvs)/\∀o,NF X d (.dK kvs)->R (Iti d o kvs) (upd H1 d (.frz o (.dK kvs)))
theorem Zn6{X:Cx}{F0:List Expr}{x1:Nat}{O4 i5 g9:Pos}{o:Expr}{to:TE}(ho:PE X o to) (z9:attributeBase o "items" X.env (eval o X.env)=eval o X.env:=by rfl) (A0:(i5.endLine ==g9.line)=true:=by rfl) :
  PI X (.Tuple F0 x1 O4) (.Call (.Attribute o "items" i5) [] [] g9) (Zxy X to):=by
 intro a7 s σ H R I h;refine wpAny_Call_method0_late z9 A0 (thn (ho a7 s σ H _ I h) fun v s1 ⟨y,H1,I1,r1,q1⟩=>?_);obtain ⟨d,kvs,rfl,hd,q⟩:=q1;cases r1;obtain ⟨hz,hs,vs,kv,dd⟩:=Zlo I1.hok hd;obtain ⟨ob,_,_,w9,R7,_⟩:=id dd;obtain ⟨ep,hD⟩:=Zey dd w9;refine ⟨"dict", "dict.items",PySem.F.plainAttrs_dict,PySem.F.slot_dict_items,PySem.F.type_dict_items,dd.typeIs,fun a e=>?_,Calls.callWith_builtin rfl (PySem.evalArgs_none ?_)⟩
 ·cases e;exact ⟨ob,w9,R7.2.1⟩
 refine call_meetsIn PySem.F.slot_dict_items dd.typeIs PySem.F.entry_dict_items (PySem.F.args_dict_items_1 _) (meets_dict_items (Zz X.prog X.w) d hs) ⟨⟨vs,dd⟩,?_⟩;have I2:=I1.freeze hd rfl w9;have I3:Inv X a7 σ (upd H1 d (.frz ob (.dK kvs))) { s1 with heap:=s1.heap.push { cls:=.type "dict_items",data:=.fields #[.ref d] } }:=I2.kept (t':=s1.toks) fun b o e=>Heap.get?_push_of_some _ e
 refine wpAny_pyIter_items (knd:=Zz X.prog X.w) (d:=d) ⟨_,Heap.get?_push_size _ rfl,rfl,rfl⟩ (hD _ (Heap.get?_push_of_some _ w9)) ?_;refine ⟨_,[_],_,_,_,rfl,I3.kept (t':=s1.toks) fun b o e=>Heap.get?_push_of_some _ e,Zom _ kv hD,⟨_,_,Heap.get?_push_size _ rfl⟩,fun b hb=>?_,q ob ⟨I1.notFrz hd (fun _ _ z=>nomatch z),fun _ z=>nomatch z⟩⟩;have e:=List.mem_singleton.mp hb;subst e;exact I3.fpOk (Nat.le_refl _) (I3.hok.fresh (Nat.le_refl _))
theorem Zqh{d:Addr}{o:Obj}{kvs:List (Key×V)}{g:TG}{tb:TS}{D:Zc1}{σ:St}{H:Hp}(Pv:Nat->St->Hp->Prop)(h0:Pv 0 σ H)(hl:∀i σ H,i<=kvs.length->Pv i σ H->H d=some (.frz o (.dK kvs)))
  (hs:∀i kv σ H,kvs[i]? =some kv->Pv i σ H->∀p H1,Same H H1->H p=none->H1 p=some (.tup [kV kv.1,kv.2])->g (.ref p) σ H1 fun σ2 H2=>tb { D with nx:=Pv (i+1),ct:=Pv (i+1),bk:=D.nx } σ2 H2) (hd:∀σ H,Pv kvs.length σ H->D.nx σ H) :
  ∃W:Nat->Nat->St->Hp->Prop,(∃m,W 0 m σ H)/\∀i m σ H,W i m σ H ->
   ((Iti d o kvs).stop i H/\D.nx σ H)\/((Iti d o kvs).go i H/\∃N:St->Hp->Prop,(∀σ' H',N σ' H'->∃m',m'<m/\W (i+1) m' σ' H')/\∀x H',(Iti d o kvs).yld i H x H'->g x σ H' fun σ2 H2=>tb { D with nx:=N,ct:=N,bk:=D.nx } σ2 H2):=by
 refine ⟨fun i m σ H=>m=kvs.length-i/\i<=kvs.length/\Pv i σ H,⟨kvs.length,by simp,Nat.zero_le _,h0⟩,?_⟩;rintro i m σ H ⟨rfl,hi,p⟩;have q:=hl i σ H hi p
 by_cases d5:i<kvs.length
 ·refine .inr ⟨⟨q,d5⟩,Pv (i+1),fun σ' H' p'=>⟨kvs.length-(i+1),by lia,rfl,d5,p'⟩,fun x H' y=>?_⟩;obtain ⟨a,kv,e,hn,B7,e2⟩:=y;subst e e2;exact hs i kv σ H B7 p a _ (Same.new hn) hn Zi
 ·have e:i=kvs.length:=by lia
  subst e;exact .inl ⟨⟨q,Nat.le_refl _⟩,hd σ H p⟩
def Zlg(K:Frag)(H:Hp)(x y:V):Prop:=(W4 x=true/\W4 y=true/\eqV x y=true)\/∃n t,n<=60/\Im K H n t x/\Im K H n t y
theorem Zlg.eqAt{X:Cx}{a7:List (Addr×Obj)}{σ:St}{H:Hp}{s:Shared}{A:Around}{x y:V}{u v:Value}(I:Inv X a7 σ H s)(h:Zlg X.K H x y)(rx:Ye x u)(ry:Ye y v)(hu:A.units+60<cLine):SeqAt.EqAt A s u v true:=by
 rcases h with ⟨f1,f2,e⟩|⟨n,t,hn,i1,i2⟩
 ·exact Z6 (Zjx rx ry f1 f2) e
 ·exact Z6 (Im.eqAt I n A i1 i2 rx ry (by lia)) (decide_eq_true rfl)
def Zyo(K:Frag):R2:=fun x y H Q=>∃a b ka kb,x=.ref a/\y=.ref b/\Rd H a (.dK ka)/\Rd H b (.dK kb)/\ka.length=kb.length/\(∀kv∈ka,∃v,Yv kb kv.1=some v/\Zlg K H kv.2 v)/\Q (.bl true) H
theorem Zxw{X:Cx}(hu:X.A.units+64<cLine):OpR X (compareOp .Eq) (Zyo X.K):=by
 intro a7 s σ H x y v u Q I rx ry h;obtain ⟨a,b,ka,kb,rfl,rfl,ha,hb,hl,x0,q⟩:=h;cases rx;cases ry;obtain ⟨_,sa,va,ra,da⟩:=Zbt I.hok ha;obtain ⟨_,sb,vb,rb,db⟩:=Zbt I.hok hb;have la:=KV.length ra;have lb:=KV.length rb;have hits:∀{ka':List (Key×V)} {va':List (Key×Value)},KV ka' va'->(∀kv∈ka',∃v,Yv kb kv.1=some v/\Zlg X.K H kv.2 v)->PySem.W.KeqHits X.A.in1 s vb va' true:=by
  intro ka' va' r
  induction r with
  | nil=>intro _;exact .nil
  | cons r t ih =>
   rename_i p q l m;intro hv;obtain ⟨e1,r2⟩:=r;obtain ⟨v,hv1,hv2⟩:=hv p List.mem_cons_self;have E2:=KV.val rb p.1;rw [hv1] at E2;obtain ⟨y,hy,ry⟩:=Zc0.some_of E2;rw [e1] at hy;have:=PySem.W.KeqHits.hit (k:=q.1) (v:=q.2) hy (hv2.eqAt (A:=X.A.in1) I r2 ry (by rw [X7];lia)) (ih fun kv B7=>hv kv (List.mem_cons_of_mem _ B7));simpa using this
 refine PySem.W.keq_eq (knd:=Zz X.prog X.w) sa sb da db (by lia) (fun _=>hits ra x0) ⟨.bl true,H,I,?_,q⟩;rw [show (va.length ==vb.length)=true by rw [<-la,<-lb,hl];simp]
 rfl
def Wa(K:Frag):R2:=fun x y H Q=>rEq x y H Q\/Zuz K false x y H Q\/Zyo K x y H Q
def W1(K:Frag):List V->Hp->VK->Prop:=fun xs H Q=>(∃p ys,xs=[.ref p]/\(SqL K H p ys\/SqT K H p ys)/\Q (.int ys.length) H)\/(∃z,xs=[.str z]/\z.length<=sizeLine/\Q (.int z.length) H)\/∃a kvs,xs=[V.ref a]/\H a=some (.dK kvs)/\Q (.int kvs.length) H
def Zpd(K:Frag):V->Option Int->Option Int->Hp->VK->Prop:=fun x lo hi H Q=>Zvy K x lo hi H Q\/Zvx K x lo hi H Q\/Zzw x lo hi H Q
section
variable {X:Cx} {k:Nat}
theorem Wd(hr:Xj k X.A):OpR X (compareOp .Eq) (Wa X.K):=Zv5.or ((Zxr hr.units).or (Zxw hr.units))
theorem W6:Xe X (.builtin "len") (W1 X.K):=Zmr.or (Zmp.or Zri)
theorem Zq9:SlR X (Zpd X.K):=Zuw.or (Ztk.or Zxb)
def Zpv(K:Frag):List V->Hp->VK->Prop:=fun xs H Q=>∃p ys,xs=[.ref p]/\(SqL K H p ys\/SqT K H p ys)/\New H (.lst ys) Q
theorem Zff:Xe X (.type "list") (Zpv X.K):=Zmv.imp fun xs H Q ⟨p,ys,h1,h2,h3⟩=>⟨p,ys,h1,h2,fun l hl=>h3.at l hl⟩
def Zv0:List V->Hp->VK->Prop:=fun xs H Q=>∃p kvs,xs=[.ref p]/\Rd H p (.dK kvs)/\New H (.dK kvs) Q
theorem Zot:Xe X (.type "dict") Zv0:=by
 intro a7 s σ H xs us Q I r h;obtain ⟨p,kvs,rfl,hd,q⟩:=h;obtain ⟨u,rfl,ru⟩:=Za0 r;cases ru;exact Zr3 I hd fun a s' hn I'=>⟨.ref a,_,I',rfl,q.at a hn⟩
def Zt4:TE:=fun _ H Q=>New H (.dK []) Q
theorem Zhb{pos:Pos}:PE X (.Dict [] [] pos) Zt4:=fun a7 s σ H Q I h=>Zrx a7 s σ H Q I fun p hp=>h.at p hp
def Zuu:TE:=fun _ H Q=>New H (.dT []) Q
theorem Zk9{pos:Pos}:PE X (.Dict [] [] pos) Zuu:=fun a7 s σ H Q I h=>Zs5 a7 s σ H Q I fun p hp=>h.at p hp
def Zzy(K:Frag):List V->Hp->VK->Prop:=fun xs H Q=>∃(p:Addr) (bs:List Bool),xs=[.ref p]/\SqL K H p (bs.map V.bl)/\Q (.bl (bs.all id)) H
theorem Zrn(hc:X.calm=true):Xe X (.builtin "all") (Zzy X.K):=Zi0 hc
def Zdc(K:Frag):List V->Hp->VK->Prop:=fun xs H Q=>∃x c b t,xs=[x,c]/\Xo K H x t/\((∃n,c=.ty n/\kitOne K t (.type n)=some b)\/∃a,c=.ref a/\kitOne K t (.ref a)=some b)/\Q (.bl b) H
theorem Yt:Xe X (.builtin "isinstance") (Zdc X.K):=Znt
end
theorem Zad{X:Cx}{i:Nat}{y:Str}{py spos:Pos}{J8 tg k9:Expr}{E1:List Expr}{scope:Scope}{pos:Pos}{cl:List (Str×Addr)}{N':List Str}{fr:St->St}{wi:TI}{g:TG}{tf:TT}{te:TE}
  (hN:X.N.Nodup) (hi':X.N[i]? =some y) (hy:Loc X.env.scope y) (hc:X.calm=true) (S:Ya X scope cl N' fr) (hi:PI X tg k9 wi) (hg:∀s H C ex,PG (Y5 X scope cl N' s H C ex) tg g) (hf:∀s H C ex,PF (Y5 X scope cl N' s H C ex) E1 tf)
  (he:∀s H C ex,PE (Y5 X scope cl N' s H C ex) J8 te) (hs:∀x,foldedSetIterable k9 X.env x=pure x:=by intro _;rfl)
  (hsw:swapsWith (.ListComp J8 [⟨tg,k9,E1,0⟩] scope pos) (some (.Name y py)) spos.line X.env=pure true:=by rfl) (F6:X.fn y=true\/X.env.scope.names.lookup y=some .local:=by first | exact .inl rfl | exact .inr rfl | assumption) :
  PS X (.Assign [.Name y py] (.ListComp J8 [⟨tg,k9,E1,0⟩] scope pos) spos) (Zu1 (Zv6 wi fr g tf te) (Zdt i)):=by
 intro a7 s σ H D I h;rw [exec_Assign_Name_used _ _ _ _ hsw];refine wpAny_bind (wpAny_standAt (wpAny_bind ?_));show wpAny _ X.A (do let _ <-comprehension (.ListComp J8 [⟨tg,k9,E1,0⟩] scope pos) scope X.env _ (newList []) false (eval k9 X.env) (some (assign (.Name y py) X.env))) _ _ s;refine wpAny_bind (wpAny_mono (wpAny_comprehension_free (use:=some (assign (.Name y py) X.env)) (Q:=fun _ s'=>∃σ' H',Inv X a7 σ' H' s'/\D.nx σ' H') rfl hs S.clos S.kind S.names (thn (hi a7 s σ H _ I h) fun v s1 h1=>thn h1 fun itv s2 h2=>?_)) (fun _ s' hq=>wpAny_pure (wpAny_pure hq)) fun _ _ e=>e);obtain ⟨it,fp,tn,J,H2,e,I2,T,st2,f2,q⟩:=h2;subst e;refine wpAny_newObj_type (wpAny_newFunctionEnv S.cell (by intro y hy;simp at hy) (fun h₁ D6 z6=>?_) S.kind);dsimp only at D6 z6 ⊢;generalize hP:s2.heap.push { cls:=.type "list",dict:=none,data:=.seq ([]:List Value).toArray }=P at D6 z6 ⊢;have hPz:P.objs.size=s2.heap.objs.size+1:=by rw [<-hP,Heap.size_push]
 have P8:s2.heap.objs.size<P.objs.size:=by rw [hPz];exact Nat.lt_succ_self _
 have R6:∀b∈fp,∃o,s2.heap.get? b=some o:=fun b hb=>let ⟨o,e,_⟩:=T.obj _ _ st2 b hb;⟨o,e⟩
 have C7:∀b,b<s2.heap.objs.size->b≠P.objs.size:=fun b hb=>Nat.ne_of_lt (Nat.lt_trans hb P8)
 have u5:∀b o,s2.heap.get? b=some o->h₁.get? b=some o:=fun b o e=>z6.extBut b o (C7 b (Heap.lt_size e)) (Heap.get?_push_of_some _ (hP ▸ Heap.get?_push_of_some _ e))
 have B8:h₁.get? s2.heap.objs.size=some { cls:=.type "list",data:=.seq ([]:List Value).toArray 0 }:=z6.extBut _ _ (Nat.ne_of_lt P8) (Heap.get?_push_of_some _ (hP ▸ Heap.get?_push_size _ rfl));have fD:H2 s2.heap.objs.size=none:=I2.hok.fresh (Nat.le_refl _);obtain ⟨W,⟨m0,w0⟩,D8⟩:=q s2.heap.objs.size fD;have hz:h₁.objs.size<=P.objs.size+1:=by
  have e:=z6.1;rw [Heap.size_push] at e;exact Nat.le_of_eq e
 have st1:tn 0 h₁:=T.keep _ _ _ st2 fun b hb o e=>u5 b o e
 have z7:∀{j7:List (Addr×Obj)} {H':Hp},(∀p∈j7,p.1∉fp)->(∀b∈fp,H' b=none)->∀b∈fp,Zhy (Y5 X scope cl N' s2 H2 P.objs.size fp) j7 H' b:=fun {j7 H'} hp hn b hb=>by
  obtain ⟨o,e⟩:=R6 b hb;obtain ⟨_,f1,f2',f3,f4,f5⟩:=f2 b hb;refine ⟨hn b hb,C7 b (Heap.lt_size e),fun z=>?_,.inl hb,fun x c h=>f4 x c (S.sub x c h),fun p hp' z=>?_⟩
  ·rcases List.mem_cons.mp (I2.stkSub b z) with q|q
   ·exact f1 q
   ·exact f2' q
  ·have hp2:p∈j7:=by simpa [Y5] using hp'
   exact hp p hp2 (by rw [z];exact hb)
 have loop:∀s3:Shared,s3={ s2 with heap:=h₁,toks:=s2.toks+([]:List (Str×Value)).length } ->
   codeAny (model X.prog X.w) X.A (.compLoop (.ListComp J8 [⟨tg,k9,E1,0⟩] scope pos) 0 (.ref it) (.ref s2.heap.objs.size) (compEnvC scope cl P.objs.size X.env)) (compPost (model X.prog X.w) X.A X.xe (some (assign (.Name y py) X.env)) (fun _ s'=>∃σ' H',Inv X a7 σ' H' s'/\D.nx σ' H') (.ref s2.heap.objs.size) P.objs.size) s3:=by
  rintro s3 rfl;have I3:Inv (Y5 X scope cl N' s2 H2 P.objs.size fp) [] (fr σ) (upd H2 s2.heap.objs.size (.lst [])) { s2 with heap:=h₁,toks:=s2.toks+([]:List (Str×Value)).length }:=Zjc I2 S P8 rfl f2 R6 u5 B8 D6 hz;refine Zal (fun n s'=>∃i ys H',Inv (Y5 X scope cl N' s2 H2 P.objs.size fp) [] (fr σ) H' s'/\tn i s'.heap/\(∀b∈fp,H' b=none)/\W i n ys H') ?_ m0 ⟨0,[],_,I3,st1,fun b hb=>?_,w0⟩
  ·rintro n s3 ⟨i,ys,H3,I3,U3,U4,w3⟩;rcases D8 i n ys H3 w3 with ⟨stop,qn⟩|⟨go,N,hN,step⟩
   ·refine thn (T.done (Y5 X scope cl N' s2 H2 P.objs.size fp) rfl rfl rfl hc i [] s3 (fr σ) H3 _ I3 (z7 (by simp) U4) U3 stop) fun r s4 ⟨hr,I4⟩=>?_
    subst hr;obtain ⟨m4,hn4,_⟩:=I4.loc;obtain ⟨oC,esC,epC,hoC,hrC⟩:=id hn4;have J0:Inv X a7 σ H3 s4:=Zoa I2 P8 f2 I4 (h':=s4.heap) ⟨rfl,fun _ _=>rfl⟩;have big:s2.heap.objs.size<=P.objs.size:=Nat.le_of_lt P8;have fC:H3 P.objs.size=none:=I4.free;have okC:=I2.fpOk big fC;have J1:Inv X (a7++[(P.objs.size,oC)]) σ H3 s4:=J0.pins_of fun p hp=>by
     rcases List.mem_append.mp hp with hp|hp
     ·exact J0.pin p (List.mem_append_right _ hp)
     ·have e:p=(P.objs.size,oC):=by simpa using hp
      subst e;exact ⟨hoC,fC,okC.2.1,okC.2.2.1,fun v z=>by rw [hrC.1] at z;cases z⟩
    refine thn (Zmh hN hi' hy F6 (X:=X) (pos:=py) _ s4 σ H3 (.ref s2.heap.objs.size) (.ref s2.heap.objs.size) _ J1 rfl qn) fun _ s5 ⟨σ5,H5,I5,q5⟩=>?_
    obtain ⟨p1,p2,p3,p4,p5⟩:=I5.pin (P.objs.size,oC) (List.mem_append_right _ (List.mem_append_right _ (by simp)));exact ⟨m4,⟨oC,esC,epC,p1,hrC⟩,fun h' K8=>⟨σ5,H5,(I5.unpinned).turned (t':=s5.toks) (it:=P.objs.size) (fun b o hb e=>(K8.2 b hb).trans e) p2 p3 okC.2.2.2.1 okC.2.2.2.2.1 okC.2.2.2.2.2,q5⟩⟩
   ·refine thn (T.item (Y5 X scope cl N' s2 H2 P.objs.size fp) rfl rfl rfl hc i [] s3 (fr σ) H3 _ I3 (z7 (by simp) U4) U3 go) fun r s4 ⟨u,hr,h4⟩=>?_
    subst hr;refine thn h4 fun _ s5 ⟨x,H5,I5,r5,y5,M2,fr5⟩=>?_
    have I5':=I5.pinned (z7 (by simp) fr5) (T.obj _ _ M2);refine thn (hg s2 H2 P.objs.size fp _ s5 (fr σ) H5 x u _ I5' r5 (step x H5 y5)) fun _ s6 ⟨σ6,H6,I6,kp,q6⟩=>?_
    refine thn (hf s2 H2 P.objs.size fp _ s6 σ6 H6 _ I6 q6) fun ok s7 ⟨H7,I7,q7⟩=>?_
    have w5:∀{σ8:St} {H8:Hp} {s8:Shared} {T6:List V},Zat (fr σ) σ8->Inv (Y5 X scope cl N' s2 H2 P.objs.size fp) ([]++Zg4 fp s5.heap) σ8 H8 s8->N T6 H8 ->
      ∃m,m<n/\∃i ys H',Inv (Y5 X scope cl N' s2 H2 P.objs.size fp) [] (fr σ) H' s8/\tn i s8.heap/\(∀b∈fp,H' b=none)/\W i m ys H':=fun {σ8 H8 s8 T6} kp8 I8 n8=>by
     obtain ⟨m',hm,w8⟩:=hN T6 H8 n8;refine ⟨m',hm,i+1,T6,H8,(I8.unpinned).weak (by rw [I8.len];exact S.len σ I2.len) kp8,T.keep _ _ _ M2 fun b hb o e=>(I8.pin (b,o) (List.mem_append_right _ (List.mem_append_right _ (W7 hb e)))).1,fun b hb=>?_,w8⟩;obtain ⟨o,e,d⟩:=T.obj _ _ M2 b hb;exact (I8.pin (b,o) (List.mem_append_right _ (List.mem_append_right _ (W7 hb e)))).2.1
    cases ok with
    | false=>exact w5 kp I7 q7
    | true =>
     refine thn (he s2 H2 P.objs.size fp _ s7 σ6 H7 _ I7 q7) fun uy s8 ⟨y,H8,I8,r8,T8,hz8,q8⟩=>?_
     exact thn (Xs _ s8 σ6 H8 (.ref s2.heap.objs.size) [y] (.ref s2.heap.objs.size) [uy] (fun _ H9=>N (ys++[y]) H9) I8 rfl (.cons r8 .nil) ⟨_,ys,y,rfl,rfl,T8,hz8,q8⟩) fun _ s9 ⟨v9,H9,I9,_,q9⟩=>w5 kp I9 q9
  ·show upd H2 s2.heap.objs.size (.lst []) b=none;obtain ⟨o,e⟩:=R6 b hb;rw [Zd (Nat.ne_of_lt (Heap.lt_size e))];exact (f2 b hb).1
 exact codeAny_compStart_list (loop _ rfl) (T.self X.A 0 _ _ _ st1 (loop _ rfl))
theorem Zgf{X:Cx}{K:Frag}{es:List Expr}{k:Nat}{pos:Pos}{t:TGs}{n:Nat}(hK:X.K=K)(hc:X.calm=true)(h:PGs X es t)
  (hn:(assignEach es X.env).length=n:=by rfl) (A6:(assignEach es X.env).findIdx? (·.1)=none:=by rfl):PG X (.Tuple es k pos) (Zx2 K n t):=hK ▸ Zd6 hc h hn A6
end L2
end
section
namespace L2
open PySem PySem.Spec PyProof.Rows
theorem Zln{P:Program}{w:World}:∀{kvs:List (Key×V)} {va:List (Key×Value)} {vs:List Value},KV kvs va->vs.length=va.length->(∀(j:Nat) (v:Value),vs[j]? =some v->∃(k:Key) (x:Value),va[j]? =some (k,x)/\(Zz P w).is k v=true)->Z5 (kvs.map fun kv=>kV kv.1) vs
 | [],_,[],.nil,_,_=>.nil
 | [],_,_ ::_,.nil,h,_=>by simp at h
 | p ::kvs,q ::va,[],.cons r t,h,_=>by simp at h
 | p ::kvs,q ::va,v ::vs,.cons r t,h,hv=>by
  obtain ⟨k,x,e,hk⟩:=hv 0 v rfl;simp only [List.getElem?_cons_zero,Option.some.injEq] at e;subst e;rw [List.map_cons];refine .cons ?_ (Zln (P:=P) (w:=w) t (by simpa using h) fun j u hu=>by simpa using hv (j+1) u (by simpa using hu));rw [r.1];exact Zsi hk
def Zzx(K:Frag):R2:=fun x y H Q=>∃a b ka kb,x=.ref a/\y=.ref b/\Rd H a (.dK ka)/\Rd H b (.dK kb)/\ka.length=kb.length/\(∀kv∈ka,∃v,Yv kb kv.1=some v/\Zlg K H kv.2 v)/\Q (.bl false) H
theorem Zwr{X:Cx}(hu:X.A.units+64<cLine):OpR X (compareOp .NotEq) (Zzx X.K):=by
 intro a7 s σ H x y v u Q I rx ry h;obtain ⟨a,b,ka,kb,rfl,rfl,ha,hb,hl,x0,q⟩:=h;cases rx;cases ry;obtain ⟨_,sa,va,ra,da⟩:=Zbt I.hok ha;obtain ⟨_,sb,vb,rb,db⟩:=Zbt I.hok hb;have la:=KV.length ra;have lb:=KV.length rb;have hits:∀{ka':List (Key×V)} {va':List (Key×Value)},KV ka' va'->(∀kv∈ka',∃v,Yv kb kv.1=some v/\Zlg X.K H kv.2 v)->PySem.W.KeqHits X.A.in1 s vb va' true:=by
  intro ka' va' r
  induction r with
  | nil=>intro _;exact .nil
  | cons r t ih =>
   rename_i p q l m;intro hv;obtain ⟨e1,r2⟩:=r;obtain ⟨v,hv1,hv2⟩:=hv p List.mem_cons_self;have E2:=KV.val rb p.1;rw [hv1] at E2;obtain ⟨y,hy,ry⟩:=Zc0.some_of E2;rw [e1] at hy;have:=PySem.W.KeqHits.hit (k:=q.1) (v:=q.2) hy (hv2.eqAt (A:=X.A.in1) I r2 ry (by rw [X7];lia)) (ih fun kv B7=>hv kv (List.mem_cons_of_mem _ B7));simpa using this
 refine PySem.W.keq_ne (knd:=Zz X.prog X.w) sa sb da db (by lia) (fun _=>hits ra x0) ⟨.bl false,H,I,?_,q⟩;rw [show (va.length ==vb.length)=true by rw [<-la,<-lb,hl];simp]
 rfl
def Zvi(K:Frag)(neg:Bool):R2:=fun x y H Q=>∃(p:Addr) (n:Nat) (t:Tr) (ts:List Tr) (as:List Addr),y=.ref p/\SqL K H p (as.map V.ref)/\n<=60/\Im K H n t x/\Paired (Im K H n) ts (as.map V.ref)/\Q (.bl (if neg then !decide (t∈ts) else decide (t∈ts))) H
noncomputable def Zkg (K:Frag) (H:Hp) (n:Nat) (t:Tr) (u:Value):Bool:=match u with
 | .ref a=>@decide (Im K H n t (.ref a)) (Classical.propDecidable _)
 | _=>false
theorem Ziq{X:Cx}{a7:List (Addr×Obj)}{σ:St}{H:Hp}{s:Shared}(I:Inv X a7 σ H s){n:Nat}{t:Tr}:∀{ts:List Tr} {as:List Addr} {us:List Value},Paired (Im X.K H n) ts (as.map V.ref)->Z5 (as.map V.ref) us->us.any (Zkg X.K H n t)=decide (t∈ts)
 | [],[],_,_,v=>by rw [List.map_nil] at v;cases v;simp
 | [],a ::as,_,p,_=>by rw [List.map_cons] at p;cases p
 | t' ::ts,[],_,p,_=>by rw [List.map_nil] at p;cases p
 | t' ::ts,a ::as,us,p,v=>by
  rw [List.map_cons] at p v;cases p with
  | cons i p =>
   cases v with
   | cons r v =>
    cases r;rw [List.any_cons,Ziq I p v,Bool.eq_iff_iff,Bool.or_eq_true];simp only [Zkg,decide_eq_true_eq,List.mem_cons]
    constructor
    ·rintro (z|z)
     ·exact .inl (Im.inj I z i)
     ·exact .inr z
    ·rintro (z|z)
     ·exact .inl (z ▸ i)
     ·exact .inr z
theorem Ziz{X:Cx}{a7:List (Addr×Obj)}{σ:St}{H:Hp}{s:Shared}(I:Inv X a7 σ H s){n:Nat}{A:Around}(hu:A.units+n<cLine){t:Tr}{x:V}{vx:Value}(hx:Im X.K H n t x)(rx:Ye x vx) :
  ∀{ts:List Tr} {as:List Addr} {us:List Value},Paired (Im X.K H n) ts (as.map V.ref)->Z5 (as.map V.ref) us->∀u∈us,SeqAt.EqAt A s u vx (Zkg X.K H n t u)
 | [],[],_,_,v=>by rw [List.map_nil] at v;cases v;simp
 | [],a ::as,_,p,_=>by rw [List.map_cons] at p;cases p
 | t' ::ts,[],_,p,_=>by rw [List.map_nil] at p;cases p
 | t' ::ts,a ::as,us,p,v=>by
  rw [List.map_cons] at p v;cases p with
  | cons i p =>
   cases v with
   | cons r v =>
    cases r;intro u hm;rcases List.mem_cons.mp hm with e|e
    ·subst e;refine Z6 (Im.eqAt I n A i hx rfl rx hu) ?_;simp only [Zkg,decide_eq_decide];exact ⟨fun z=>z ▸ i,fun z=>(Im.inj I z i).symm⟩
    ·exact Ziz I hu hx rx p v u e
theorem Zxm{X:Cx}(hu:X.A.units+64<cLine):OpR X (compareOp .In) (Zvi X.K false):=by
 intro a7 s σ H x y v u Q I rx ry h;obtain ⟨p,n,t,ts,as,rfl,hq,hn,hx,hp,q⟩:=h;cases ry;obtain ⟨a8,r,pl,hz⟩:=I.list hq;refine SeqAt.in_listAt (Zkg X.K H n t) pl.isList (fun w hw=>Ziz I (by rw [X7];lia) hx rx hp r w (by simpa using hw)) ⟨.bl _,H,I,rfl,?_⟩;rw [show a8.toArray.any (Zkg X.K H n t)=a8.any (Zkg X.K H n t) by simp,Ziq I hp r];exact q
theorem Zqw{X:Cx}(hu:X.A.units+64<cLine):OpR X (compareOp .NotIn) (Zvi X.K true):=by
 intro a7 s σ H x y v u Q I rx ry h;obtain ⟨p,n,t,ts,as,rfl,hq,hn,hx,hp,q⟩:=h;cases ry;obtain ⟨a8,r,pl,hz⟩:=I.list hq;refine SeqAt.notIn_listAt (Zkg X.K H n t) pl.isList (fun w hw=>Ziz I (by rw [X7];lia) hx rx hp r w (by simpa using hw)) ⟨.bl _,H,I,rfl,?_⟩;rw [show a8.toArray.any (Zkg X.K H n t)=a8.any (Zkg X.K H n t) by simp,Ziq I hp r];exact q
section
variable {X:Cx} {k:Nat}
def Zgb(K:Frag):R2:=fun x y H Q=>rNe x y H Q\/Zuz K true x y H Q\/Zzx K x y H Q
theorem Zh2(hr:Xj k X.A):OpR X (compareOp .NotEq) (Zgb X.K):=Zyz.or ((Zwg hr.units).or (Zwr hr.units))
def Zh3(K:Frag):R2:=fun x y H Q=>rIn K false x y H Q\/(∃a o,y=.ref a/\Zab H a x o/\Q (.bl o.isSome) H)\/(∃i j,x=.str i/\y=.str j/\Q (.bl (!(Builtin.Str.occurrences j i 0 j.length 1).isEmpty)) H)\/Zvi K false x y H Q
theorem Zjb(hr:Xj k X.A):OpR X (compareOp .In) (Zh3 X.K):=Zqy.or ((Zww (W5 hr)).or (Zrm.or (Zxm hr.units)))
def Wg(K:Frag):R2:=fun x y H Q=>rIn K true x y H Q\/(∃a o,y=.ref a/\Zab H a x o/\Q (.bl (!o.isSome)) H)\/Zvi K true x y H Q
theorem Wz(hr:Xj k X.A):OpR X (compareOp .NotIn) (Wg X.K):=Zl5.or ((Zqi (W5 hr)).or (Zqw hr.units))
end
end L2
end
section
namespace L2
open PySem
def TrX(h base:Heap)(e:Addr)(cls a0:Value)(dx:Option Addr)(fl:Value):Prop :=
 ∃oe vs T oT ts,h.get? e=some oe/\oe.cls=cls/\oe.dict=dx/\oe.data=.fields vs/\(vs[0]? =some a0/\vs[2]? =some .none)/\vs[1]? =some (.ref T)/\base.get? T=none/\T≠e/\h.get? T=some oT/\oT.data=.fields ts/\ts[3]? =some fl
def Zbn(base:Heap)(l:List Env)(e:Addr)(cls a0:Value)(dx:Option Addr)(fl:Value)(h:Heap):Prop:=base.StaysIn h/\base.get? e=none/\h.FunFrames base l/\TrX h base e cls a0 dx fl
theorem Zqo(f:Array Value->Array Value)(o:Obj):(Obj.mapFields f o).dict=o.dict:=by
 obtain ⟨c,d,dt,sl⟩:=o;cases dt <;>rfl
theorem Zbn.there{base h:Heap}{l:List Env}{e:Addr}{cls a0 fl:Value}{dx:Option Addr}(x:Zbn base l e cls a0 dx fl h):∃ob,h.get? e=some ob/\ob.cls=cls/\ob.dict=dx/\∃vs,ob.data=.fields vs:=by
 obtain ⟨_,_,_,oe,vs,_,_,_,he,hc,hx,hd,_⟩:=x;exact ⟨oe,he,hc,hx,vs,hd⟩
theorem Zbn.ctx{base h:Heap}{l:List Env}{e:Addr}{cls a0 fl:Value}{dx:Option Addr}(x:Zbn base l e cls a0 dx fl h):∃ob vs,h.get? e=some ob/\ob.data=.fields vs/\vs[2]? =some .none:=by
 obtain ⟨_,_,_,oe,vs,_,_,_,he,hc,hx,hd,h0,_⟩:=x;exact ⟨oe,vs,he,hd,h0.2⟩
section
variable {M:Model} {A:Around} {E:Value->Shared->Prop} {s:Shared} {base:Heap} {env:Env} {outer l:List Env} {L e:Addr} {oe:Obj} {vs:Array Value} {head a0 cls fl:Value} {dx:Option Addr} {Q:Unit->Shared->Prop}
theorem Zzm{T7:Bool}(u9:A.frames=some (env ::outer))(hl:s.heap.FunFrames base (env ::outer))(hf:env.frame=some L)(he:s.heap.get? e=some oe)(R8:base.StaysIn s.heap)(L6:base.get? e=none)(hd:oe.data=.fields vs)(hsz:1<vs.size)
  (h0:vs[0]? =some a0/\vs[2]? =some .none) (h:∀h',Zbn base (env ::outer) e oe.cls a0 oe.dict (rawInt L) h'->s.heap.UpToSlots h'->Q () { s with heap:=h' }) :
  wpAny M A (do let a <-frameOf env;let pl <-entryPlaceOf L T7;let b <-EntryCells.newEntry head a .none (rawInt L) .none pl;setField (.ref e) 1 b) Q E s:=by
 have off:e∉(env ::outer).filterMap (·.frame):=fun z=>by
  obtain ⟨_,o,q,nf⟩:=hl.mem z;rw [he] at q;cases q;exact nf vs hd
 refine wpAny_bind (wpAny_frameOf_fun u9 hl hf fun g so=>wpAny_bind (wpAny_entryPlaceOf fun pl i7=>?_));unfold EntryCells.newEntry newFields;refine wpAny_bind (wpAny_newObj_type ?_ (i7.sizeOk5 _ _ _ _ _));have e1:g.get? e=some oe:=by rw [so.2.1 e off];exact he
 have k1:base.StaysIn g:=fun b o q=>by
  rw [so.2.1 b fun z=>by rw [(hl.mem z).1] at q;cases q];exact R8 b o q
 generalize hT:({ cls:=.type "traceback",dict:=none,data:=.fields ([head,.ref L,.none,rawInt L,.none]++(if pl.isEmpty then List.replicate 6 Value.none else pl)).toArray }:Obj)=oT;have e2:(g.push oT).get? e=some oe:=Heap.get?_push_of_some _ e1;have nT:g.objs.size≠e:=Nat.ne_of_gt (Heap.lt_size e1);have t2:(g.push oT).get? g.objs.size=some oT:=Heap.get?_push_size g (by rw [<-hT];rfl);refine wpAny_setField e2 hd hsz (h _ ?_ ?_)
 ·have d3:=Obj.data_mapFields hd (·.setIfInBounds 1 (Value.ref g.objs.size));have e3:=Heap.get?_update_self (Obj.mapFields (·.setIfInBounds 1 (Value.ref g.objs.size))) e2 (Obj.isFreed_of_fields d3);have t3:((g.push oT).update e (Obj.mapFields (·.setIfInBounds 1 (Value.ref g.objs.size)))).get? g.objs.size=some oT:=by rw [Heap.get?_update_other _ _ nT.symm];exact t2
  have u5:∀b o,b≠e->g.get? b=some o->((g.push oT).update e (Obj.mapFields (·.setIfInBounds 1 (Value.ref g.objs.size)))).get? b=some o:=fun b o nb q=>by
   rw [Heap.get?_update_other _ _ nb.symm];exact Heap.get?_push_of_some _ q
  refine ⟨fun b o q=>u5 b o (fun z=>by rw [z,L6] at q;cases q) (k1 b o q),L6,hl.of_keeps fun b o q nf=>?_,?_⟩
  ·obtain ⟨sl,z⟩:=so.2.2 b o q;refine ⟨_,u5 b _ (fun y=>?_) z,rfl⟩;rw [y,he] at q;cases q;exact nf vs hd
  ·refine ⟨_,_,g.objs.size,oT,_,e3,Obj.cls_mapFields _ _,Zqo _ _,d3,?_,by simp [hsz],k1.fresh,nT,t3,by rw [<-hT],?_⟩
   ·exact ⟨by rw [Array.getElem?_setIfInBounds_ne (by decide)];exact h0.1,by rw [Array.getElem?_setIfInBounds_ne (by decide)];exact h0.2⟩
   ·rcases i7 with rfl|⟨_,_,_,_,_,_,_,rfl⟩ <;>simp
 ·intro b o q nf;obtain ⟨sl,z⟩:=so.2.2 b o q;refine ⟨sl,?_⟩;show ((g.push oT).update e (Obj.mapFields (·.setIfInBounds 1 (Value.ref g.objs.size)))).get? b=_;rw [Heap.get?_update_other _ _ fun y=>by rw [<-y,he] at q;cases q;exact nf vs hd];exact Heap.get?_push_of_some _ z
theorem Zn8(u9:A.frames=some (env ::outer))(hl:s.heap.FunFrames base (env ::outer))(hf:env.frame=some L)(he:s.heap.get? e=some oe)(R8:base.StaysIn s.heap)(L6:base.get? e=none)(hd:oe.data=.fields vs)
  (h1:vs[1]? =some .none) (h0:vs[0]? =some a0/\vs[2]? =some .none) (h:∀h',Zbn base (env ::outer) e oe.cls a0 oe.dict (rawInt L) h'->s.heap.UpToSlots h'->Q () { s with heap:=h' }):wpAny M A (noteFrame (.ref e) env) Q E s:=by
 unfold noteFrame;simp only [hf];refine wpAny_bind (wpAny_field he hd h1 ?_);rw [if_neg (by decide)];exact Zzm u9 hl hf he R8 L6 hd (Array.getElem?_eq_some_iff.mp h1).1 h0 h
theorem Zj4(u9:A.frames=some (env ::outer))(hf:env.frame=some L)(x:Zbn base (env ::outer) e cls a0 dx .none s.heap)
  (h:∀h',Zbn base (env ::outer) e cls a0 dx (rawInt L) h'->s.heap.UpToSlots h'->Q () { s with heap:=h' }):wpAny M A (noteFrame (.ref e) env) Q E s:=by
 obtain ⟨R8,L6,hl,oe,vs,T,oT,ts,he,hc,hx,hd,h0,h1,nT,Te,hT,dT,h3⟩:=x;subst hc hx;unfold noteFrame;simp only [hf];refine wpAny_bind (wpAny_field he hd h1 ?_);rw [if_pos (by simp)];refine wpAny_bind (wpAny_field hT dT h3 ?_);rw [if_neg (by simp [rawInt])];refine wpAny_bind (wpAny_setField hT dT (Array.getElem?_eq_some_iff.mp h3).1 ?_);have R9:∀b,b≠T->(s.heap.update T (Obj.mapFields (·.setIfInBounds 3 Value.none))).get? b=s.heap.get? b:=fun b nb=>Heap.get?_update_other _ _ nb.symm
 have nr:∀b o,s.heap.get? b=some o->(∀vs,o.data ≠ .fields vs)->b≠T:=fun b o q nf z=>by
  rw [z,hT] at q;cases q;exact nf ts dT
 refine Zzm u9 (hl.of_keeps fun b o q nf=>⟨o,by rw [R9 b (nr b o q nf)];exact q,rfl⟩) hf (by rw [R9 e Te.symm];exact he) (fun b o q=>?_) L6 hd (Array.getElem?_eq_some_iff.mp h1).1 h0 fun h' f' u'=>h h' f' fun b o q nf=>u' b o (by
  show (s.heap.update T _).get? b=_;rw [R9 b (nr b o q nf)];exact q) nf
 show (s.heap.update T _).get? b=_;rw [R9 b fun z=>by rw [z,nT] at q;cases q];exact R8 b o q
theorem Zpx(x:Zbn base l e cls a0 dx fl s.heap)(h:∀h',Zbn base l e cls a0 dx .none h'->s.heap.UpToSlots h'->Q () { s with heap:=h' }):wpAny M A (setFlight (.ref e) none) Q E s:=by
 obtain ⟨R8,L6,hl,oe,vs,T,oT,ts,he,hc,hx,hd,h0,h1,nT,Te,hT,dT,h3⟩:=x;have h3':3<ts.size:=(Array.getElem?_eq_some_iff.mp h3).1;have R9:∀b,b≠T->(s.heap.update T (Obj.mapFields (·.setIfInBounds 3 ((none:Option Addr).elim Value.none fun f=>rawInt f)))).get? b=s.heap.get? b:=fun b nb=>Heap.get?_update_other _ _ nb.symm
 have nr:∀b o,s.heap.get? b=some o->(∀vs,o.data ≠ .fields vs)->b≠T:=fun b o q nf z=>by
  rw [z,hT] at q;cases q;exact nf ts dT
 unfold setFlight;refine wpAny_bind (wpAny_field he hd h1 ?_);rw [if_pos (by simp)];refine wpAny_setField hT dT h3' (h _ ⟨fun b o q=>?_,L6,hl.of_keeps fun b o q nf=>⟨o,?_,rfl⟩,oe,vs,T,_,_,?_,hc,hx,hd,h0,h1,nT,Te,Heap.get?_update_self _ hT (Obj.isFreed_of_fields (Obj.data_mapFields dT _)),Obj.data_mapFields dT _,by simp [h3']⟩ fun b o q nf=>⟨o.slots,?_⟩)
 ·rw [R9 b fun z=>by rw [z,nT] at q;cases q];exact R8 b o q
 ·rw [R9 b (nr b o q nf)];exact q
 ·rw [R9 e Te.symm];exact he
 ·show (s.heap.update T _).get? b=_;rw [R9 b (nr b o q nf)];exact q
theorem Zbn.out(x:Zbn base (env ::outer) e cls a0 dx fl s.heap):Zbn base outer e cls a0 dx fl s.heap:=by
 obtain ⟨a,b,⟨_,_,c⟩,d⟩:=x;exact ⟨a,b,c,d⟩
theorem Ztr(u9:A.frames=some (env ::outer))(hf:env.frame=some L)(x:Zbn base (env ::outer) e cls a0 dx .none s.heap)(h:∀h',Zbn base outer e cls a0 dx .none h'->s.heap.UpToSlots h'->Q () { s with heap:=h' }) :
  wpAny M A (leaving env (.ref e)) Q E s:=by
 unfold leaving;refine wpAny_bind (Zj4 u9 hf x fun h1 x1 u1=>Zpx (s:={ s with heap:=h1 }) x1 fun h2 x2 u2=>h h2 ?_ (u1.trans u2));exact Zbn.out (s:={ s with heap:=h2 }) x2
theorem Zme(u9:A.frames=some (env ::outer))(hl:s.heap.FunFrames base (env ::outer))(hf:env.frame=some L)(he:s.heap.get? e=some oe)(R8:base.StaysIn s.heap)(L6:base.get? e=none)(hd:oe.data=.fields vs)
  (h1:vs[1]? =some .none) (h0:vs[0]? =some a0/\vs[2]? =some .none) (h:∀h',Zbn base outer e oe.cls a0 oe.dict .none h'->s.heap.UpToSlots h'->Q () { s with heap:=h' }):wpAny M A (leaving env (.ref e)) Q E s:=by
 unfold leaving;refine wpAny_bind (Zn8 u9 hl hf he R8 L6 hd h1 h0 fun h1 x1 u1=>Zpx (s:={ s with heap:=h1 }) x1 fun h2 x2 u2=>h h2 ?_ (u1.trans u2));exact Zbn.out (s:={ s with heap:=h2 }) x2
end
end L2
end
section
namespace L2
open PySem PySem.Spec PyProof.Rows
def Zku(K:Frag)(mg:Str->Option Value)(x:Str)(C:Addr)(bm:List Value)(p8:String):Prop:=∀h:Heap,K.In h->OwnCls x C bm p8 mg h
theorem Zf4{K:Frag}{mg:Str->Option Value}{x:Str}{C:Addr}{bmB:List Value}{p8:String}(m:mg x=some (.ref C))(q:PySem.W.excIn K C bmB p8=true):Zku K mg x C bmB p8:=by
 intro h X;refine ⟨m,?_⟩;unfold PySem.W.excIn at q;split at q
 case h_2=>cases q
 case h_1 dd cd sl ho =>
  split at q
  case h_2=>cases q
  case h_1 C' tl k0 k1 k2 k3 n k5 hm hs =>
   rw [Bool.and_eq_true,Bool.and_eq_true,Bool.and_eq_true,Bool.and_eq_true,Bool.and_eq_true] at q;obtain ⟨⟨⟨⟨⟨q1,q2⟩,q3⟩,q4⟩,q5⟩,q6⟩:=q;have e1:C'=C:=beq_iff_eq.mp q1;have e2:n=p8:=beq_iff_eq.mp q2;have e6:nsIn K cd.ns "__init__" =some none:=beq_iff_eq.mp q6;have e3:cd.hasDel=false:=by simpa using q3
   subst e1 e2;have U5:sl=#[k0,k1,k2,k3,some (.builtin n),k5]:=Array.toList_inj.mp hs;obtain ⟨nm,bs,mro,ns,qn,hdct,sn,sub,ab,col,del⟩:=cd;dsimp only at hm e3 q5 e6;subst hm e3 U5;exact ⟨tl,ns,nm,qn,bs,hdct,sn,sub,ab,col,dd,k0,k1,k2,k3,k5,_,X _ _ ho,.of_isNs (PySem.W.isNs_of_in X q5),PySem.W.nsMap_none_of_in X q5 e6,PySem.W.tail_of_in X q4⟩
def Fly(outer:List Env)(cls:Value)(dx:Option Addr)(H':Hp)(g:Heap)(ea:Addr)(h:Heap):Prop :=
 ∃a0 B,Zbn B outer ea cls a0 dx .none h/\∀b o,h.get? b=some o->((∃o',g.get? b=some o')\/H' b≠none)->b∉frs outer->B.get? b=some o
def CXF(P:Program)(w:World):CXT:=fun outer H s E e s'=>∃ea cls dx H',e=.ref ea/\s'.os=s.os/\AllBare s'.gens/\Un (frs outer) [] H H' s.heap s'.heap/\HOk P w H' s'.heap/\Fly outer cls dx H' s.heap ea s'.heap/\E cls dx H'
theorem Yf.there{P:Program}{w:World}{H:Hp}{h:Heap}{a:Addr}{o:HO}(x:Yf P w H h a o):∃ob,h.get? a=some ob:=by
 cases o with
 | lst xs=>obtain ⟨_,_,_,_,e⟩:=x;exact ⟨_,e⟩
 | tup xs=>obtain ⟨_,_,_,_,e,_⟩:=x;exact ⟨_,e⟩
 | dK kvs=>obtain ⟨_,_,_,_,o,_,_,e,_⟩:=x;exact ⟨_,e⟩
 | dT kvs=>obtain ⟨_,_,_,_,o,_,_,e,_⟩:=x;exact ⟨_,e⟩
 | set S n=>obtain ⟨o,_,_,_,e,_⟩:=x;exact ⟨_,e⟩
 | ins C dx fs=>obtain ⟨_,_,_,e,_⟩:=x;exact ⟨_,e⟩
 | own y=>obtain ⟨_,e⟩:=x;exact ⟨_,e⟩
 | xd fs=>obtain ⟨_,⟨_,_,_,e,_⟩,_⟩:=x;exact ⟨_,e⟩
 | rng lo hi=>obtain ⟨_,_,_,e⟩:=x;exact ⟨_,e⟩
 | frz ob u=>obtain ⟨e,_⟩:=x;exact ⟨_,e⟩
 | tbl ps =>
  obtain ⟨_,e,_⟩:=x;exact ⟨_,e⟩
 | met f y=>exact ⟨_,show h.get? a=some _ from x⟩
 | ext φ=>obtain ⟨_,⟨_,e⟩,_⟩:=x;exact ⟨_,e⟩
section
variable {P:Program} {w:World} {K:Frag} {mg:Str->Option Value} {base:Heap} {N:List Str} {qual:Str} {scope:Scope} {f:Addr} {cd:Value} {A:Around} {outer:List Env} {s₀:Shared} {H₀:Hp} {E:XK}
theorem Zpw{CX:CXT}{a7:List (Addr×Obj)}{σ:St}{H':Hp}{s1:Shared}{h' B:Heap}{ea:Addr}{cls a0:Value}{dx:Option Addr}(I:Inv (Zd0 CX P w K mg base N qual scope f cd A outer s₀ H₀ E) a7 σ H' s1)
  (fl:Zbn B outer ea cls a0 dx .none h') (up:s1.heap.UpToSlots h') (pB:∀b o,s1.heap.get? b=some o->((∃o',s₀.heap.get? b=some o')\/H' b≠none)->b∉frs (envOfC qual scope s₀.heap.objs.size f cd ::outer)->B.get? b=some o)
  (hE:E cls dx H'):CXF P w outer H₀ s₀ E (.ref ea) { s1 with heap:=h' }:=by
 have stay:∀b o,s1.heap.get? b=some o->((∃o',s₀.heap.get? b=some o')\/H' b≠none)->b∉frs (envOfC qual scope s₀.heap.objs.size f cd ::outer)->h'.get? b=some o:=fun b o h1 h2 h3=>fl.1 b o (pB b o h1 h2 h3)
 have frL:frs (envOfC qual scope s₀.heap.objs.size f cd ::outer)=s₀.heap.objs.size ::frs outer:=rfl;have C0:∀b,((∃o',s₀.heap.get? b=some o')\/H' b≠none)->b∉frs outer->b∉frs (envOfC qual scope s₀.heap.objs.size f cd ::outer):=fun b h1 h2 h3=>by
  rw [frL] at h3;rcases List.mem_cons.mp h3 with e|e
  ·rcases h1 with h1|h1
   ·obtain ⟨o',h1⟩:=h1;rw [e] at h1;exact absurd (Heap.lt_size h1) (Nat.lt_irrefl _)
   ·have:H' s₀.heap.objs.size=none:=I.free;rw [e] at h1;exact h1 this
  ·exact h2 e
 have trk:∀b,H' b≠none->b∉frs outer:=fun b h1 h2=>h1 (I.stkFree b (by show b∈frs (envOfC qual scope s₀.heap.objs.size f cd ::outer);rw [frL];exact List.mem_cons_of_mem _ h2))
 have fr1:∀b,b∈frs outer->∃o,s1.heap.get? b=some o/\∀vs,o.data ≠ .fields vs:=fun b hb=>by
  have h1:s1.heap.FunFrames base (envOfC qual scope s₀.heap.objs.size f cd ::outer):=I.stack;exact (h1.mem (List.mem_filterMap.mpr (by
   obtain ⟨env,he,hf⟩:=List.mem_filterMap.mp hb;exact ⟨env,List.mem_cons_of_mem _ he,hf⟩))).2
 have C8:Un (frs outer) [] H₀ H' s₀.heap s1.heap:=I.base;refine ⟨ea,cls,dx,H',rfl,I.os,I.bare,⟨fun b o h1 h2 h3 h4=>?_,fun b o h1 h2 h3 h4=>?_,C8.free,fun b o h1 h4=>?_,C8.tups,C8.frzs,C8.tbls⟩,fun a o ha=>?_,⟨a0,B,fl,fun b o h1 h2 h3=>?_⟩,hE⟩
 ·exact stay b o (C8.keep b o h1 h2 h3 h4) (.inl ⟨_,h1⟩) (C0 b (.inl ⟨_,h1⟩) h3)
 ·obtain ⟨sl,h5⟩:=C8.slot b o h1 h2 h3 h4;obtain ⟨o1,h6,h7⟩:=fr1 b h3;rw [h5] at h6;cases h6;obtain ⟨L3,h8⟩:=up b _ h5 h7;exact ⟨L3,h8⟩
 ·obtain ⟨o1,h5⟩:=C8.there b o h1 h4
  by_cases hb:b∈frs outer
  ·obtain ⟨o2,h6,h7⟩:=fr1 b hb;obtain ⟨L3,h8⟩:=up b _ h6 h7;exact ⟨_,h8⟩
  ·exact ⟨o1,stay b o1 h5 (.inl ⟨_,h1⟩) (C0 b (.inl ⟨_,h1⟩) hb)⟩
 ·refine (I.hok a o ha).stay (fun b u hb h1=>?_) (fun _ z=>z) (fun _ _ z=>z);have ht:H' b≠none:=by
   rcases hb with e|e
   ·rw [e,ha];exact Option.some_ne_none _
   ·rw [e];exact Option.some_ne_none _
  exact stay b u h1 (.inr ht) (C0 b (.inr ht) (trk b ht))
 ·have hs:∃o1,s1.heap.get? b=some o1:=by
   rcases h2 with ⟨o',h2⟩|h2
   ·exact C8.there b o' h2 (by simp)
   ·cases hq:H' b with
    | none=>exact absurd hq h2
    | some u=>exact (I.hok b u hq).there
  obtain ⟨o1,h4⟩:=hs;have h5:=pB b o1 h4 h2 (C0 b h2 h3);have h6:=fl.1 b o1 h5;have h7:h'.get? b=some o:=h1;rw [h6] at h7;cases h7;exact h5
theorem Wr:Zay (CXF P w) (Zd0 (CXF P w) P w K mg base N qual scope f cd A outer s₀ H₀ E) E:=by
 intro a7 σ H s e s' I h;obtain ⟨ea,cls,dx,H',rfl,os,bare,un,hok,⟨a0,B,fl,pB⟩,hE⟩:=h;have I':=I.call' os un hok bare (fun b z=>absurd z (by simp));show wpAny _ _ (leaving _ (.ref ea)) _ _ s';refine Ztr I'.ok.frames rfl fl fun h' fl' up=>?_
 exact Zpw I' fl' up (fun b o h1 h2 h3=>pB b o h1 (h2.imp_left fun ⟨o',z⟩=>I.base.there b o' z (by show b∉([]:List Addr);simp)) h3) hE
def Zw3(C:Addr)(E:XK)(t:TA):TS:=fun _ σ H=>t σ H fun vs H1=>vs.length<=sizeLine/\E (.ref C) none H1
theorem X5{x:Str}{C:Addr}{bm:List Value}{Bn p8 O6:String}{np g9 pos:Pos}{e₀:Expr}{Z3:List Expr}{t:TA}(OI:Zku K mg x C bm p8)(FB:ExcBaseFacts Bn p8 O6 bm)
  (hg:Gl (Zd0 (CXF P w) P w K mg base N qual scope f cd A outer s₀ H₀ E) x) (ha:PA (Zd0 (CXF P w) P w K mg base N qual scope f cd A outer s₀ H₀ E) (e₀ ::Z3) t)
  (he:starEach (e₀ ::Z3) (envOfC qual scope s₀.heap.objs.size f cd)=(false,eval e₀ (envOfC qual scope s₀.heap.objs.size f cd)) ::starEach Z3 (envOfC qual scope s₀.heap.objs.size f cd):=by rfl)
  (i7:(backTo g9 (starEach Z3 (envOfC qual scope s₀.heap.objs.size f cd))).any (·.1)=false:=by rfl) (hd:(x ==("__debug__" :Str))=false:=by decide) :
  PS (Zd0 (CXF P w) P w K mg base N qual scope f cd A outer s₀ H₀ E) (.Raise (some (.Call (.Name x np) (e₀ ::Z3) [] g9)) none pos) (Zw3 C E t):=by
 intro a7 s σ H D I h;have O:OwnCls x C bm p8 mg base:=OI base I.ok.mod.kin;obtain ⟨tl,N',nm,q,bs,hdct,sn,sub,ab,col,dd,k0,k1,k2,k3,k5,mN,hC,hN,hni,T⟩:=O.obj;refine wpAny_Raise_call_subT (C:=C) (nm:=nm) (q:=q) (N:=N') (bs:=bs) (bm:=tl) (hdct:=hdct) (sn:=sn) (sub:=sub) (ab:=ab) (col:=col) (dd:=dd) (k0:=k0) (k1:=k1) (k2:=k2) (k3:=k3) (k5:=k5)
  FB (mN:=mN) (T.hasType FB.hasBase) (I.ok.hd rfl) (by show (backTo g9 (starEach (e₀ ::Z3) (envOfC qual scope s₀.heap.objs.size f cd))).any (·.1)=false;rw [he];show (false || (backTo g9 (starEach Z3 (envOfC qual scope s₀.heap.objs.size f cd))).any (·.1))=false;rw [i7];rfl) hni (Zeu I hg O.bound ⟨rfl,?_⟩ hd)
 have hA:=ha g9 a7 s σ H _ I h;have he':starEach (e₀ ::Z3) (Zd0 (CXF P w) P w K mg base N qual scope f cd A outer s₀ H₀ E).env=(false,eval e₀ (envOfC qual scope s₀.heap.objs.size f cd)) ::starEach Z3 (envOfC qual scope s₀.heap.objs.size f cd):=he;rw [he'] at hA ⊢;refine Calls.evalArgs_plain (thn hA fun us s2 ⟨vs,H2,I2,r2,hl,hE⟩=>?_);have keep:∀b o,base.get? b=some o->s2.heap.get? b=some o:=fun b o e=>(I2.bs b o e).1
 refine ⟨rfl,by rw [<-r2.length];exact hl,keep _ _ hC,hN.keeps keep,T.keeps keep,fun h' e hm=>?_⟩;show wpAny _ _ (leaving _ (.ref e)) _ _ _;obtain ⟨t,he3,_,_⟩:=hm.there;have hin:∀env∈(envOfC qual scope s₀.heap.objs.size f cd ::outer),∀b,env.frame=some b->b∈frs (envOfC qual scope s₀.heap.objs.size f cd ::outer):=fun env he b hb=>List.mem_filterMap.mpr ⟨env,he,hb⟩
 refine Zme (base:=PySem.W.hideAll s2.heap (frs (envOfC qual scope s₀.heap.objs.size f cd ::outer))) I2.ok.frames ((PySem.W.funFrames_hide I2.stack hin).of_keeps fun b o q _=>⟨o,hm.keeps b o q,rfl⟩) rfl he3 (fun b o q=>hm.keeps b o (PySem.W.of_hideAll _ q)) ?_ rfl rfl ⟨rfl,rfl⟩ fun h'' fl up=>?_
 ·cases q:(PySem.W.hideAll s2.heap (frs (envOfC qual scope s₀.heap.objs.size f cd ::outer))).get? e with
  | none=>rfl
  | some o=>exact absurd (PySem.W.of_hideAll _ q) (by rw [hm.new];exact fun z=>nomatch z)
 ·have R:=Zpw I2 fl ((Heap.UpToSlots.of_keeps hm.keeps).trans up) (fun b o h1 _ h3=>PySem.W.hideAll_get _ h1 h3) hE;exact R
end
theorem Zyf{P:Program}{w:World}{fs:List Addr}{H H':Hp}{g h h' B:Heap}(un:Un fs [] H H' g h)(hok:HOk P w H' h)(fr:∀b∈fs,H' b=none/\∃o,h.get? b=some o/\∀vs,o.data ≠ .fields vs)(st:B.StaysIn h')(up:h.UpToSlots h')
  (pB:∀b o,h.get? b=some o->((∃o',g.get? b=some o')\/H' b≠none)->b∉fs->B.get? b=some o):Un fs [] H H' g h'/\HOk P w H' h':=by
 have stay:∀b o,h.get? b=some o->((∃o',g.get? b=some o')\/H' b≠none)->b∉fs->h'.get? b=some o:=fun b o h1 h2 h3=>st b o (pB b o h1 h2 h3)
 refine ⟨⟨fun b o h1 h2 h3 h4=>stay b o (un.keep b o h1 h2 h3 h4) (.inl ⟨_,h1⟩) h3,fun b o h1 h2 h3 h4=>?_,un.free,fun b o h1 h4=>?_,un.tups,un.frzs,un.tbls⟩,fun a o ha=>?_⟩
 ·obtain ⟨sl,h5⟩:=un.slot b o h1 h2 h3 h4;obtain ⟨_,o1,h6,h7⟩:=fr b h3;rw [h5] at h6;cases h6;obtain ⟨L3,h8⟩:=up b _ h5 h7;exact ⟨L3,h8⟩
 ·obtain ⟨o1,h5⟩:=un.there b o h1 h4
  by_cases hb:b∈fs
  ·obtain ⟨_,o2,h6,h7⟩:=fr b hb;obtain ⟨L3,h8⟩:=up b _ h6 h7;exact ⟨_,h8⟩
  ·exact ⟨o1,stay b o1 h5 (.inl ⟨_,h1⟩) hb⟩
 ·refine (hok a o ha).stay (fun b u hb h1=>?_) (fun _ z=>z) (fun _ _ z=>z);have ht:H' b≠none:=by
   rcases hb with e|e
   ·rw [e,ha];exact Option.some_ne_none _
   ·rw [e];exact Option.some_ne_none _
  exact stay b u h1 (.inr ht) fun z=>ht (fr b z).1
abbrev Cx.tried(X:Cx)(pn:List (Addr×Obj))(E:Value->Shared->Prop):Cx:={ X with pn:=pn,xe:=E }
abbrev Cx.caught(X:Cx)(ea:Addr):Cx:={ X with A:=X.A.mark (some (.ref ea)),calm:=false,xe:=fun _ _=>False }
section
variable {X:Cx} {a7 j7:List (Addr×Obj)} {σ:St} {H:Hp} {s:Shared} {E:Value->Shared->Prop}
theorem Inv.tryIn(I:Inv X a7 σ H s)(E:Value->Shared->Prop):Inv (X.tried (X.pn++a7) E) [] σ H s :=
 ⟨⟨I.ok.mod,I.ok.kind,I.ok.glob,I.ok.blt,I.ok.above,I.ok.inj,I.ok.has,I.ok.cab,I.ok.hd,I.ok.frames,I.ok.stk,I.ok.exf,I.ok.bs,I.ok.bsz,I.ok.noex,I.ok.exfs,I.ok.funs,I.ok.frf⟩,I.os,I.bare,I.base,I.loc,I.cell,I.free,I.freeC,fun p hp=>I.pin p (by simpa using hp),I.hok,I.len⟩
theorem Inv.tryOut(I:Inv (X.tried (X.pn++a7) E) j7 σ H s):Inv X a7 σ H s :=
 ⟨⟨I.ok.mod,I.ok.kind,I.ok.glob,I.ok.blt,I.ok.above,I.ok.inj,I.ok.has,I.ok.cab,I.ok.hd,I.ok.frames,I.ok.stk,I.ok.exf,I.ok.bs,I.ok.bsz,I.ok.noex,I.ok.exfs,I.ok.funs,I.ok.frf⟩,I.os,I.bare,I.base,I.loc,I.cell,I.free,I.freeC,fun p hp=>I.pin p (List.mem_append_left _ hp),I.hok,I.len⟩
theorem Inv.catch(I:Inv X a7 σ H s)(ea:Addr):Inv (X.caught ea) a7 σ H s :=
 ⟨⟨I.ok.mod,I.ok.kind,I.ok.glob,I.ok.blt,I.ok.above,I.ok.inj,I.ok.has,I.ok.cab,fun z=>absurd z Bool.false_ne_true,I.ok.frames,I.ok.stk,I.ok.exf,I.ok.bs,I.ok.bsz,I.ok.noex,I.ok.exfs,I.ok.funs,I.ok.frf⟩,I.os,I.bare,I.base,I.loc,I.cell,I.free,I.freeC,I.pin,I.hok,I.len⟩
theorem Inv.uncatch{ea:Addr}(hX:X.A.handled=none)(I:Inv (X.caught ea) a7 σ H s):Inv X a7 σ H s :=
 ⟨⟨I.ok.mod,I.ok.kind,I.ok.glob,I.ok.blt,I.ok.above,I.ok.inj,I.ok.has,I.ok.cab,fun _=>hX,I.ok.frames,I.ok.stk,I.ok.exf,I.ok.bs,I.ok.bsz,I.ok.noex,I.ok.exfs,I.ok.funs,I.ok.frf⟩,I.os,I.bare,I.base,I.loc,I.cell,I.free,I.freeC,I.pin,I.hok,I.len⟩
end
section
variable {P:Program} {w:World} {K:Frag} {mg:Str->Option Value} {base:Heap}
theorem Fun.okX{x qual:Str}{st:Stmt}{f:Addr}{fd:FuncData}{N ps:List Str}{k:Nat}{sp:Sp}(F:Fun K x qual st f fd)(S:Zk N ps (Zh st))(len:∀vs H Q E,sp vs H Q E->vs.length=ps.length)
  (m5:∀(a9:Value) (A:Around) (outer:List Env) (s:Shared) (H:Hp) (vs:List V) (Q:VK) (E:XK),Xj k (A.deeper (envOfC qual (Zh st) s.heap.objs.size f a9))->sp vs H Q E ->
   WSs (Zd0 (CXF P w) P w K mg base N qual (Zh st) f a9 A outer s H E) (Ys st) { nx:=fun _ H'=>Q .non H',rt:=Q } (start N vs) H):Zw P w K mg base (CXF P w) (k+1) f fd ps sp:=by
 obtain ⟨oc,od,kV,m9,pm,an,a9,ct,D3,rfl,lk,A9⟩:=F.ex;exact Zqc lk A9 S len fun A outer s H vs Q E hr P3=>⟨_,Zr,m5 a9 A outer s H vs Q E hr P3⟩
end
end L2
end
section
namespace L2
open PySem PySem.Spec PyProof.Rows
theorem Zpi:∀{ss:List Str} {us:List Value},Z5 (ss.map V.str) us->StrsAre us ss
 | [],_,r=>by rw [List.map_nil] at r;cases r;exact .nil
 | x ::ss,_,r=>by
  rw [List.map_cons] at r;cases r with
  | cons r t =>
   obtain ⟨tk,rfl⟩:=r;exact .cons _ _ (Zpi t)
theorem Zp6:∀{ss:List Str} {us:List Value},StrsAre us ss->Z5 (ss.map V.str) us
 | [],_,r=>by cases r;exact .nil
 | x ::ss,_,r=>by
  cases r with
  | cons _ _ t=>exact .cons ⟨_,rfl⟩ (Zp6 t)
theorem Inv.laidAt{X:Cx}{a7:List (Addr×Obj)}{σ:St}{H:Hp}{s:Shared}{h':Heap}{t':Nat}{a:Addr}{o:HO}(I:Inv X a7 σ H s)(k:∀b u,s.heap.get? b=some u->h'.get? b=some u)(hn:s.heap.get? a=none)(new:Yf X.prog X.w (upd H a o) h' a o) :
  H a=none/\Inv X a7 σ (upd H a o) { s with heap:=h',toks:=t' }:=by
 have hH:H a=none:=by
  cases e:H a with
  | none=>rfl
  | some u =>
   obtain ⟨ob,z⟩:=(I.hok a u e).there;rw [hn] at z;cases z
 have ne:∀b u,s.heap.get? b=some u->b≠a:=fun b u e z=>by rw [z,hn] at e;cases e
 refine ⟨hH,I.call' (s':={ s with heap:=h',toks:=t' }) rfl ⟨fun b u e _ _ _=>k b u e,fun b u e _ _ _=>⟨u.slots,k b u e⟩,fun b u e n _=>by rw [Zd (ne b u e)];exact n,fun b u e _=>⟨u,k b u e⟩,fun b xs e=>?_,fun b q u e=>?_,fun b ps e=>⟨#[],?_⟩⟩ (fun b u e=>?_) I.bare (fun b z=>absurd z List.not_mem_nil)⟩
 ·rw [Zd (Zg e hH)];exact e
 ·rw [Zd (Zg e hH)];exact e
 ·rw [Zd (Zg e hH)];simpa using e
 ·by_cases z:b=a
  ·rw [z,Zi] at e;cases e;rw [z];exact new
  ·rw [Zd z] at e;exact (I.hok b u e).stay (fun c v _ h=>k c v h) (fun c h=>by rw [Zd (Zg h hH)];exact h) (fun c ys h=>by rw [Zd (Zg h hH)];exact h)
def Zod:List V->Hp->VK->Prop:=fun xs H Q=>∃(p:Addr) (kvs:List (Key×V)) (ss:List Str),xs=[.ref p]/\Rd H p (.dK kvs)/\kvs.map (fun kv=>kV kv.1)=ss.map V.str/\ss.length<64/\∀ss':List Str,ss'.Perm ss->sortedS ss'=true->New H (.lst (ss'.map V.str)) Q
theorem Zj0{X:Cx}(hc:X.calm=true):Xe X (.builtin "sorted") Zod:=by
 intro a7 s σ H xs us Q I r h;obtain ⟨p,kvs,ss,rfl,hd,hk,hl,q⟩:=h;obtain ⟨u,rfl,rx⟩:=Za0 r;cases rx;obtain ⟨hz,lo,va,kv,da⟩:=Zbt I.hok hd;obtain ⟨ep,y7⟩:=da.dictAt;have hlv:=KV.length kv;refine Calls.call_function_entry kind_sorted plain_sorted entry_sorted (args_sorted1 _) ?_;unfold Builtin.«sorted»;refine wpAny_bind (m:=checkCount "sorted" 1 1 _) (wpAny_pure ?_);refine wpAny_bind (PySem.W.kdu_collect (A:=X.A.in1) (PySem.W.kdl_dict (knd:=Zz X.prog X.w) (kvs:=va) (ep:=ep) lo) (I.ok.hd hc) y7 (by lia) fun h' tk P4 hkp B8=>?_);have hv:Z5 (kvs.map fun kv=>kV kv.1) P4.toList:=Zln (P:=X.prog) (w:=X.w) kv (by rw [Array.length_toList];exact B8.1) fun j v e=>B8.2 j v (by rw [<-Array.getElem?_toList];exact e)
 rw [hk] at hv;have hS:=Zpi hv;have g8:P4.toList.length=ss.length:=by have:=hv.length;rw [List.length_map] at this;exact this.symm
 refine wpAny_bind (wpAny_newList ?_ (by rw [g8];exact sz (by lia)));have hoL:(h'.push (seqObj "list" P4.toList.toArray 0)).get? h'.objs.size=some (seqObj "list" P4.toList.toArray 0):=Heap.get?_push_size _ rfl;refine wpAny_bind (wpAny_holding (wpAny_call_entry slot_list_sort ⟨_,hoL,rfl⟩ entry_list_sort (list_sort_treeK strKind_oneLt hoL hS.keysOf (fun v₁ v₂ Z3 e=>keyKind_strs (by rw [<-e];exact hS)) (by lia) fun A7 a1 a2=>⟨_,rfl,?_⟩) (args_list_sort _)));obtain ⟨ss',b1,b2,b3⟩:=sorted_out_str hS a1 a2;obtain ⟨e,he⟩:=sortedHeap_at (out:=(arrOf A7).map (·.2)) hoL;have hp:=b2.length_eq;have hnone:s.heap.get? h'.objs.size=none:=by
  cases z:s.heap.get? h'.objs.size with
  | none=>rfl
  | some o=>exact absurd (Heap.lt_size (hkp _ _ z)) (Nat.lt_irrefl _)
 obtain ⟨hn,J⟩:=I.laidAt (h':=sortedHeap (h'.push (seqObj "list" P4.toList.toArray 0)) h'.objs.size P4.toList ((arrOf A7).map (·.2))) (t':=tk) (a:=h'.objs.size) (o:=.lst (ss'.map V.str)) (fun b o hb=>by
  have S0:=hkp b o hb;rw [sortedHeap_old (Nat.ne_of_lt (Heap.lt_size S0)) (Nat.lt_of_lt_of_le (Heap.lt_size S0) (by rw [Heap.size_push];exact Nat.le_succ _))];exact Heap.get?_push_of_some _ S0) hnone (show Yf X.prog X.w _ _ _ (.lst _) from ⟨by rw [List.length_map];exact sz (by lia),((arrOf A7).map (·.2)).toList,e,Zp6 b1,by rw [he]⟩)
 exact wpAny_pure ⟨_,rfl,.ref h'.objs.size,_,J,rfl,(q ss' b2 b3).at _ hn⟩
def Zql(tl:TE):TE:=fun σ H Q=>tl σ H fun x H1=>∃d kvs,x=.ref d/\Rd H1 d (.dK kvs)/\New H1 (.lst (kvs.map fun kv=>kv.2)) Q
theorem Zrd{kvs:List (Key×V)}{va:List (Key×Value)}(h:KV kvs va):Z5 (kvs.map fun kv=>kv.2) (va.map fun kv=>kv.2):=by
 induction h with
 | nil=>exact .nil
 | cons r t ih=>exact .cons r.2 ih
theorem Zm7{X:Cx}{i5 g9 p' v6:Pos}{o:Expr}{to:TE}(hc:X.calm=true) (L1:Gl X "list") (hml:X.mg "list" =none) (ho:PE X o to) (z9:attributeBase o "values" X.env (eval o X.env)=eval o X.env:=by rfl) (A0:(i5.endLine ==g9.line)=true:=by rfl) :
  PE X (.Call (.Name "list" p') [.Call (.Attribute o "values" i5) [] [] g9] [] v6) (Zql to):=by
 intro a7 s σ H Q I h;refine wpAny_Call_Name_kw (Zfi I L1 hml PyProof.Rows.boot_list ?_);refine PyProof.Rows.callWith_type1 ?_ rfl rfl;refine Calls.spliced_cons ?_;refine wpAny_Call_method0_late z9 A0 (thn (ho a7 s σ H _ I h) fun v s1 ⟨y,H1,I1,r1,q1⟩=>?_);obtain ⟨d,kvs,rfl,hd,q⟩:=q1;cases r1;obtain ⟨hz,hs,vs,kv,dd⟩:=Zbt I1.hok hd;obtain ⟨ob,_,_,w9,R7,_⟩:=id dd;obtain ⟨ep,hD⟩:=Zey dd w9;refine ⟨"dict", "dict.values",PySem.F.plainAttrs_dict,PySem.F.slot_dict_values,PySem.F.type_dict_values,dd.typeIs,fun a e=>?_,Calls.callWith_builtin rfl (PySem.evalArgs_none ?_)⟩
 ·cases e;exact ⟨ob,w9,R7.2.1⟩
 refine call_meetsIn PySem.F.slot_dict_values dd.typeIs PySem.F.entry_dict_values (PySem.F.args_dict_values_1 _) (meets_dict_values (Zz X.prog X.w) d hs) ⟨⟨vs,dd⟩,?_⟩;refine Calls.spliced_nil ?_;have I2:Inv X a7 σ H1 { s1 with heap:=s1.heap.push { cls:=.type "dict_values",data:=.fields #[.ref d] } }:=I1.kept (t':=s1.toks) fun b o e=>Heap.get?_push_of_some _ e
 have hl:=KV.length kv;refine PySem.W.kdl_call (PySem.W.kdl_values (knd:=Zz X.prog X.w) (r:=s1.heap.objs.size) (d:=d) (kvs:=vs) (ep:=ep)) (I2.ok.hd hc) ⟨⟨_,Heap.get?_push_size _ rfl,rfl,rfl⟩,hD _ (Heap.get?_push_of_some _ w9)⟩ (by lia) fun h' tk Q9 c' hk u6 B8=>?_
 have e1:Q9.toList=vs.map (·.2):=PySem.W.kdl_vals_eq Q9.toList (by rw [Array.length_toList];exact B8.1) fun j v e=>B8.2 j v (by rw [<-Array.getElem?_toList];exact e)
 have hv:Z5 (kvs.map fun kv=>kv.2) Q9.toList:=by rw [e1];exact Zrd kv
 exact ⟨.ref _,_,I2.laid (o:=.lst _) (t':=tk) hk (Nat.le_refl _) (show Yf X.prog X.w _ h' _ (.lst _) from ⟨by rw [List.length_map];exact hz,Q9.toList,c',hv,by rw [u6]⟩),rfl,q.at _ (I2.hok.fresh (Nat.le_refl _))⟩
end L2
end
section
namespace L2
open PySem PySem.Spec PyProof.Rows Builtin Builtin.ObjectAttr
def Zg2(e C:Addr)(dx:Option Addr):HO:=.ext fun h=>∃o vs,h.get? e=some o/\o.cls=.ref C/\o.dict=dx/\o.data=.fields vs/\vs[2]? =some .none
section
variable {P:Program} {w:World} {H:Hp} {h:Heap} {e C t:Addr} {dx:Option Addr}
theorem Zg2.ok{o:Obj}{vs:Array Value}(x:h.get? e=some o)(a:o.cls=.ref C)(b:o.dict=dx)(c:o.data=.fields vs)(d:vs[2]? =some .none):Yf P w H h e (Zg2 e C dx):=⟨⟨o,vs,x,a,b,c,d⟩,⟨_,x⟩,fun _ _ ⟨o,vs,x,r⟩ k=>⟨o,vs,k _ x,r⟩⟩
theorem Zg2.at(k:HOk P w H h)(q:H e=some (Zg2 e C dx)):∃o vs,h.get? e=some o/\o.cls=.ref C/\o.dict=dx/\o.data=.fields vs:=let ⟨o,vs,a,b,c,d,_⟩:=(k e _ q).1;⟨o,vs,a,b,c,d⟩
end
section
variable {X:Cx} {a7:List (Addr×Obj)} {σ:St} {H:Hp} {s:Shared}
theorem Inv.track{a:Addr}{o:HO}(I:Inv X a7 σ H s)(hn:H a=none)(h0:X.s₀.heap.get? a=none)(hl:a≠X.env.locals)(hc:∀x c,X.env.cells.lookup x=some c->c≠a)(hp:∀p∈X.pn++a7,p.1≠a)
  (new:Yf X.prog X.w (upd H a o) s.heap a o):Inv X a7 σ (upd H a o) s:=by
 refine ⟨I.ok,I.os,I.bare,⟨I.base.keep,I.base.slot,fun b u z n hx=>?_,I.base.there,fun b xs z=>?_,fun b ob u z=>?_,fun b ps z=>?_⟩,I.loc,I.cell,?_,fun x c z=>?_,fun p z=>?_,fun b u z=>?_,I.len⟩
 ·rw [Zd fun y=>by rw [y,h0] at z;cases z];exact I.base.free b u z n hx
 ·have q:=I.base.tups b xs z;rw [Zd (Zg q hn)];exact q
 ·have q:=I.base.frzs b ob u z;rw [Zd (Zg q hn)];exact q
 ·obtain ⟨more,q⟩:=I.base.tbls b ps z;exact ⟨more,by rw [Zd (Zg q hn)];exact q⟩
 ·rw [Zd hl.symm];exact I.free
 ·rw [Zd (hc x c z)];exact I.freeC x c z
 ·obtain ⟨q1,q2,q3⟩:=I.pin p z;exact ⟨q1,by rw [Zd (hp p z)];exact q2,q3⟩
 ·by_cases y:b=a
  ·subst y;rw [Zi] at z;cases z;exact new
  ·rw [Zd y] at z;exact (I.hok b u z).stay (fun _ _ _ q=>q) (fun c q=>by rw [Zd (Zg q hn)];exact q) fun c xs q=>by rw [Zd (Zg q hn)];exact q
theorem Inv.forget{h':Heap}{m':Str->Option Value}{t':Nat}(I:Inv X a7 σ H s)(hn:h'.Ns X.env.locals m')(hs:Heap.SameBut X.env.locals s.heap h'):Inv X a7 (List.replicate X.N.length none) H { s with heap:=h',toks:=t' }:=by
 have u5:∀b o,X.s₀.heap.get? b=some o->b≠X.env.locals:=fun b o q=>Nat.ne_of_lt (Nat.lt_of_lt_of_le (Heap.lt_size q) I.ok.above)
 refine ⟨I.ok,I.os,I.bare,⟨fun b o z n hb hx=>?_,fun b o z n hb hx=>?_,I.base.free,fun b o z hx=>?_,I.base.tups,I.base.frzs,I.base.tbls⟩,⟨m',hn,fun i x v _ z _=>?_⟩,fun x c z=>?_,I.free,I.freeC,fun p z=>?_,fun b u z=>?_,by simp⟩
 ·rw [hs.2 b (u5 b o z)];exact I.base.keep b o z n hb hx
 ·obtain ⟨sl,q⟩:=I.base.slot b o z n hb hx;exact ⟨sl,by rw [hs.2 b (u5 b o z)];exact q⟩
 ·obtain ⟨o',q⟩:=I.base.there b o z hx;exact ⟨o',by rw [hs.2 b (u5 b o z)];exact q⟩
 ·rw [List.getElem?_replicate] at z;split at z <;>cases z
 ·obtain ⟨v,q⟩:=I.cell x c z;exact ⟨v,q.sameBut hs (I.cne x c z)⟩
 ·obtain ⟨q1,q2,q3,q4⟩:=I.pin p z;exact ⟨by rw [hs.2 p.1 q3];exact q1,q2,q3,q4⟩
 ·refine (I.hok b u z).stay (fun c v y q=>?_) (fun _ q=>q) fun _ _ q=>q
  rw [hs.2 c ?_]
  ·exact q
  rintro rfl;have fr:H X.env.locals=none:=I.free;rcases y with rfl|y
  ·rw [fr] at z;cases z
  ·rw [fr] at y;cases y
end
section
variable {X:Cx} {a7:List (Addr×Obj)} {σ:St} {H:Hp} {s:Shared} {e C Y t:Addr} {f:Str} {A:Around} {E:Value->Shared->Prop}
structure XA(K:Frag)(C:Addr):Prop where
 ga:findIn K (.ref C) "__getattribute__" =some (some (.builtin "BaseException.__getattribute__"))
 gt:findIn K (.ref C) "__getattr__" =some none
 be:PySem.W.mroIn K C (.type "BaseException")=some true
end
section
variable {prog:Program} {w:World} {A:Around} {E:Value->Shared->Prop} {s:Shared} {K:Frag} {x C:Addr} {ox:Obj} {od:Option Obj} {name:Str} {tk:Tok}
theorem Zq3:builtinKind "BaseException.__getattribute__" =some .slot:=by trivial
theorem Zoc:splitId "BaseException.__getattribute__" =some ("BaseException", "__getattribute__"):=by trivial
theorem Zrb{v:Value}{R:Result->Shared->Prop}(X:K.In s.heap)(I:PySem.W.InstAt s.heap x ox C od)(xa:XA K C){fd:Found}(hf:PySem.W.findObj K C od name=some fd)
  (h:match fd with | .value v=>R (.ok (.ret v)) s | .bind g a=>wpAny (model prog w) A.in1 (call g [a,.ref x,.ref C]) (fun v s'=>R (.ok (.ret v)) s') (fun e s'=>R (.error e) s') s | .missing=>False) :
  codeAny (model prog w) A (.call (.builtin "BaseException.__getattribute__") ⟨[.ref x,.str name tk],[]⟩) R s:=by
 have ty:=I.type (M:=model prog w);have sub:PySem.W.Looks (model prog w) s.heap (isInstance (.ref x) (.type "BaseException")) true:=ty.andThen (PySem.W.looks_mroIn X xa.be);have fn:=PySem.W.looks_find (M:=model prog w) X I hf;refine codeAny_call_builtin PySem.F.attr_ValueError.ga.plain PySem.F.entry_bexc_ga (@PySem.W.check_slot (model prog w) _ _ s "BaseException.__getattribute__" "BaseException" "__getattribute__" (.ref x) [.str name tk] [] _ Zq3 Zoc sub (PySem.F.args_bexc_ga _ _) ?_);refine wpAny_bind (wpAny_pure (wpAny_bind (wpAny_pure (wpAny_bind (ty.here (wpAny_bind (fn.here ?_)))))));cases fd with
 | value v=>exact wpAny_pure h
 | bind g a =>
  show wpAny _ _ (holding [a] (call g [a,.ref x,.ref C]) >>=ret) _ _ _;exact wpAny_bind (wpAny_holding (wpAny_mono h (fun v s' z=>wpAny_pure z) fun _ _ z=>z))
 | missing=>exact h.elim
theorem Zvq{fill expr:Bool}{Q:Value->Shared->Prop}(X:K.In s.heap)(I:PySem.W.InstAt s.heap x ox C od)(xa:XA K C)
  (h:codeAny (model prog w) A (.call (.builtin "BaseException.__getattribute__") ⟨[.ref x,.str name tk],[]⟩) (fun r s'=>match r with | .ok (.ret v)=>wpAny (model prog w) A (handedOut v) Q E s' | _=>False) s) :
  wpAny (model prog w) A (getAttrBy (.ref x) (.str name tk) fill expr) Q E s:=by
 have ty:=I.type (M:=model prog w);have lg:=PySem.W.looks_findIn (M:=model prog w) X xa.ga;have lt:=PySem.W.looks_findIn (M:=model prog w) X xa.gt;unfold getAttrBy;refine wpAny_holding (wpAny_bind (ty.here (wpAny_bind (lg.here ?_))));show wpAny _ _ (getAttrByItsOwn (.ref x) (.str name tk) (.ref C) (.builtin "BaseException.__getattribute__") fill expr) _ _ _;unfold getAttrByItsOwn;refine wpAny_bind (lt.here (wpAny_bind (wpAny_attempt (wpAny_holding ?_))));have he:(expr && onTheHeap (Value.builtin "BaseException.__getattribute__"))=false:=by cases expr <;>rfl
 unfold callGetattribute;rw [he];simp only [Bool.false_eq_true,if_false];unfold boundAndCalled;rw [PySem.F.attr_ValueError.ga.bind];refine wpAny_bind (wpAny_pure (wpAny_call (codeAny_mono h fun r s' z=>?_)));rcases r with e|(v|_|_|_) <;>first|exact z|exact z.elim
theorem Zs3(xa:XA K C)(hc:(PySem.W.clsIn K C).isSome=true) (ha:findIn K (.ref C) "__class__" =some (some (.builtin "object.__class__"))) (hn:PySem.W.specialIn K (.builtin "object.__class__") "__get__" =some (some (.builtin "getset_descriptor.__get__")))
  (htk:PySem.W.takesIn K (.builtin "object.__class__")=some true) (hm:PySem.W.mroIn K C (.type "object")=some true):PySem.W.KitX K (.ref x) (.ref C) (fun h=>PySem.W.InstAt h x ox C od) where
 ty:=fun _ _ _ I=>I.type
 it:=fun _ _ X _=>by
  unfold PySem.W.clsIn at hc;split at hc
  ·rename_i c' d' cd' L3 ho;intro A' Q' E' s' k q;unfold isType loadHead;exact wpAny_bind (wpAny_loadPart (k _ _ (X _ _ ho)) (wpAny_pure q))
  ·cases hc
 ne:=fun h tp dd a8 n sl X htp=>by
  refine Bool.eq_false_iff.mpr fun q=>?_
  have e:C=tp:=Value.ref.inj (beq_iff_eq.mp q);subst e;unfold PySem.W.clsIn at hc;split at hc
  ·rename_i c' d' cd' L3 ho;have z:=(X _ _ ho).symm.trans htp;cases z
  ·cases hc
 ca:=fun {prog w A E Q s} X I k=>by
  have hf:PySem.W.findObj K C od "__class__" =some (.bind (.builtin "getset_descriptor.__get__") (.builtin "object.__class__")):=by
   obtain ⟨cd,A9⟩:=Option.isSome_iff_exists.mp hc;unfold PySem.W.findObj;rw [A9,Option.bind_some,ha];simp [hn,htk]
  unfold getAttr? getAttrBy?;refine wpAny_bind (wpAny_mkText (wpAny_bind (wpAny_attempt (Zvq (s:={ s with toks:=s.toks+1 }) X I xa (Zrb (s:={ s with toks:=s.toks+1 }) (v:=.none) X I xa hf ?_)))));exact wpAny_call (PySem.W.class_get (s:={ s with toks:=s.toks+1 }) (ox:=ox) (od:=od) X I hm (wpAny_pure (wpAny_pure k)))
end
section
variable {X:Cx} {f:Str}
end
end L2
end
section
namespace L2
open PySem PySem.Spec PyProof.Rows
section
variable {prog:Program} {w:World} {A:Around} {E:Value->Shared->Prop} {h:Heap} {g:Array GenState} {d:Drawn} {tk:Nat} {os:OsState} {nm qn:Str} {C N:Addr} {bs bm bmB:List Value} {hdct:Bool} {sn:List Str} {sub:List Value} {ab:Bool} {col:Option Bool} {dd:Option Addr} {k0 k1 k2 k3 k5:Option Value} {B p8 O6:String}
 {Z3:List Value} {fI:Addr} {oI:Obj}
end
section
variable {M:Model} {A:Around} {E:Value->Shared->Prop} {s:Shared} {env:Env} {nm qn:Str} {C N:Addr} {bs bm:List Value} {hdct:Bool} {sn:List Str} {sub:List Value} {ab:Bool} {col:Option Bool} {dd:Option Addr} {k0 k1 k2 k3 k5:Option Value} {p8:String}
end
section
variable {P:Program} {w:World} {K:Frag} {mg:Str->Option Value} {base:Heap} {N:List Str} {qual:Str} {scope:Scope} {f:Addr} {cd:Value} {A:Around} {outer:List Env} {s₀:Shared} {H₀:Hp} {E:XK}
end
section
variable {K:Frag} {M:Model} {A:Around} {E:Value->Shared->Prop} {s:Shared} {e C B:Addr} {o:Obj} {r:Bool}
theorem Zl8{Q:Bool->Shared->Prop}(X:K.In s.heap)(he:s.heap.get? e=some o)(hc:o.cls=.ref C) (kB:PySem.W.kitCls K (.ref B) (.type "BaseException")=some true) (kC:PySem.W.kitCls K (.ref C) (.ref B)=some r) (hq:Q r s) :
  wpAny M A (excMatches (.ref e) (.ref B)) Q E s:=by
 obtain ⟨tB,iB,sB⟩:=PySem.W.kit_cls (M:=M) X kC;obtain ⟨_,_,bB⟩:=PySem.W.kit_cls (M:=M) X kB;have ty:PySem.W.Looks M s.heap (typeOf (.ref e)) (.ref C):=hc ▸ (PySem.W.Looks.ld he).andThen .now;have f:=tc_notTuple;unfold excMatches isExcClass
 repeat (first | with_reducible refine ty.here ?_ | with_reducible refine tB.here ?_ | with_reducible refine iB.here ?_ | with_reducible refine sB.here ?_ | with_reducible refine bB.here ?_ | wp_step)
 cases r with
 | true=>repeat (first | exact hq | wp_step)
 | false=>repeat (first | exact hq | wp_step)
end
def Zc1.blur(D:Zc1)(n:Nat):Zc1:={ nx:=fun _ H=>D.nx (List.replicate n none) H,rt:=D.rt,bk:=fun _ H=>D.bk (List.replicate n none) H,ct:=fun _ H=>D.ct (List.replicate n none) H }
section
variable {X:Cx} {σ:St} {H:Hp}
theorem WS.tryAs{x n:Str}{B:Addr}{i:Nat}{np hpos pos:Pos}{body O7:List Stmt}{b₀:Stmt}{D:Zc1}{Ex:XK}{R:Addr->Option Addr->Hp->Prop}(hm:X.mg x=some (.ref B)) (kB:PySem.W.kitCls X.K (.ref B) (.type "BaseException")=some true) (hg:Gl X x) (hN:X.N.Nodup) (hi:X.N[i]? =some n) (hlo:X.env.kindOf n=some .local) (hsc:X.env.scope.names.lookup n=some .local)
  (A6:X.stack=X.env ::X.outer) (hfm:X.env.frame=some X.env.locals) (hcm:X.calm=true) (R7:X.ex=[]) (hE:∀cls dx H',Ex cls dx H'->∃C,cls=.ref C/\PySem.W.kitCls X.K (.ref C) (.ref B)=some true/\R C dx H')
  (hb:∀pn xe,Zay (CXF X.prog X.w) (X.tried pn xe) Ex->WSs (X.tried pn xe) body D σ H) (hh:∀(ea C:Addr) (dx:Option Addr) (σ':St) (H':Hp),σ'.length=X.N.length->R C dx H'->H' ea=none->WSs (X.caught ea) (b₀ ::O7) (D.blur X.N.length) (σ'.set i (some (.ref ea))) (upd H' ea (Zg2 ea C dx))) (hd:(x ==("__debug__" :Str))=false:=by decide) :
  WS X (.Try body [.ExceptHandler (some (.Name x np)) (some n) (b₀ ::O7) hpos] [] [] pos) D σ H:=by
 refine ⟨fun a7 s I=>?_⟩;refine wpAny_Try_except ?_;have pass:Zay (CXF X.prog X.w) (X.tried (X.pn++a7) fun e s₁=>wpAny (model X.prog X.w) X.A (noteFrame e X.env) (fun _ s₂=>wpAny (model X.prog X.w) X.A (setFlight e none) (fun _ s₃=>wpAny (model X.prog X.w) X.A (handleBy e X.env [.ExceptHandler (some (.Name x np)) (some n) (b₀ ::O7) hpos]) (SP X a7 D) X.xe s₃) X.xe s₂) X.xe s₁) Ex:=by
  intro j7 σ' H1 s1 e s2 I1 hc;obtain ⟨ea,cls,dx,H2,rfl,os,bare,un,hok,⟨a0,B0,fl,pB⟩,hEx⟩:=hc;obtain ⟨C,rfl,kC,hR⟩:=hE _ _ _ hEx;have IX:Inv X a7 σ' H1 s1:=I1.tryOut;have I2:Inv X a7 σ' H2 s2:=IX.call' os un hok bare (fun b z=>absurd z (by simp));have fr:∀b∈frs X.stack,H2 b=none/\∃o,s2.heap.get? b=some o/\∀vs,o.data ≠ .fields vs:=fun b hb=>⟨I2.stkFree b hb,(I2.stack.mem hb).2⟩
  have step:∀h',B0.StaysIn h'->s2.heap.UpToSlots h'->Inv X a7 σ' H2 { s2 with heap:=h' }:=fun h' st up =>
   let ⟨u,k⟩:=Zyf un hok fr st up pB
   IX.call' (s':={ s2 with heap:=h' }) os u k bare (fun b z=>absurd z (by simp))
  have new:∀b o,s1.heap.get? b=some o->b≠ea:=fun b o q z=>by
   subst z;obtain ⟨ob,w9,_,_,vs,hvs⟩:=fl.there
   by_cases hf:b∈frs X.stack
   ·obtain ⟨_,o2,h2,h3⟩:=fr b hf;rw [w9] at h2;cases h2;exact h3 vs hvs
   ·have:=pB b ob w9 (.inl ⟨o,q⟩) hf;rw [fl.2.1] at this;cases this
  have non:H2 ea=none:=by
   cases q:H2 ea with
   | none=>rfl
   | some u =>
    obtain ⟨ob,w9,_⟩:=fl.there;have:=pB ea ob w9 (.inr (by rw [q];exact Option.some_ne_none _)) (fun z=>by have:=(fr ea z).1;rw [q] at this;cases this);rw [fl.2.1] at this;cases this
  have fl:Zbn B0 (X.env ::X.outer) ea (.ref C) a0 dx .none s2.heap:=by rw [<-A6];exact fl
  have u9:X.A.frames=some (X.env ::X.outer):=by rw [<-A6];exact I2.ok.frames
  show wpAny (model X.prog X.w) X.A (noteFrame (.ref ea) X.env) _ _ s2;refine Zj4 u9 hfm fl fun h₄ held₄ sm₄=>Zpx (s:={ s2 with heap:=h₄ }) held₄ fun h₅ fl₅ sm₅=>?_
  have sm25:s2.heap.UpToSlots h₅:=sm₄.trans sm₅;have I5:=(step h₅ fl₅.1 sm25).catch ea;refine wpAny_handleBy_cons (codeAny_handlers_test (Zeu I5 hg hm ?_ hd)) (by intro q;cases q);obtain ⟨ob,w9,hobc,_⟩:=fl₅.there;refine Zl8 I5.kIn w9 hobc kB kC (codeAny_handlers_suite_as ?_);refine Zpx (s:={ s2 with heap:=h₅ }) fl₅ fun h₆ fl₆ sm₆=>?_
  have I6:=step h₆ fl₆.1 (sm25.trans sm₆);obtain ⟨o6,ho6,oc6,od6,vs6,ov6⟩:=fl₆.there;have oc2:vs6[2]? =some .none:=by
   obtain ⟨ob,vs,q1,q2,q3⟩:=fl₆.ctx;rw [ho6] at q1;cases q1;rw [ov6] at q2;cases q2;exact q3
  have I7:Inv X a7 σ' (upd H2 ea (Zg2 ea C dx)) { s2 with heap:=h₆ }:=I6.track non
   (by
    cases q:X.s₀.heap.get? ea with
    | none=>rfl
    | some o =>
     obtain ⟨o',q'⟩:=IX.base.there ea o q (by rw [R7];simp);exact absurd rfl (new ea o' q'))
   (fun z=>by
    obtain ⟨m,⟨o,_,_,q,_⟩,_⟩:=IX.loc;exact new _ o q z.symm)
   (fun y c q=>by
    obtain ⟨v,o,q',_⟩:=IX.cell y c q;exact new c o q')
   (fun p q=>new p.1 p.2 (IX.pin p q).1) (Zg2.ok ho6 oc6 od6 ov6 oc2)
  refine Zi5 (X:=X.caught ea) (s:={ s2 with heap:=h₆ }) (I7.catch ea) hN hi (.inl hsc) (v:=.ref ea) rfl (fun s8 I8=>?_) (.inr hsc);refine wpAny_mono ((hh ea C dx σ' H2 IX.len hR non).run a7 _ I8) (fun f s₃ q=>?_) fun _ _ z=>False.elim z
  have hX:=I.ok.hd hcm;have S1:∀{σ'':St} {M6:Hp} {s3:Shared} {Q:Unit->Shared->Prop},Inv (X.caught ea) a7 σ'' M6 s3->(∀s4,Inv X a7 (List.replicate X.N.length none) M6 s4->Q () s4)->wpAny (model X.prog X.w) X.A (do bindName X.env n .none;unbindBehindTheSuite X.env n hpos) Q X.xe s3:=by
   intro σ'' M6 s3 Q J k;obtain ⟨m,hn,_⟩:=J.loc;refine wpAny_nameGoes hlo hn (by rw [J.ok.kind];rfl) fun h' m' Q6 K8=>k _ ?_
   exact (J.uncatch hX).forget Q6 K8
  cases f with
  | next=>obtain ⟨σ'',M6,J,q⟩:=q;exact S1 J fun s4 J4=>⟨_,M6,J4,q⟩
  | brk=>obtain ⟨σ'',M6,J,q⟩:=q;exact S1 J fun s4 J4=>⟨_,M6,J4,q⟩
  | cont=>obtain ⟨σ'',M6,J,q⟩:=q;exact S1 J fun s4 J4=>⟨_,M6,J4,q⟩
  | ret u=>obtain ⟨v,σ'',M6,J,r,q⟩:=q;exact S1 J fun s4 J4=>⟨v,_,M6,J4,r,q⟩
 refine wpAny_mono ((hb _ _ pass).run [] s (I.tryIn _)) (fun f s₁ q=>?_) fun e s₁ z=>z
 cases f with
 | next =>
  obtain ⟨σ',H',J,q⟩:=q;exact wpAny_execs_nil ⟨σ',H',J.tryOut,q⟩
 | brk=>obtain ⟨σ',H',J,q⟩:=q;exact ⟨σ',H',J.tryOut,q⟩
 | cont=>obtain ⟨σ',H',J,q⟩:=q;exact ⟨σ',H',J.tryOut,q⟩
 | ret u=>obtain ⟨v,σ',H',J,r,q⟩:=q;exact ⟨v,σ',H',J.tryOut,r,q⟩
end
structure XG(K:Frag)(C:Addr):Prop where
 xa:XA K C
 hc:(PySem.W.clsIn K C).isSome=true
 cl:findIn K (.ref C) "__class__" =some (some (.builtin "object.__class__"))
 cg:PySem.W.specialIn K (.builtin "object.__class__") "__get__" =some (some (.builtin "getset_descriptor.__get__"))
 ct:PySem.W.takesIn K (.builtin "object.__class__")=some true
 ob:PySem.W.mroIn K C (.type "object")=some true
theorem Zm0:∀{cs:List Addr} {a8:List Value},Z5 (cs.map V.ref) a8->a8=cs.map Value.ref
 | [],_,.nil=>rfl
 | c ::cs,_,.cons r t=>by
  rw [Zm0 t];cases r
  rfl
end L2
end
section
namespace L2
open PySem PySem.Spec PyProof.Rows
theorem Zmk:typeLookup (.type "list") "keys" =pure none:=by rw [typeLookup_type,builtinLookup_eq_fast];kernel_rfl
theorem Zh7:typeLookup (.type "list") "__getattr__" =pure none:=by rw [typeLookup_type,builtinLookup_eq_fast];kernel_rfl
theorem Zoj:isSubtype (.type "AttributeError") (.type "AttributeError")=pure true:=by rw [isSubtype_type];kernel_rfl
section
variable {prog:Program} {w:World} {A:Around} {E:Value->Shared->Prop} {h:Heap} {g:Array GenState} {d:Drawn} {t:Nat} {os:OsState} {a:Addr} {vs:Array Value} {n:Nat}
theorem Zu8{β:Type}{msg:Str}{Q:β->Shared->Prop}(hh:A.handled=none)(hm:msg.length<=sizeLine)
  (hq:∀h' e u8,(∀b u,h.get? b=some u->h'.get? b=some u)->(∃oe,h'.get? e=some oe/\oe.cls=.type "AttributeError")->E (.ref e) ⟨h',g,d,u8,os⟩) :
  wpAny (model prog w) A (raiseAttrError (.ref a) "keys" msg:Sem β) Q E ⟨h,g,d,t,os⟩:=by
 have f5:=Zoj;have hm':¬msg.length >sizeLine:=by lia
 unfold raiseAttrError newExc
 repeat (any_goals (first | assumption | rw [if_neg hm'] | wp_step))
 generalize hoX:({ cls:=Value.type "AttributeError",data:=Data.fields (#[Value.ref h.objs.size,Value.none,Value.none,Value.none,Value.bool false,if ((Manifest.find? "AttributeError").elim false fun t=>t.mro.contains "StopIteration" || t.mro.contains "SystemExit")=true then [Value.str msg t].headD Value.none else Value.none]++ownMembersOf (Value.type "AttributeError") [Value.str msg t]) }:Obj)=oX;have hcX:oX.cls=.type "AttributeError" :=by rw [<-hoX]
 have hdX:∃ws,oX.data=.fields ws:=⟨_,by rw [<-hoX]⟩
 obtain ⟨ws,hdX⟩:=hdX;have hX:((h.push { cls:=Value.type "tuple",data:=Data.seq #[Value.str msg t] }).push oX).get? (h.push { cls:=Value.type "tuple",data:=Data.seq #[Value.str msg t] }).objs.size=some oX:=Heap.get?_push_size _ (Obj.isFreed_of_fields hdX);refine wpAny_raiseNew_none hh (hq _ _ _ (fun b u hb=>?_) ⟨_,Heap.get?_update_self _ hX (Obj.isFreed_of_fields (Obj.data_mapFields hdX _)),by rw [Obj.cls_mapFields];exact hcX⟩);rw [Heap.get?_update_other _ _ (by rw [Heap.size_push];exact Nat.ne_of_gt (Nat.lt_succ_of_lt (Heap.lt_size hb)))];exact Heap.get?_push_of_some _ (Heap.get?_push_of_some _ hb)
theorem Zoh{tk:Tok}{Q:Fin->Shared->Prop}(hh:A.handled=none) (hx:h.get? a=some { cls:=.type "list",data:=.seq vs n })
  (hq:∀h' e u8,(∀b u,h.get? b=some u->h'.get? b=some u)->(∃oe,h'.get? e=some oe/\oe.cls=.type "AttributeError")->E (.ref e) ⟨h',g,d,u8,os⟩) :
  wpAny (model prog w) A (Builtin.«object.__getattribute__» ⟨[.ref a,.str "keys" tk],[]⟩) Q E ⟨h,g,d,t,os⟩:=by
 have hT:(⟨h,g,d,t,os⟩:Shared).TypeIs (.ref a) "list" :=⟨_,hx,rfl⟩
 have f4:=Zmk;have f5:=Zoj
 repeat (any_goals (first | assumption | wp_step))
 exact Zu8 hh (by trivial) hq
theorem Zkw{Q:Option Value->Shared->Prop}(hh:A.handled=none) (hx:h.get? a=some { cls:=.type "list",data:=.seq vs n })
  (hq:∀h' u8,(∀b u,h.get? b=some u->h'.get? b=some u)->Q none ⟨h',g,d,u8,os⟩):wpAny (model prog w) A (getAttr? (.ref a) "keys") Q E ⟨h,g,d,t,os⟩:=by
 have hT:(⟨h,g,d,t,os⟩:Shared).TypeIs (.ref a) "list" :=⟨_,hx,rfl⟩
 have f2:=F.slot_list_getattribute.lookup;have f3:=F.slot_list_getattribute.bind (.ref a);have f5:=Zoj;have f6:=Zh7;unfold getAttr? getAttrBy?
 repeat (any_goals (first | assumption | wp_step))
 refine codeAny_call_builtin F.slot_list_getattribute.plain F.entry_list_ga (F.slot_list_getattribute.check _ _ _ _ _ _ _ _ (show (⟨h,g,d,t+1,os⟩:Shared).TypeIs (.ref a) "list" from ⟨_,hx,rfl⟩) (F.args_list_getattribute_2 _ _) (Zoh hh hx fun h' e u8 kp ⟨oe,he,hc⟩=>?_));have hTe:(⟨h',g,d,u8,os⟩:Shared).TypeIs (.ref e) "AttributeError" :=⟨_,he,hc⟩
 have hq':=hq h' u8 kp;unfold getattributeRaised
 repeat (any_goals (first | assumption | wp_step))
 all_goals trace_state
end
theorem Zew:entryFor table "dict.update.loop" =some Builtin.«dict.update.loop» :=entryFor_of_tree (by kernel_rfl)
section
variable {prog:Program} {w:World} {KT:Type} [DecidableEq KT] {knd:KeyKind prog w KT} {A:Around} {R:Result->Shared->Prop} {l d it:Addr} {tps:List Addr} {prs D0:List (KT×Value)} {h₀:Heap}
def Zl3(knd:KeyKind prog w KT)(h:Heap)(tps:List Addr)(prs:List (KT×Value)):Prop:=Paired (fun p (q:KT×Value)=>∃key o n,knd.is q.1 key=true/\h.get? p=some o/\o.cls=.type "tuple" /\o.data=.seq #[key,q.2] n) tps prs
theorem Zo7(hh:A.handled=none)(hdi:d≠it)(hl:h₀.IsList l (tps.map Value.ref).toArray)(hld:l≠d)(hli:l≠it)(hp:Zl3 knd h₀ tps prs)(hsz:D0.length+prs.length<=sizeLine)(hpd:∀p∈tps,p≠d/\p≠it) :
  ∀(n i:Nat) (s:Shared) (j:Int) (tk:Tok),i+n=prs.length->s.heap.IsListIter it l i->s.heap.DictOf knd d (merged D0 (prs.take i))->(∀b o,b≠d->b≠it->h₀.get? b=some o->s.heap.get? b=some o) ->
   (∀h' u8,h'.DictOf knd d (merged D0 prs)->(∀b o,b≠d->b≠it->h₀.get? b=some o->h'.get? b=some o)->R (.ok (.ret .none)) { s with heap:=h',toks:=u8 }) ->
   codeAny (model prog w) A (.builtin "dict.update.loop" ⟨[.ref d,.ref it,.int j tk,.none],[]⟩) R s:=by
 have g8:tps.length=prs.length:=Paired.length hp;intro n
 induction n with
 | zero =>
  intro i s j tk hi hit hD keep hq;have G0:s.heap.IsList l (tps.map Value.ref).toArray:=by
   obtain ⟨o,ho,r⟩:=hl;exact ⟨o,keep _ _ hld hli ho,r⟩
  refine codeAny_builtin Zew ?_;unfold Builtin.«dict.update.loop»;dsimp only;refine wpAny_bind (wpAny_pyNext_list_end hh hit G0 (by rw [List.getElem?_toArray,List.getElem?_map,List.getElem?_eq_none (by lia)];rfl) fun h' eb=>?_);dsimp only;refine wpAny_bind (wpAny_pure (wpAny_pure ?_));refine hq h' s.toks ?_ ?_
  ·rw [show prs.take i=prs from List.take_of_length_le (by lia)] at hD;obtain ⟨o,es,ep,ho,r⟩:=hD;exact ⟨o,es,ep,eb d o hdi ho,r⟩
  ·exact fun b o h1 h2 h3=>eb b o h2 (keep b o h1 h2 h3)
 | succ n ih =>
  intro i s j tk hi hit hD keep hq;have G0:s.heap.IsList l (tps.map Value.ref).toArray:=by
   obtain ⟨o,ho,r⟩:=hl;exact ⟨o,keep _ _ hld hli ho,r⟩
  have E3:i<tps.length:=by lia
  obtain ⟨q,hqi,key,ot,nt,hk,J6,hct,hdt⟩:=Paired.get hp (i:=i) (a:=tps[i]) (List.getElem?_eq_getElem E3);obtain ⟨nd,ni⟩:=hpd tps[i] (List.getElem_mem E3);refine codeAny_builtin Zew ?_;unfold Builtin.«dict.update.loop»;dsimp only;refine wpAny_bind (wpAny_pyNext_list_item hit G0 (x:=.ref tps[i]) (by rw [List.getElem?_toArray,List.getElem?_map,List.getElem?_eq_getElem E3];rfl) fun h1 it1 sb1=>?_);have M7:h1.get? tps[i]=some ot:=by rw [sb1.2 _ ni];exact keep _ _ nd ni J6
  have hT:({ s with heap:=h1 }:Shared).TypeIs (.ref tps[i]) "tuple" :=⟨_,M7,hct⟩
  have L7:h1.DictOf knd d (merged D0 (prs.take i)):=by
   obtain ⟨o,es,ep,ho,r⟩:=hD;exact ⟨o,es,ep,by rw [sb1.2 _ hdi];exact ho,r⟩
  refine wpAny_bind (wpAny_holding (wpAny_bind (wpAny_tryCatch ?_)));unfold Builtin.Dict.pairItems;refine wpAny_bind (wpAny_typeOf hT ?_);rw [if_pos (by decide)];refine wpAny_bind (wpAny_seqItems (s:={ s with heap:=h1 }) M7 hdt (wpAny_pure ?_));refine wpAny_holding (wpAny_dictSet_pairs hk L7 (fun h2 C3 sb2=>?_) ?_)
  ·refine wpAny_pure ⟨Code.quiet_builtin _ (by trivial),?_⟩;have A6:stored (merged D0 (prs.take i)) q.1 q.2=merged D0 (prs.take (i+1)):=(merged_take_succ D0 prs i q hqi).symm;rw [A6] at C3;refine ih (i+1) { s with heap:=h2,toks:=s.toks+1 } (j+1) _ (by lia) ?_ C3 (fun b o n1 n2 z=>?_) fun h' u8=>hq h' u8
   ·exact it1.at fun o z=>by rw [sb2.2 _ hdi.symm];exact z
   ·rw [sb2.2 _ n1,sb1.2 _ n2];exact keep b o n1 n2 z
  ·have:=merged_length_le (K:=KT) D0 (prs.take i);rw [List.length_take] at this;lia
theorem Zia{n:Nat}{s:Shared}{Q:Value->Shared->Prop}{E:Value->Shared->Prop}(hh:A.handled=none) (hx:s.heap.get? l=some { cls:=.type "list",data:=.seq (tps.map Value.ref).toArray n }) (hp:Zl3 knd s.heap tps prs) (hsz:prs.length<=sizeLine)
  (h:∀h' u8 dd,h'.DictOf knd dd (merged [] prs)->dd=s.heap.objs.size->s.heap.get? dd=none->(∀b o,s.heap.get? b=some o->h'.get? b=some o)->Q (.ref dd) { s with heap:=h',toks:=u8 }) :
  wpAny (model prog w) A (call (.type "dict") [.ref l]) Q E s:=by
 refine callType_codes (Q₁:=fun obj s₁=>obj=.ref s.heap.objs.size/\s₁={ s with heap:=s.heap.push { cls:=.type "dict",data:=.dict #[] } }) F.kt_called_dict (F.kt_typeCall_dict_1 _) F.entry_dict_init (kt_code_dict_new _ ⟨rfl,rfl⟩) ?_;rintro obj s₁ ⟨rfl,rfl⟩;have j8:(s.heap.push { cls:=.type "dict",data:=.dict #[] }).DictOf knd s.heap.objs.size []:=Heap.DictOf.new s.heap;have hx1:(s.heap.push { cls:=.type "dict",data:=.dict #[] }).get? l=some { cls:=.type "list",data:=.seq (tps.map Value.ref).toArray n }:=Heap.get?_push_of_some _ hx;refine ⟨j8.typeIs,F.args_dict_init_2 _ _,?_⟩;unfold Builtin.«dict.__init__»;refine wpAny_bind ?_;unfold Builtin.Dict.selfAndRest;refine wpAny_bind (wpAny_notOrdered_dict j8.typeIs ?_);show wpAny _ _ (pure (s.heap.objs.size,[Value.ref l])) _ _ _;refine wpAny_pure ?_;show wpAny _ _ (Builtin.Dict.updateFrom "dict.__init__" s.heap.objs.size (.ref l) [] .none) _ _ _;unfold Builtin.Dict.updateFrom;refine wpAny_bind (wpAny_typeOf (T := "list") ⟨_,hx1,rfl⟩ ?_);rw [if_pos (by decide)];obtain ⟨h0,g0,d0,t0,os0⟩:=s;dsimp only at *;refine wpAny_bind (Zkw hh hx1 fun h1 tk1 k1=>?_);simp only [Option.isNone_none,if_true];have U6:=k1 _ _ hx1;have hl2:h1.IsList l (tps.map Value.ref).toArray:=⟨_,U6,rfl,n,rfl⟩
 refine wpAny_bind (wpAny_rule (wpAny_bind (wpAny_pyIter_list (s:=⟨h1,g0,d0,tk1,os0⟩) hl2 (wpAny_pure ⟨Code.quiet_builtin _ (by trivial),?_⟩))));have k2:∀b o,h0.get? b=some o->(h1.push { cls:=.type "list_iterator",data:=.fields #[.ref l,.int 0 0] }).get? b=some o:=fun b o z=>Heap.get?_push_of_some _ (k1 _ _ (Heap.get?_push_of_some _ z))
 have hd1:h1.get? h0.objs.size=some { cls:=.type "dict",data:=.dict #[] }:=k1 _ _ (Heap.get?_push_size h0 rfl);have U7:h0.objs.size<h1.objs.size:=Heap.lt_size hd1;have hll:l<h0.objs.size:=Heap.lt_size hx;refine Zo7 (A:=A.in1) (knd:=knd) (h₀:=h1.push { cls:=.type "list_iterator",data:=.fields #[.ref l,.int 0 0] }) (l:=l) (tps:=tps) (prs:=prs) (D0:=[]) hh (Nat.ne_of_lt U7) ?_ (Nat.ne_of_lt hll) (Nat.ne_of_lt (Nat.lt_trans hll U7)) ?_ (by simpa using hsz) (fun p z=>?_) prs.length 0 ⟨h1.push { cls:=.type "list_iterator",data:=.fields #[.ref l,.int 0 0] },g0,d0,tk1,os0⟩ 0 0 (by lia) ?_ ?_ (fun _ _ _ _ z=>z) fun h' u8 hD kp=>?_
 ·exact ⟨_,k2 _ _ hx,rfl,n,rfl⟩
 ·exact Paired.mapP hp fun p q ⟨key,o,m,z1,z2,z3⟩=>⟨key,o,m,z1,k2 _ _ z2,z3⟩
 ·obtain ⟨i,hi,rfl⟩:=List.getElem_of_mem z;obtain ⟨q,_,key,o,m,_,z2,_⟩:=Paired.get hp (i:=i) (a:=tps[i]) (List.getElem?_eq_getElem hi);have:=Heap.lt_size z2;exact ⟨Nat.ne_of_lt this,Nat.ne_of_lt (Nat.lt_trans this U7)⟩
 ·exact ⟨_,Heap.get?_push_size h1 rfl,rfl,rfl⟩
 ·obtain ⟨o,es,ep,ho,r⟩:=j8;exact ⟨o,es,ep,Heap.get?_push_of_some _ (k1 _ _ ho),r⟩
 ·refine ⟨rfl,h h' u8 h0.objs.size hD rfl (Heap.get?_none_of_le (Nat.le_refl _)) fun b o z=>kp b o ?_ ?_ (k2 b o z)⟩
  ·exact Nat.ne_of_lt (Heap.lt_size z)
  ·exact Nat.ne_of_lt (Nat.lt_trans (Heap.lt_size z) U7)
end
def Zou:List V->Hp->VK->Prop:=fun xs H Q=>∃(l:Addr) (tps:List Addr) (kvs:List (Key×V)),xs=[.ref l]/\H l=some (.lst (tps.map V.ref))/\Paired (fun t (q:Key×V)=>H t=some (.tup [kV q.1,q.2])) tps kvs/\(kvs.map Prod.fst).Nodup/\New H (.dK kvs) Q
theorem Zjn{X:Cx}(hc:X.calm=true):Xe X (.type "dict") Zou:=by
 intro a7 s σ H xs us Q I r h;obtain ⟨l,tps,kvs,rfl,hl,hp,hn,q⟩:=h;obtain ⟨u,rfl,ru⟩:=Za0 r;cases ru;obtain ⟨hz,a8,n,rv,hg⟩:=(show Yf X.prog X.w H s.heap l (.lst (tps.map V.ref)) from I.hok l _ hl)
 rw [Zm0 rv] at hg;have key:∀{tps:List Addr} {kvs:List (Key×V)},Paired (fun t (q:Key×V)=>H t=some (.tup [kV q.1,q.2])) tps kvs->∃prs:List (Key×Value),KV kvs prs/\Zl3 (Zz X.prog X.w) s.heap tps prs:=by
  intro tps kvs hp
  induction hp with
  | nil=>exact ⟨[],.nil,.nil⟩
  | cons r t ih =>
   rename_i p q _ _;obtain ⟨prs,h1,h2⟩:=ih;obtain ⟨_,a8,rv,o,ho,p7,m,hd⟩:=(show Yf X.prog X.w H s.heap p (.tup [kV q.1,q.2]) from I.hok p _ r)
   obtain ⟨k,v,rfl,rk,rv2⟩:=Zk6 rv;exact ⟨(q.1,v) ::prs,.cons ⟨rfl,rv2⟩ h1,.cons ⟨k,o,m,Zhr rk,ho,p7,hd⟩ h2⟩
 obtain ⟨prs,B7,hpi⟩:=key hp;have B9:kvs.length<=sizeLine:=by
  have:=Paired.length hp;rw [List.length_map] at hz;lia
 have P9:(prs.map Prod.fst).Nodup:=by
  have:∀{kvs:List (Key×V)} {prs:List (Key×Value)},KV kvs prs->prs.map Prod.fst=kvs.map Prod.fst:=by
   intro kvs prs z
   induction z with
   | nil=>rfl
   | cons r t ih=>rw [List.map_cons,List.map_cons,ih,r.1]
  rw [this B7];exact hn
 refine Zia (I.ok.hd hc) hg hpi (by rw [<-KV.length B7];exact B9) fun h' u8 dd hD hdd Q6 k=>?_
 rw [merged_nil_of_nodup prs P9] at hD;have hsm:dd≠sysModules:=fun z=>by
  have hb:=I.big;rw [<-hdd,z] at hb;exact Nat.lt_irrefl _ hb
 obtain ⟨hH,J⟩:=I.laidAt (t':=u8) (o:=.dK kvs) k Q6 (Zj7 B9 (beq_eq_false_iff_ne.mpr hsm) B7 hD);exact ⟨.ref dd,_,J,rfl,q.at dd hH⟩
end L2
namespace L2
open PySem PySem.Spec PyProof.Rows
theorem Zov{d:Addr}{o:Obj}{kvs:List (Key×V)}{fr:St->St}{g:TG}{tf:TT}{te:TE}{Q:VK}{σ:St}{H1:Hp}{D:Addr}(Pv:Nat->List V->Hp->Prop)(h0:Pv 0 [] (upd H1 D (.lst [])))(hl:∀i ys H,i<=kvs.length->Pv i ys H->H d=some (.frz o (.dK kvs)))
  (hs:∀i kv ys H,kvs[i]? =some kv->Pv i ys H->∀p H2,Same H H2->H p=none->H2 p=some (.tup [kV kv.1,kv.2])->Zco fr g tf te σ D (.ref p) ys H2 (Pv (i+1))) (hd:∀ys H,Pv kvs.length ys H->Q (.ref D) H):Zfd (Iti d o kvs) fr g tf te Q σ H1 D:=by
 refine ⟨fun i m ys H=>m=kvs.length-i/\i<=kvs.length/\Pv i ys H,⟨kvs.length,by simp,Nat.zero_le _,h0⟩,?_⟩;rintro i m ys H ⟨rfl,hi,p⟩;have q:=hl i ys H hi p
 by_cases d5:i<kvs.length
 ·refine .inr ⟨⟨q,d5⟩,Pv (i+1),fun ys' H' p'=>⟨kvs.length-(i+1),by lia,rfl,d5,p'⟩,fun x H' y=>?_⟩;obtain ⟨a,kv,e,hn,B7,e2⟩:=y;subst e e2;exact hs i kv ys H B7 p a _ (Same.new hn) hn Zi
 ·have e:i=kvs.length:=by lia
  subst e;exact .inl ⟨⟨q,Nat.le_refl _⟩,hd ys H p⟩
theorem Zph{K:Frag}{t c:Value}{b:Bool}(h:kitOne K t c=some b)(n:(t ==c)=false):PySem.W.kitCls K t c=some b:=by
 unfold kitOne at h;rw [if_neg (by rw [n];exact Bool.false_ne_true)] at h;exact h
end L2
end
section
namespace L2
open PySem
end L2
end
section
namespace L2
open PySem PySem.Spec PyProof.Rows
section
variable {prog:Program} {w:World} {KT:Type} [DecidableEq KT] {knd:KeyKind prog w KT} {A:Around} {l d:Addr} {tps:List Addr} {prs D0:List (KT×Value)} {s:Shared} {Q:Value->Shared->Prop} {E:Value->Shared->Prop} {n:Nat}
end
section
variable {X:Cx} {o e:Expr} {i5 g9:Pos} {td ty:TE}
end
end L2
namespace L2
open PySem PySem.Spec PyProof.Rows
abbrev Fz(o:Obj):HO:=.frz o (.frz o (.own 0))
def Clo(H:Hp)(Pt fl:Addr)(q:Str)(la:Arguments)(lb:Expr)(ls:Scope)(clos:List (Str×Addr)):Prop :=
 ∃(pm w6:Value) (c:Addr) (oc:Obj) (vs:Array Value) (tt:Nat) (Pn:Addr),H fl=some (Fz (PySem.W.kla_obj "<lambda>" q la lb ls clos pm c w6))/\H c=some (.frz oc (.own Pt))/\oc.data=.fields vs/\vs[1]? =some (.str q tt)/\H Pn=some (.tbl #[.none])/\Zk4 oc c Pn
theorem Clo.mono{H H':Hp}{Pt fl:Addr}{q:Str}{la:Arguments}{lb:Expr}{ls:Scope}{clos:List (Str×Addr)}(e:Same H H')(h:Clo H Pt fl q la lb ls clos):Clo H' Pt fl q la lb ls clos:=by
 obtain ⟨pm,w6,c,oc,vs,tt,Pn,h1,h2,h3,h4,h5,h6⟩:=h;exact ⟨pm,w6,c,oc,vs,tt,Pn,e _ _ h1,e _ _ h2,h3,h4,e _ _ h5,h6⟩
def Zm2(H:Hp)(c:Addr)(v:V):Prop:=∃o u,H c=some (Fz o)/\o.data=.cell (some u)/\Ye v u
theorem Zx6{h:Heap}{c Pn:Addr}{oc:Obj}(C:PySem.W.CodeHd h c Pn)(e:h.get? c=some oc):Pn≠c/\Zk4 oc c Pn:=by
 obtain ⟨o,vs,f1,f2,f3,f4,f5,f6,f7,z,r1,r2,r3,r4,r5,r6,r7,r8,ne⟩:=C;rw [e] at z;cases z;exact ⟨ne.symm,fun g z=>⟨_,vs,f1,f2,f3,f4,f5,f6,f7,z,r1,r2,r3,r4,r5,r6,r7,r8,ne⟩⟩
theorem Zyd{M:Model}{A:Around}{E:Value->Shared->Prop}{s:Shared}{nm ql:Str}{la:Arguments}{lb:Expr}{sc:Scope}{env:Env}{c Pt:Addr}{ps:Array Value}{pos:Pos}{fst:Nat}{mg:Str->Option Value}{clos:List (Str×Addr)}{Q:Value->Shared->Prop}(p7:closureFor sc env=pure clos)(hg0:env.globals=mainGlobals)(hg:s.heap.Ns mainGlobals mg)(hc:env.code=.ref c)(C:PySem.W.CodeHd s.heap c Pt)
  (hP:s.heap.get? Pt=some { cls:=.none,data:=.fields ps }) (ht:TriplesOk ps.toList) (hn:codeAmong pos ps.toList=none) (hgP:mainGlobals≠Pt) (hb:s.heap.BuiltinsAt mg Pt)
  (h:∀c' Pn w6 h' tk,Heap.ExtBut Pt s.heap h'->s.heap.objs.size<=c'->c'<h'.objs.size->s.heap.objs.size<=Pn->h'.CodeRec (.ref c') ql->PySem.W.CodeHd h' c' Pn->h'.get? Pn=some { cls:=.none,data:=.fields #[] }->h'.get? Pt=some { cls:=.none,data:=.fields (ps ++ #[rawInt pos.line,rawInt pos.col,.ref c']) } ->
   Q (.ref h'.objs.size) { s with heap:=h'.push (PySem.W.kla_obj nm ql la lb sc clos ((mg "__name__").getD .none) c' w6),toks:=tk }):wpAny M A (makeFunction nm ql la (.expr lb) sc env [] [] [] pos fst) Q E s:=by
 obtain ⟨bm,ob,b1,b2,_,b4,b5,b6,b7,b8⟩:=hb;rw [makeFunction_eq];simp only [List.zip_nil_right,List.filterMap_nil,List.isEmpty_nil,if_true,pure_bind];unfold makeTail;rw [p7,hg0];refine wpAny_bind (wpAny_pure ?_);have go:∀g:Heap,(∀b o,s.heap.get? b=some o->g.get? b=some o)->s.heap.objs.size<=g.objs.size->∀{R:Value->Shared->Prop},(∀c' h' tk,Heap.ExtBut Pt s.heap h'->s.heap.objs.size<=c'->h'.Ns mainGlobals mg->h'.get? bm=some ob->(∀w6,Q (.ref h'.objs.size) { s with heap:=h'.push (PySem.W.kla_obj nm ql la lb sc clos ((mg "__name__").getD .none) c' w6),toks:=tk })->R (.ref c') { s with heap:=h',toks:=tk })->wpAny M A (functionCode env pos fst nm ql la sc (.expr lb)) R E { s with heap:=g }:=fun g kp sz R r=>by
  have CG:=C.keeps kp;refine wpAny_functionCodeX hc (CG.code (kp _ _ hP) ht) (CG.tab (kp _ _ hP)) hn fun c' h' tk x1 x2 x3 _ x4 x5 x6=>?_
  obtain ⟨Pn,y1,y2,y3⟩:=x6;have xs:Heap.ExtBut Pt s.heap h':=fun b o n e=>x1 b o n (kp b o e)
  have nC:=PySem.W.CodeHd.of y2 y3;exact r c' h' tk xs (Nat.le_trans sz x2) (hg.extBut xs hgP) (xs _ _ b4 b5) fun w6=>(h c' Pn w6 h' tk xs (Nat.le_trans sz x2) x3 (Nat.le_trans sz y1) x4 nC y3.2 x5.2)
 cases clos with
 | nil =>
  simp only [List.isEmpty_nil,if_true];refine wpAny_bind (wpAny_pure (wpAny_bind (go s.heap (fun _ _ e=>e) (Nat.le_refl _) fun c' h' tk _ _ g1 g2 q=>?_)));exact wpAny_bind (wpAny_builtinsFor g1 b1 b2 g2 b6 b7 b8 (wpAny_bind (wpAny_nsGet g1 (wpAny_bind (wpAny_pure (wpAny_newObj_type (q _) (by size_fits)))))))
 | cons p r =>
  simp only [List.isEmpty_cons,Bool.false_eq_true,if_false];refine wpAny_bind (wpAny_newTextTuple (wpAny_bind (go _ (fun b o e=>Heap.get?_push_of_some _ e) (by rw [Heap.size_push];lia) fun c' h' tk _ _ g1 g2 q=>?_)));exact wpAny_bind (wpAny_builtinsFor g1 b1 b2 g2 b6 b7 b8 (wpAny_bind (wpAny_nsGet g1 (wpAny_bind (wpAny_pure (wpAny_newObj_type (q _) (by size_fits)))))))
theorem Zxt{l:List (Nat×Nat×Str)}{a b:Nat}{q r:Str}(nd:(l.map fun p=>(p.1,p.2.1)).Nodup)(h1:(a,b,q)∈l)(h2:(a,b,r)∈l):q=r:=by
 induction l with
 | nil=>cases h1
 | cons p l ih =>
  rw [List.map_cons,List.nodup_cons] at nd;rcases List.mem_cons.mp h1 with z1|z1 <;>rcases List.mem_cons.mp h2 with z2|z2
  ·have:=z1.trans z2.symm;simpa using this
  ·exact absurd (List.mem_map.mpr ⟨_,z2,by rw [<-z1]⟩) nd.1
  ·exact absurd (List.mem_map.mpr ⟨_,z1,by rw [<-z2]⟩) nd.1
  ·exact ih nd.2 z1 z2
section
variable {X:Cx} {a7:List (Addr×Obj)} {σ:St} {H:Hp} {s:Shared} {Q:Value->Shared->Prop} {la:Arguments} {lb:Expr} {ls:Scope} {lp:Pos} {c Pt:Addr} {clos:List (Str×Addr)}
theorem Zs7{U8:List (Nat×Nat×Str)}(I:Inv X a7 σ H s)(O8:defaultsOf la X.env=([],[]))(A1:X.env.code=.ref c)(C:PySem.W.CodeHd X.base c Pt)(hH:H Pt=some (.tbl (Xl U8))) (hmem:(lp.line,lp.col,X.env.qual ++ "<lambda>")∈U8) (p7:closureFor ls X.env=pure clos)
  (h:∀fl H' s',Inv X a7 σ H' s'->Same H H'->H fl=none->Clo H' Pt fl (X.env.qual ++ "<lambda>") la lb ls clos->Q (.ref fl) s'):wpAny (model X.prog X.w) X.A (eval (.Lambda la lb ls lp) X.env) Q X.xe s:=by
 refine PySem.W.kla_eval O8 ?_;obtain ⟨qs,hT,e | ⟨ls',fs,e1,nd,rfl,hfs⟩⟩:=(show Yf X.prog X.w H s.heap Pt (.tbl (Xl U8)) from I.hok Pt _ hH)
 ·exact absurd e.1 Zpl
 have e1:=Zs2 e1;subst e1;have hg:s.heap.Ns mainGlobals X.mg:=I.mod.glob.keeps I.bk;have CH:PySem.W.CodeHd s.heap c Pt:=C.keeps I.bk;have nP:∀b,H b=none->b≠Pt:=fun b n z=>by rw [z,hH] at n;cases n
 have hB:s.heap.BuiltinsAt X.mg Pt:=by
  obtain ⟨bm,ob,b1,b2,b3,b4,b5,b6⟩:=I.mod.bm;obtain ⟨b3',hn⟩:=I.bs _ _ b3;refine ⟨bm,ob,b1,b2,fun z=>?_,nP bm hn,b3',b4,b5,b6⟩;obtain ⟨o,es,ep,e,d,_⟩:=hg;rw [<-z,b3'] at e;cases e;rw [b6] at d;cases d
 have hgP:mainGlobals≠Pt:=by
  obtain ⟨o,es,ep,e,d,_⟩:=I.mod.glob;exact nP _ (I.bs _ _ e).2
 cases hca:codeAmong lp (Zbe fs).toList with
 | none =>
  refine Zyd (ps:=Zbe fs) p7 I.ok.glob hg A1 CH hT (Zdq fs) hca hgP hB fun c' Pn w6 h' tk hx hge d5 T9 hrec A9 J6 P5=>?_
  obtain ⟨c2,oc,vs,tt,e,hoc,hd,hv⟩:=hrec;cases e;generalize w9:PySem.W.kla_obj "<lambda>" (X.env.qual ++ "<lambda>") la lb ls clos ((X.mg "__name__").getD .none) c' w6=ob;have u9:ob.isFreed=false:=by rw [<-w9];rfl
  have Q0:H h'.objs.size=none:=I.hok.fresh (Nat.le_trans hge (Nat.le_of_lt d5));have hcn:H c'=none:=I.hok.fresh hge;have hpN:H Pn=none:=I.hok.fresh T9;have ncf:c'≠h'.objs.size:=Nat.ne_of_lt d5;have npf:Pn≠h'.objs.size:=Nat.ne_of_lt (Heap.lt_size J6);obtain ⟨npc,hco⟩:=Zx6 A9 hoc;have u5:∀b o,s.heap.get? b=some o->b≠Pn/\b≠c'/\b≠h'.objs.size:=fun b o e=>by
   have:=Heap.lt_size e;exact ⟨Nat.ne_of_lt (Nat.lt_of_lt_of_le this T9),Nat.ne_of_lt (Nat.lt_of_lt_of_le this hge),Nat.ne_of_lt (Nat.lt_trans (Nat.lt_of_lt_of_le this hge) d5)⟩
  have kp:∀b o,b≠Pt->s.heap.get? b=some o->(h'.push ob).get? b=some o:=fun b o n e=>Heap.get?_push_of_some _ (hx b o n e)
  have tr:∀b o,H b=some o->b≠Pn/\b≠c'/\b≠h'.objs.size:=fun b o e=>⟨Zg e hpN,Zg e hcn,Zg e Q0⟩
  have y7:∀{b:Addr},(b≠Pn/\b≠c'/\b≠h'.objs.size)->upd (upd (upd H Pn (.tbl #[.none])) c' (.frz oc (.own Pt))) h'.objs.size (Fz ob) b=H b:=fun n=>by rw [Zd n.2.2,Zd n.2.1,Zd n.1]
  have aC:upd (upd (upd H Pn (.tbl #[.none])) c' (.frz oc (.own Pt))) h'.objs.size (Fz ob) c'=some (.frz oc (.own Pt)):=by rw [Zd ncf,Zi]
  have aP:upd (upd (upd H Pn (.tbl #[.none])) c' (.frz oc (.own Pt))) h'.objs.size (Fz ob) Pn=some (.tbl #[.none]):=by rw [Zd npf,Zd npc,Zi]
  refine h h'.objs.size (upd (upd (upd H Pn (.tbl #[.none])) c' (.frz oc (.own Pt))) h'.objs.size (Fz ob)) _ (I.step (g':=s.gens) (d':=s.drawn) (ch:=[]) (fun _ z=>nomatch z) (fun b o _ _ _ e n=>kp b o (nP b n) e) (fun b o _ _ _ e n=>⟨o.slots,kp b o (nP b n) e⟩) (fun b o _ e n=>by rw [y7 (u5 b o e)];exact n) (fun b o _ e=>?_)
   (fun b xs e=>by rw [y7 (tr _ _ e)];exact e) (fun b o u e=>by rw [y7 (tr _ _ e)];exact e) (fun b ps e=>⟨#[],by rw [y7 (tr _ _ e),e];simp⟩) (fun m hm=>?_) (fun b u e=>?_) I.bare)
   (fun b o e=>by rw [y7 (tr _ _ e)];exact e) Q0 ⟨_,w6,c',oc,vs,tt,Pn,by rw [Zi,w9],aC,hd,hv,aP,hco⟩
  ·by_cases hb:b=Pt
   ·exact ⟨_,by rw [hb];exact Heap.get?_push_of_some _ P5⟩
   ·exact ⟨o,kp b o hb e⟩
  ·obtain ⟨o,es,ep,e,r⟩:=hm;exact ⟨o,es,ep,kp _ o (nP _ I.free) e,r⟩
  ·by_cases h1:b=h'.objs.size
   ·subst h1;rw [Zi] at e;cases e;have:=Heap.get?_push_size h' u9;exact ⟨this,this,_,this⟩
   by_cases h2:b=c'
   ·subst h2;rw [aC] at e;cases e;exact ⟨Heap.get?_push_of_some _ hoc,_,Heap.get?_push_of_some _ hoc⟩
   by_cases h0:b=Pn
   ·subst h0;rw [aP] at e;cases e;exact ⟨#[],Heap.get?_push_of_some _ J6,.inl ⟨rfl,trivial⟩⟩
   rw [y7 ⟨h0,h2,h1⟩] at e
   by_cases h3:b=Pt
   ·subst h3;rw [hH] at e;cases e;refine ⟨_,Heap.get?_push_of_some _ P5,.inr ⟨U8,fs++[(lp.line,lp.col,X.env.qual ++ "<lambda>",c')],rfl,nd,by rw [Zqm],fun f hf=>?_⟩⟩;rcases List.mem_append.mp hf with z|z
    ·obtain ⟨z1,oc1,vs1,tt1,P1,f1,f2,f3,f4,f5⟩:=hfs f z;exact ⟨z1,oc1,vs1,tt1,P1,by rw [y7 (tr _ _ f1)];exact f1,f2,f3,by rw [y7 (tr _ _ f4)];exact f4,f5⟩
    ·rw [List.mem_singleton.mp z];exact ⟨hmem,oc,vs,tt,Pn,aC,hd,hv,aP,hco⟩
   ·refine (I.hok b u e).stay (fun d v hd q=>kp d v ?_ q) (fun d q=>by rw [y7 (tr _ _ q)];exact q) (fun d xs q=>by rw [y7 (tr _ _ q)];exact q) (fun d o q=>by rw [y7 (tr _ _ q)];exact q) (fun d o q=>by rw [y7 (tr _ _ q)];exact q);rcases hd with z|z
    ·rw [z];exact h3
    ·exact fun y=>by rw [y,hH] at z;cases z
 | some cv =>
  obtain ⟨f,hf,rfl,hl,hc⟩:=Zjf hca;obtain ⟨z1,oc,vs,tt,Pn,f1,f2,f3,f4,f5⟩:=hfs f hf;obtain ⟨fl,fc,fq,c'⟩:=f;have hl:fl=lp.line:=hl;have hc:fc=lp.col:=hc;subst hl hc;have eq:fq=X.env.qual ++ "<lambda>" :=Zxt nd z1 hmem;subst eq;refine PySem.W.kla_makeFunctionHit (ps:=Zbe fs) (cv:=.ref c') p7 I.ok.glob hg A1 CH hT (Zdq fs) hca hB fun w6 h' tk hk hsz=>?_
  ·have Q0:H h'.objs.size=none:=I.hok.fresh hsz;have:=Heap.get?_push_size h' (o:=PySem.W.kla_obj "<lambda>" (X.env.qual ++ "<lambda>") la lb ls clos ((X.mg "__name__").getD .none) c' w6) rfl;exact h _ _ _ (I.laid (a:=h'.objs.size) (o:=Fz (PySem.W.kla_obj "<lambda>" (X.env.qual ++ "<lambda>") la lb ls clos ((X.mg "__name__").getD .none) c' w6)) (t':=tk) (fun b u e=>Heap.get?_push_of_some _ (hk b u e)) hsz ⟨this,this,_,this⟩) (Same.new Q0) Q0
    ⟨_,w6,c',oc,vs,tt,Pn,Zi,by rw [Zd (Zg f1 Q0)];exact f1,f2,f3,by rw [Zd (Zg f4 Q0)];exact f4,f5⟩
end
open Classical in
noncomputable def Zhv (cells:List (Str×Addr)) (H:Hp) (h:Heap):Hp:=fun b=>if ∃x,cells.lookup x=some b then (h.get? b).map Fz else H b
section
variable {X:Cx} {a7:List (Addr×Obj)} {σ:St} {H:Hp} {s:Shared} {Q:VK}
theorem Zao(I:Inv X a7 σ H s){b:Addr}{o:HO}(e:H b=some o):Zhv X.env.cells H s.heap b=some o:=by
 unfold Zhv;rw [if_neg]
 ·exact e
 ·rintro ⟨x,z⟩;rw [I.freeC x b z] at e;cases e
theorem Zet{b:Addr}(n:∀x,X.env.cells.lookup x≠some b):Zhv X.env.cells H s.heap b=H b:=by
 unfold Zhv;rw [if_neg];rintro ⟨x,z⟩;exact n x z
theorem Zrj(I:Inv X a7 σ H s){i:Nat}{x:Str}{v:V}{c:Addr}(hi:X.N[i]? =some x)(hs:σ[i]? =some (some v))(hk:X.env.scope.names.lookup x=some .cell)(hc:X.env.cells.lookup x=some c):H c=none/\Zm2 (Zhv X.env.cells H s.heap) c v:=by
 obtain ⟨m,hn,hl⟩:=I.loc;obtain ⟨u,r,l⟩:=hl i x v hi hs (.inr (.inl hk));refine ⟨I.freeC x c hc,?_⟩;rcases l with ⟨k,_⟩|⟨_,c',Q7,o,ho,hd⟩
 ·have k:X.env.scope.names.lookup x=some .local:=k;rw [hk] at k;cases k
 ·rw [hc] at Q7;cases Q7;refine ⟨o,u,?_,hd,r⟩;unfold Zhv;rw [if_pos ⟨x,hc⟩,ho]
  rfl
end
def Zua(K:Frag)(fd:FuncData)(Pt:Addr):Prop:=∃c,fd.code=.ref c/\PySem.W.codeHdIn K c Pt=true
section
variable {P:Program} {w:World} {K:Frag} {mg:Str->Option Value} {base:Heap}
end
def FnO(H:Hp)(f:Addr):Prop:=∃oc od fd sl u,H f=some (.frz ⟨oc,od,.func fd,sl⟩ u)
theorem FnO.at{X:Cx}{a7:List (Addr×Obj)}{σ:St}{H:Hp}{s:Shared}{f:Addr}(I:Inv X a7 σ H s)(h:FnO H f):PySem.W.FnAt f s.heap:=by
 obtain ⟨oc,od,fd,sl,u,e⟩:=h;exact ⟨oc,od,fd,sl,(I.hok f _ e).1⟩
theorem Clo.fn{H:Hp}{Pt fl:Addr}{q:Str}{la:Arguments}{lb:Expr}{ls:Scope}{clos:List (Str×Addr)}(h:Clo H Pt fl q la lb ls clos):FnO H fl:=by
 obtain ⟨pm,w6,c,oc,vs,tt,_,h1,_⟩:=h;exact ⟨_,_,_,_,_,h1⟩
def Zym(P:Program)(w:World)(K:Frag)(mg:Str->Option Value)(base:Heap)(N:List Str)(q:Str)(scope:Scope)(f:Addr)(cd:Value)(cells:List (Str×Addr))(A:Around)(outer:List Env)(s:Shared)(H:Hp):Cx where
 prog:=P
 w:=w
 K:=K
 mg:=mg
 base:=base
 A:=A.deeper (PySem.W.envX q scope s.heap.objs.size f cd cells)
 N:=N
 s₀:=s
 H₀:=H
 env:=PySem.W.envX q scope s.heap.objs.size f cd cells
 outer:=outer
 stack:=PySem.W.envX q scope s.heap.objs.size f cd cells ::outer
 ex:=[]
 calm:=true
 fn:=fun _=>false
 pn:=[]
 xe:=fun _ _=>False
def offL(H:Hp)(cells:List (Str×Addr)):Hp:=fun b=>if b∈cells.map Prod.snd then none else H b
theorem Zby{H:Hp}{cells:List (Str×Addr)}{b:Addr}(h:b∉cells.map Prod.snd):offL H cells b=H b:=if_neg h
theorem Zf8{H:Hp}{cells:List (Str×Addr)}{b:Addr}(h:b∈cells.map Prod.snd):offL H cells b=none:=if_pos h
theorem Zkr:∀{l:List (Str×Addr)} {x y:Str} {a:Addr},(l.map Prod.snd).Nodup->(x,a)∈l->(y,a)∈l->x=y
 | [],_,_,_,_,h,_=>by cases h
 | p ::r,x,y,a,nd,h1,h2=>by
  have nd:(p.2 ::r.map Prod.snd).Nodup:=nd;obtain ⟨n1,n2⟩:=List.nodup_cons.mp nd;rcases List.mem_cons.mp h1 with e1|e1
  ·rcases List.mem_cons.mp h2 with e2|e2
   ·rw [<-e1] at e2;cases e2;rfl
   ·exact absurd (List.mem_map.mpr ⟨_,e2,by rw [<-e1]⟩) n1
  ·rcases List.mem_cons.mp h2 with e2|e2
   ·exact absurd (List.mem_map.mpr ⟨_,e1,by rw [<-e2]⟩) n1
   ·exact Zkr n2 e1 e2
def Yar:HO->Prop
 | .frz _ _=>False
 | _=>True
structure Lit(H:Hp)(ls:Scope)(clos:List (Str×Addr))(fs:List Str)(fvs:List V):Prop where
 cells:Paired (fun x v=>ls.names.lookup x=some .free/\∃c,clos.lookup x=some c/\Zm2 H c v) fs fvs
 all:∀p∈clos,p.1∈fs
 one:(clos.map Prod.fst).Nodup
 apart:(clos.map Prod.snd).Nodup
theorem Zce{β:Type}:∀{l:List (Str×β)} {p:Str×β},(l.map Prod.fst).Nodup->p∈l->l.lookup p.1=some p.2
 | [],_,_,h=>by cases h
 | q ::r,p,nd,h=>by
  have nd:(q.1 ::r.map Prod.fst).Nodup:=nd;obtain ⟨n1,n2⟩:=List.nodup_cons.mp nd;rw [List.lookup_cons];rcases List.mem_cons.mp h with e|e
  ·rw [e,beq_self_eq_true]
  ·have:(p.1 ==q.1)=false:=by rw [beq_eq_false_iff_ne];exact fun z=>n1 (List.mem_map.mpr ⟨p,e,z⟩)
   rw [this];exact Zce n2 e
theorem Lit.cell{H:Hp}{ls:Scope}{clos:List (Str×Addr)}{fs:List Str}{fvs:List V}(L:Lit H ls clos fs fvs){p:Str×Addr}(hp:p∈clos):∃v,Zm2 H p.2 v:=by
 obtain ⟨i,hi,e⟩:=List.getElem_of_mem (L.all p hp);obtain ⟨v,_,_,c,h1,h2⟩:=Paired.get L.cells (i:=i) (a:=p.1) (by rw [List.getElem?_eq_getElem hi,e]);rw [Zce L.one hp] at h1;cases h1;exact ⟨v,h2⟩
theorem Lit.soft{H:Hp}{ls:Scope}{clos:List (Str×Addr)}{fs:List Str}{fvs:List V}(L:Lit H ls clos fs fvs){b:Addr}{o:HO}(h:H b=some o)(n:Yar o):offL H clos b=some o:=by
 rw [Zby]
 ·exact h
 ·intro z;obtain ⟨p,hp,e⟩:=List.mem_map.mp z;obtain ⟨v,ob,u,h1,_⟩:=L.cell hp;rw [e,h] at h1;cases h1;exact n
theorem Zrf{H:Hp}{cells:List (Str×Addr)}:Same (offL H cells) H:=fun b o e=>by
 by_cases z:b∈cells.map Prod.snd
 ·rw [Zf8 z] at e;cases e
 ·rw [Zby z] at e;exact e
open Classical in
noncomputable def Zgo (H H':Hp) (cells:List (Str×Addr)):Hp:=fun b=>if b∈cells.map Prod.snd then H b else H' b
section
variable {P:Program} {w:World} {K:Frag} {mg:Str->Option Value} {base:Heap}
end
end L2
namespace L2
open PySem PySem.Spec PyProof.Rows
structure Zi1(K:Frag)(h:Heap)(tabs:List (Addr×Array Value)):Prop where
 cod:∀p∈tabs,∃c,PySem.W.codeHdIn K c p.1=true
 emp:∀p∈tabs,h.get? p.1=some (PySem.W.tabObj #[])
 shape:∀p∈tabs,∃ls,p.2=Xl ls/\(ls.map fun p=>(p.1,p.2.1)).Nodup
 nd:(tabs.map Prod.fst).Nodup
 nt:PySem.W.noTabs K=true
def Zjy(K:Frag)(tabs:List (Addr×Array Value)):Sp:=fun vs H Q _=>∃(a:Addr) (ns:List Int),vs=[.ref a]/\SqL K H a (ns.map V.int)/\ns.length<=63/\(∀p∈tabs,H p.1=some (.tbl p.2))/\∀H',Q (.bl true) H'
theorem Zec{β:Type}:∀{l:List (Addr×β)} {p:Addr×β},(l.map Prod.fst).Nodup->p∈l->l.lookup p.1=some p.2
 | [],_,_,h=>by cases h
 | q ::r,p,nd,h=>by
  have nd:(q.1 ::r.map Prod.fst).Nodup:=nd;obtain ⟨n1,n2⟩:=List.nodup_cons.mp nd;rw [List.lookup_cons];rcases List.mem_cons.mp h with e|e
  ·rw [e,beq_self_eq_true]
  ·have:(p.1 ==q.1)=false:=by rw [beq_eq_false_iff_ne];exact fun z=>n1 (List.mem_map.mpr ⟨p,e,z⟩)
   rw [this];exact Zec n2 e
theorem Zbz{β:Type}:∀{l:List (Addr×β)} {a:Addr} {v:β},l.lookup a=some v->(a,v)∈l
 | [],_,_,e=>by cases e
 | (b,x) ::r,a,v,e=>by
  rw [List.lookup_cons] at e;cases hb:a ==b with
  | true=>rw [hb] at e;cases e;rw [eq_of_beq hb];exact .head _
  | false=>rw [hb] at e;exact .tail _ (Zbz e)
end L2
end
section
namespace L2
open PySem PySem.Spec PyProof.Rows
section
variable {X:Cx} {a7:List (Addr×Obj)} {σ:St} {H:Hp} {s:Shared}
end
end L2
end
section
namespace L2
open PySem PySem.Spec PyProof.Rows
end L2
end
section
namespace L2
open PySem PySem.Spec PyProof.Rows
section
variable {X:Cx} {σ:St} {H:Hp}
end
def Znb(K:Frag):List V->Hp->VK->Prop:=fun xs H Q=>∃e C c b,xs=[.ref e,c]/\H e=some (Zg2 e C none)/\XG K C/\((∃n,c=.ty n/\kitOne K (.ref C) (.type n)=some b)\/(∃a,c=.ref a/\kitOne K (.ref C) (.ref a)=some b))/\Q (.bl b) H
theorem Zex{X:Cx}:Xe X (.builtin "isinstance") (Znb X.K):=by
 intro a7 s σ H xs us Q I r h;obtain ⟨e,C,c,b,rfl,he,g,k,q⟩:=h;obtain ⟨u,w',rfl,rx,A8⟩:=Zk6 r;obtain rfl:u=Value.ref e:=rx;obtain ⟨o,vs,ho,oc,od,odt⟩:=Zg2.at I.hok he;have J:PySem.W.InstAt s.heap e o C none:=⟨ho,oc,by unfold PySem.W.notCls;rw [odt],by rw [od];trivial⟩
 have Z:PySem.W.KitX X.K (.ref e) (.ref C) (fun h=>PySem.W.InstAt h e o C none):=Zs3 g.xa g.hc g.cl g.cg g.ct g.ob;rcases k with ⟨n',rfl,k⟩|⟨a,rfl,k⟩
 ·cases A8;exact PySem.W.kia_one Z I.kIn J k (fun z=>nomatch z) fun tk=>⟨.bl b,H,I.tok tk,rfl,q⟩
 ·cases A8;exact PySem.W.kia_one Z I.kIn J k (fun z=>nomatch z) fun tk=>⟨.bl b,H,I.tok tk,rfl,q⟩
def Zub:V->List V->Hp->VK->Prop:=fun x vs H Q=>∃(l:Addr) (bs:List Bool) (b:Bool),x=.ref l/\vs=[.bl b]/\H l=some (.lst (bs.map V.bl))/\Q (.int (bs.countP (fun c=>c ==b):Nat)) H
theorem Zo4:∀{bs:List Bool} {us:List Value},Z5 (bs.map V.bl) us->us=bs.map Value.bool
 | [],_,.nil=>rfl
 | b ::bs,_,.cons r t=>by
  rw [Zo4 t];cases r
  rfl
def isB(b:Bool):Value->Bool
 | .bool c=>c ==b
 | _=>false
theorem Zq8{X:Cx}:MtR X "list.count" Zub:=by
 intro a7 s σ H x vs v us Q I rx rv h;obtain ⟨l,bs,b,rfl,rfl,hH,q⟩:=h;cases rx;obtain ⟨u,rfl,ru⟩:=rv.one;cases ru;obtain ⟨z,a8,n,r,hl,e⟩:=I.lstM hH;obtain rfl:=Zo4 r;refine call_meets F.slot_list_count ⟨_,e,rfl⟩ F.entry_list_count (F.args_list_count_2 _ _) (SeqAt.list_countAt l _ n _ _ (.bool b) (isB b)) ⟨e,fun y hy=>?_,?_⟩
 ·have hy:y∈bs.map Value.bool:=by simpa using hy
  obtain ⟨c,_,rfl⟩:=List.mem_map.mp hy;exact SeqAt.EqAt.bool_bool c b
 ·refine ⟨.int _,H,I.tok _,⟨_,rfl⟩,?_⟩;have:List.countP (isB b) (bs.map Value.bool).toArray.toList=bs.countP (fun c=>c ==b):=by
   rw [List.toList_toArray,List.countP_map]
   rfl
  rw [this];exact q
theorem Zjw{X:Cx}{x v:Str}{pos:Pos}(hg:Gl X x)(h:∃tk,X.mg x=some (.str v tk)) (hd:(x ==("__debug__" :Str))=false:=by decide):PE X (.Name x pos) (tC (.str v)):=by
 obtain ⟨tk,h⟩:=h;exact Zbr hg h ⟨tk,rfl⟩ hd
theorem Zc2:∀{p:Str} {l:List Str},risingS p l=true->(p ::l).Pairwise (fun a b=>ltCps b.cps.toList a.cps.toList=false)
 | p,[],_=>by simp
 | p,x ::r,h=>by
  rw [show risingS p (x ::r)=(!ltCps x.cps.toList p.cps.toList && risingS x r) from rfl,Bool.and_eq_true,Bool.not_eq_true'] at h;have ih:=Zc2 h.2;refine List.pairwise_cons.mpr ⟨fun b hb=>?_,ih⟩;rcases List.mem_cons.mp hb with z|z
  ·rw [z];exact h.1
  ·have h2:=List.rel_of_pairwise_cons ih z;have h1:=h.1;rw [ltCps_eq,decide_eq_false_iff_not] at h1 h2 ⊢;exact List.not_lt.mpr (List.le_trans (List.not_lt.mp h1) (List.not_lt.mp h2))
theorem Zpb{l l':List Str}(h:sortedS l=true)(h':sortedS l'=true)(p:l.Perm l'):l=l':=by
 have pw:∀{l:List Str},sortedS l=true->l.Pairwise (fun a b=>ltCps b.cps.toList a.cps.toList=false):=fun {l} h=>by
  cases l with
  | nil=>exact .nil
  | cons x r=>exact Zc2 h
 refine p.eq_of_pairwise (fun a b _ _ h1 h2=>?_) (pw h) (pw h');rw [ltCps_eq,decide_eq_false_iff_not] at h1 h2;have e:=List.le_antisymm (List.not_lt.mp h1) (List.not_lt.mp h2);cases a;cases b;simpa using Array.toList_inj.mp e
end L2
end
section
namespace L2
open PySem PyProof.Rows
theorem Zkv{P:Program}{w:World}{A:Around}{E:Value->Shared->Prop}{it l:Addr}{a8:Array Value}(hh:A.handled=none)(u4:l≠it):∀(n i:Nat) (s:Shared) (Q:List Value->Shared->Prop),(s.heap.IsListIter it l i/\s.heap.IsList l a8)->i+n<=a8.size ->
  (∀h' tk,(h'.IsListIter it l (i+n)/\h'.IsList l a8)->(∀b o,b∉[it]->s.heap.get? b=some o->h'.get? b=some o)->Q ((a8.toList.drop i).take n) { s with heap:=h',toks:=tk })->wpAny (model P w) A (draw (.ref it) n) Q E s
 | 0,i,s,Q,A6,_,hQ=>by
  show wpAny _ _ (pure []) Q E s;exact wpAny_pure (by simpa using hQ s.heap s.toks A6 fun _ _ _ e=>e)
 | n+1,i,s,Q,A6,B9,hQ=>by
  have d5:i<a8.size:=by lia
  show wpAny _ _ (pyNext (.ref it) >>=_) Q E s;refine wpAny_bind ((Walks.list (prog:=P) (w:=w) hh it l u4 a8).item i s _ _ d5 A6 fun v h1 tk1 hv R0 hk1=>?_);refine wpAny_bind (wpAny_holding (Zkv hh u4 n (i+1) _ _ R0 (by lia) fun h2 tk2 hst2 hk2=>wpAny_pure ?_));have hd:a8.toList.drop i=a8[i] ::a8.toList.drop (i+1):=by simp [List.drop_eq_getElem_cons,d5]
  have ev:v=a8[i]:=by rw [Array.getElem?_eq_getElem d5] at hv;exact (Option.some.inj hv).symm
  have:=hQ h2 tk2 (by rw [show i+(n+1)=i+1+n by lia];exact hst2) fun b o hb e=>hk2 b o hb (hk1 b o hb e)
  rw [hd,List.take_succ_cons,<-ev] at this;exact this
theorem Znl{P:Program}{w:World}{A:Around}{E:Value->Shared->Prop}{s:Shared}{l:Addr}{a8:Array Value}{y9:List (Bool×(Value->Sem Unit))}{Q:Unit->Shared->Prop}(hh:A.handled=none)(hl:s.heap.IsList l a8)
  (hn:y9.length=a8.size) (hstar:y9.findIdx? (·.1)=none)
  (h:∀h' tk,(∀b o,s.heap.get? b=some o->h'.get? b=some o)->wpAny (model P w) A (assignInOrder (y9.map (·.2)) a8.toList) Q E { s with heap:=h',toks:=tk }) :
  wpAny (model P w) A (unpack (.ref l) y9) Q E s:=by
 have d5:l<s.heap.objs.size:=by obtain ⟨o,ho,_⟩:=hl;exact Heap.lt_size ho
 have ty:s.TypeIs (.ref l) "list" :=by obtain ⟨o,ho,hc,_⟩:=hl;exact ⟨o,ho,hc⟩
 unfold unpack;rw [hn,hstar];refine wpAny_bind (wpAny_holding ?_);unfold unpackItems;refine wpAny_bind ?_;unfold notIterableAtAll;refine wpAny_bind (wpAny_specialOf ty F.slot_list_iter.lookup ?_);refine wpAny_pure ?_;simp only [Bool.false_eq_true,if_false];refine wpAny_bind (wpAny_holding (wpAny_pyIter_list hl ?_));have u4:l≠s.heap.objs.size:=Nat.ne_of_lt d5;refine wpAny_bind (wpAny_holding (Zkv hh u4 a8.size 0 _ _ ⟨⟨_,Heap.get?_push_size _ rfl,rfl,rfl⟩,hl.push _⟩ (by lia) fun h1 tk1 R0 hk1=>?_));have x0:List.take a8.size (List.drop 0 a8.toList)=a8.toList:=by
  rw [List.drop_zero];exact List.take_of_length_le (by simp)
 rw [x0];rw [if_neg (by simp)];rw [Nat.zero_add] at R0;refine wpAny_bind (wpAny_holding ((Walks.list (prog:=P) (w:=w) hh s.heap.objs.size l u4 a8).done _ _ _ R0 fun h2 tk2 hk2=>?_));simp only [Option.isSome_none,Bool.false_eq_true,if_false];refine wpAny_pure (h h2 tk2 fun b o e=>?_);have hb:b∉[s.heap.objs.size]:=fun z=>by
  have z':b=s.heap.objs.size:=by simpa using z
  rw [z'] at e;exact Nat.lt_irrefl _ (Heap.lt_size e)
 exact hk2 b o hb (hk1 b o hb (Heap.get?_push_of_some _ e))
def Yav(K:Frag)(n:Nat)(t:TGs):TG:=fun v σ H Q=>∃a xs,v=.ref a/\SqL K H a xs/\xs.length=n/\t xs σ H Q
theorem Zxs{X:Cx}{pos:Pos}{es:List Expr}{k:Nat}{t:TGs}{n:Nat}(hc:X.calm=true)(h:PGs X es t)
  (hn:(assignEach es X.env).length=n:=by rfl) (A6:(assignEach es X.env).findIdx? (·.1)=none:=by rfl):PG X (.Tuple es k pos) (Yav X.K n t):=by
 intro a7 s σ H v u Q I r hw;obtain ⟨a,xs,e1,hq,hl,hw⟩:=hw;subst e1;cases r;obtain ⟨a8,rv,ht,hz⟩:=I.list hq;rw [assign_Tuple];refine wpAny_bind (wpAny_standAt (Znl (I.ok.hd hc) ht.isList (by simp [hn,<-hl,rv.length]) A6 fun h' tk hx=>?_));have I1:Inv X a7 σ H { s with heap:=h',toks:=tk }:=I.kept (t':=tk) fun b o e=>hx b o e
 exact h a7 _ σ H xs _ Q I1 (by simpa using rv) hw
def Ztt(ns:List Int):Int:=ns.foldl (· + ·) 0
theorem Zhn(ns:List Int):∀j,preSum (fun i=>ns.getD i 0) j=Ztt (ns.take j)\/ns.length<j
 | 0=>.inl rfl
 | j+1=>by
  by_cases h:ns.length<j+1
  ·exact .inr h
  ·refine .inl ?_;rcases Zhn ns j with e|e
   ·have hj:j<ns.length:=by lia
    rw [preSum,e,List.take_add_one,List.getElem?_eq_getElem hj];unfold Ztt;rw [List.foldl_append,List.getD_eq_getElem?_getD,List.getElem?_eq_getElem hj]
    rfl
   ·lia
theorem Zty{X:Cx}(hc:X.calm=true):Xe X (.builtin "sum") (fun xs H Q=>∃(p:Addr) (ns:List Int),xs=[.ref p]/\SqL X.K H p (ns.map V.int)/\Q (.int (Ztt ns)) H):=by
 intro a7 s σ H xs us Q I r h;obtain ⟨p,ns,rfl,hq,q⟩:=h;obtain ⟨u,rfl,ru⟩:=Za0 r;cases ru;obtain ⟨a8,rv,pl,hz⟩:=I.list hq;have d5:p<s.heap.objs.size:=by obtain ⟨_,_,e,_⟩:=pl;exact Heap.lt_size e
 refine call_sum_walkG (wpAny_pyIter_list pl.isList ?_);refine ⟨s.heap.objs.size,_,_,a8.toArray.size,_,_,fun i=>ns.getD i 0,rfl,Walks.list (A:=X.A.in1) (show X.A.in1.handled=none from I.ok.hd hc) s.heap.objs.size p (Nat.ne_of_lt d5) a8.toArray,⟨⟨_,Heap.get?_push_size _ rfl,rfl,rfl⟩,pl.isList.push _⟩,?_,?_,fun h' tk t' k=>?_⟩
 ·intro b hb;have:=Heap.size_push s.heap { cls:=.type "list_iterator",data:=.fields #[.ref p,.int 0 0] };have S0:b=s.heap.objs.size\/b=p:=by simpa using hb
  show b<(s.heap.push _).objs.size;rw [this];rcases S0 with rfl|rfl
  ·exact Nat.lt_succ_self _
  ·exact Nat.lt_succ_of_lt d5
 ·intro i v hv;obtain ⟨x,hx,rx⟩:=Paired.get' rv (i:=i) (b:=v) (by simpa using hv);rw [List.getElem?_map] at hx;obtain ⟨n,hn,rfl⟩:=Option.map_eq_some_iff.mp hx;obtain ⟨t,rfl⟩:=rx;exact ⟨t,by show Value.int n t=Value.int (ns.getD i 0) t;rw [List.getD_eq_getElem?_getD,hn];rfl⟩
 ·have hl:=rv.length;rw [List.length_map] at hl;refine ⟨.int (Ztt ns),H,?_,?_,q⟩
  ·refine I.kept (t':=tk) fun b o e=>k b o ?_ (Heap.get?_push_of_some _ e)
   have:=Heap.lt_size e;intro z;have z':b=s.heap.objs.size:=by simpa using z
   rw [z'] at this;exact Nat.lt_irrefl _ this
  ·refine ⟨t',?_⟩;rw [List.size_toArray,<-hl];rcases Zhn ns ns.length with e|e
   ·rw [e,List.take_length]
   ·lia
def Zf5(x:Str)(n:Nat):Str:=⟨(List.replicate n x.cps).foldl (· ++ ·) #[]⟩
def Zzt:R2:=fun x y H Q=>∃(z:Str) (n:Nat),x=.str z/\y=.int n/\z.length * n<=1000/\n<=1000/\Q (.str (Zf5 z n)) H
theorem Zp1{X:Cx}:OpR X (binaryOp .Mult) Zzt:=by
 intro a7 s σ H x y v u Q I rx ry h;obtain ⟨z,n,rfl,rfl,hz,hn,q⟩:=h;obtain ⟨t,rfl⟩:=rx;obtain ⟨t',rfl⟩:=ry;refine PySem.P.mul_str ?_ ?_ ?_ ?_
 ·rw [decide_eq_false (by lia),decide_eq_false (by lia)];rfl
 ·intro h1 h2 h3;have:((2:Int) ^ 63-1) / (n:Int) ≥ 1000:=by
   rw [ge_iff_le,Int.le_ediv_iff_mul_le (by lia)];lia
  have hz1:z.length<=z.length * n:=Nat.le_mul_of_pos_right _ (by lia);lia
 ·intro h1 h2;show decide (z.length * (n:Int).toNat >sizeLine)=false;rw [decide_eq_false];have:=sz (n:=z.length * n) hz;rw [Int.toNat_natCast];lia
 ·by_cases h0:n=0
  ·subst h0;rw [if_pos (by decide)];exact ⟨by decide,.str (Zf5 z 0),H,I.kept fun b o e=>e,⟨_,rfl⟩,q⟩
  ·rw [if_neg (by lia)]
   by_cases h1:((n:Int) ==1 || z.length ==0)=true
   ·rw [if_pos h1];refine ⟨.str (Zf5 z n),H,I,⟨t,?_⟩,q⟩;have:Zf5 z n=z:=by
     rw [Bool.or_eq_true,beq_iff_eq,beq_iff_eq] at h1;rcases h1 with e|e
     ·have e:n=1:=by lia
      subst e;unfold Zf5;simp
     ·have e:z.cps=#[]:=Array.eq_empty_of_size_eq_zero e;have:∀m,(List.replicate m (#[]:Array Nat)).foldl (· ++ ·) #[]=#[]:=fun m=>by
       induction m with
       | zero=>rfl
       | succ m ih=>rw [List.replicate_succ,List.foldl_cons];simpa using ih
      unfold Zf5;rw [e,this n];cases z;simp at e;rw [e]
    rw [this]
   ·rw [if_neg h1,Int.toNat_natCast];refine ⟨?_,.str (Zf5 z n),H,I.kept fun b o e=>e,⟨_,rfl⟩,q⟩;exact fits_reps (by show decide (_ >sizeLine)=false;rw [decide_eq_false];have:=sz (n:=z.length * n) hz;lia)
def Zz7(K:Frag)(te:TE)(ts:TO):TE:=fun σ H Q=>te σ H fun x H1=>ts σ H1 fun k H2=>∃a xs,k=some (-1)/\x=.ref a/\SqL K H2 a xs/\New H2 (.lst xs.reverse) Q
theorem Z5.rev{xs:List V}{us:List Value}(h:Z5 xs us):Z5 xs.reverse us.reverse:=by
 induction h with
 | nil=>exact .nil
 | cons r _ ih=>rw [List.reverse_cons,List.reverse_cons];exact Paired.append ih (.cons r .nil)
theorem Zye{X:Cx}{e st:Expr}{te:TE}{ts:TO}{p2 pos:Pos}{ops:Value->Value->List Value}(he:PE X e te)(A6:PO X (some st) ts)(hs:∀l r,subscripted (.Slice none none (some st) p2) false l r=operate (ops l r) (getItem l r)):PE X (.Subscript e (.Slice none none (some st) p2) pos) (Zz7 X.K te ts):=by
 intro a7 s σ H Q I h;refine Subscript_ (thn (he a7 s σ H _ I h) fun v s1 ⟨x,H1,I1,r1,q1⟩=>?_);refine wpAny_Slice ?_;rw [evalPart_none];refine wpAny_pure ?_;refine wpAny_pure ?_;refine thn (A6 a7 s1 σ H1 _ I1 q1) fun vk s3 ⟨k,H3,I3,pk,a,xs,hk,hx,hq,q⟩=>?_
 subst hk hx;cases r1;have I4:Inv X a7 σ H3 { s3 with heap:=s3.heap.push { cls:=.type "slice",data:=.fields #[.none,.none,vk] } }:=I3.kept (t':=s3.toks) fun b ob q=>Heap.get?_push_of_some _ q
 obtain ⟨a8,r,ht,hz⟩:=I4.list hq;show wpAny (model X.prog X.w) X.A (subscriptTail e (.Slice none none (some st) p2) (.ref a) (.ref s3.heap.objs.size)) (EP X a7 σ Q) X.xe { s3 with heap:=s3.heap.push { cls:=.type "slice",data:=.fields #[.none,.none,vk] } };refine tail_any (ops:=ops (.ref a) (.ref s3.heap.objs.size)) ht.isList.typeIs slot_list_getitem.lookup ?_ (hs _ _);refine wpAny_getItem_list_slice ht.isList (Heap.IsSliceOf.new ..) .none .none pk (by simp) ?_ (by rw [List.size_toArray,<-r.length];exact hz);rw [PySem.W.krv_pick];refine ⟨.ref _,_,I4.laid (t':=s3.toks) (o:=.lst xs.reverse) (fun b ob q=>Heap.get?_push_of_some _ q) (Nat.le_refl _) ?_,rfl,q.at _ (I4.hok.fresh (Nat.le_refl _))⟩;exact ⟨by rw [List.length_reverse];exact hz,_,0,Z5.rev r,Heap.get?_push_size _ rfl⟩
end L2
end
section
namespace L2
open PySem PySem.Spec PyProof.Rows
structure DnD(K:Frag)(x qual:Str)(st:Stmt)(ps:List Str)(v:V) where
 f:Addr
 fd:FuncData
 dV:Value
 F:Zo3 K x qual st dV f fd
 b:Zak K fd ps []
 u:Value
 r:Ye v u
 b1:Zak K fd ps [u]
theorem Zo3.okW{P:Program}{w:World}{K:Frag}{mg:Str->Option Value}{base:Heap}{x qual:Str}{st:Stmt}{dV:Value}{f:Addr}{fd:FuncData}{N ps:List Str}{k:Nat}{sp:Sp}(F:Zo3 K x qual st dV f fd)(S:Zk N ps (Zh st))
  (m5:∀(a9:Value) (A:Around) (outer:List Env) (s:Shared) (H:Hp) (vs:List V) (Q:VK) (E:XK),Xj k (A.deeper (envOfC qual (Zh st) s.heap.objs.size f a9))->sp vs H Q E ->
   let X:=(Zd0 CX0 P w K mg base N qual (Zh st) f a9 A outer s H E).nox;WSs X (Ys st) { nx:=fun _ H'=>Q .non H',rt:=Q } (start N vs) H) (len:∀vs H Q E,sp vs H Q E->vs.length=ps.length:=by rintro _ _ _ _ h;repeat (first|(obtain ⟨e,_⟩:=h;subst e;rfl)|obtain ⟨_,h⟩:=h)):Zw P w K mg base CX0 (k+1) f fd ps sp:=Zo3.ok F S len m5
theorem Wm{X:Cx}{x:Str}{v:Int}{pos:Pos}(hg:Gl X x)(h:∃tk,X.mg x=some (.int v tk)) (hd:(x ==("__debug__" :Str))=false:=by decide):PE X (.Name x pos) (tC (.int v)):=by
 obtain ⟨tk,h⟩:=h;exact Zbr hg h ⟨tk,rfl⟩ hd
theorem Zij{α:Type}{l:List α}{i:Nat}{a:α}(nd:l.Nodup)(h:l[i]? =some a):a∉l.take i:=fun m=>by
 have e:l=l.take i++(a ::l.drop (i+1)):=by rw [<-Zm5 h,List.take_append_drop]
 rw [e,List.nodup_append] at nd;exact nd.2.2 a m a List.mem_cons_self rfl
section
variable {prog:Program} {w:World} {KT:Type} [DecidableEq KT] {knd:HeapKind prog w KT} {A:Around} {E:Value->Shared->Prop} {s:Shared}
theorem Zpg(c:Addr)(hc:(c ==sysModules)=false):MeetsIn prog w (Builtin.«dict.__len__» ⟨[.ref c],[]⟩) (fun _ R s=>∃ys,s.heap.DictOfH knd c ys/\R (.ok (.ret (.int ys.length s.toks))) { s with toks:=s.toks+1 }) :=
 .of_wp fun A R s ⟨ys,hm,h⟩=>by
  obtain ⟨ob,es,ep,w9,_,hda,L6,_,_⟩:=hm;show wpAny _ _ (dictSize c >>=_) _ _ s;unfold dictSize;refine wpAny_bind (wpAny_bind (wpAny_dictEntries w9 hda (wpAny_pure ?_)));show wpAny _ _ (Builtin.Dict.pendingCount c >>=_) _ _ s;refine wpAny_bind (wpAny_pendingCount_other hc (wpAny_ret_mkInt ?_));rw [Nat.add_zero,size_of_entries L6];exact h
theorem Zrl{c:Addr}{ys:List (KT×Addr×Value)}{Q:Value->Shared->Prop}(hc:(c ==sysModules)=false)(hm:s.heap.DictOfH knd c ys)(hf:(ys.length:Int)<2 ^ 63)
  (h:Q (.int ys.length (s.toks+1)) { s with toks:=s.toks+1+1 }):wpAny (model prog w) A (call (.builtin "len") [.ref c]) Q E s:=by
 refine Calls.call_function_entry kind_len plain_len entry_len (args_len1 _) ?_;unfold Builtin.«len»;refine wpAny_bind (m:=oneArg "len" _) (wpAny_pure (wpAny_bind (m:=callSpecial? (.ref c) (Str.ofString "__len__")) ?_));refine wpAny_callSpecial?_slot (name:=Str.ofString "__len__") hm.typeIs F.slot_dict_len (call_meetsIn F.slot_dict_len hm.typeIs F.entry_dict_len (F.args_dict_len_1 _) (Zpg (knd:=knd) c hc) ⟨ys,hm,?_⟩);show wpAny _ _ _ _ _ { s with toks:=s.toks+1 };refine wpAny_bind (wpAny_holding (wpAny_pure (wpAny_bind (wpAny_letGo ?_))));show wpAny _ _ (if ((ys.length:Nat):Int)<0 then _ else _) _ _ _;rw [if_neg (by lia)];show wpAny _ _ (if ((ys.length:Nat):Int) ≥ 2 ^ 63 then _ else _) _ _ _;rw [if_neg (by lia)];exact wpAny_bind (wpAny_mkInt (wpAny_pure ⟨_,rfl,h⟩))
end
def Zs4:List V->Hp->VK->Prop:=fun xs H Q=>∃a kvs,xs=[V.ref a]/\H a=some (.dT kvs)/\Q (.int kvs.length) H
theorem Zk8{X:Cx}:Xe X (.builtin "len") Zs4:=by
 intro a7 s σ H xs us Q I r h;obtain ⟨a,kvs,rfl,ha,q⟩:=h;obtain ⟨u,rfl,ru⟩:=Za0 r;cases ru;obtain ⟨z,hd,ys,m8,dd⟩:=Zv3 I.hok ha;have hl:kvs.length=ys.length:=Paired.length m8;refine Zrl hd dd (by rw [<-hl];rw [sizeLine_eq] at z;lia) ?_;rw [<-hl];exact ⟨.int _,H,I.tok _,⟨_,rfl⟩,q⟩
section
variable {prog:Program} {w:World} {KT:Type} [DecidableEq KT] {knd:HeapKind prog w KT} {A:Around} {R:Result->Shared->Prop} {l d it:Addr} {tps:List Addr} {qs:List (KT×Addr×Value)} {h₀:Heap}
def Zct(knd:HeapKind prog w KT)(h:Heap)(tps:List Addr)(qs:List (KT×Addr×Value)):Prop :=
 Paired (fun p (q:KT×Addr×Value)=>(∃o n,h.get? p=some o/\o.cls=.type "tuple" /\o.data=.seq #[.ref q.2.1,q.2.2] n)/\∃ok,h.get? q.2.1=some ok/\∀h':Heap,h'.get? q.2.1=some ok->knd.is h' q.1 q.2.1) tps qs
theorem Zct.key{h:Heap}(hp:Zct knd h tps qs):∀q∈qs,∃ok,h.get? q.2.1=some ok/\∀h':Heap,h'.get? q.2.1=some ok->knd.is h' q.1 q.2.1:=by
 unfold Zct at hp
 induction hp with
 | nil=>intro q z;cases z
 | cons r _ ih =>
  intro q z;rcases List.mem_cons.mp z with rfl|z
  ·exact r.2
  ·exact ih q z
theorem Zj2{h h':Heap}{ys:List (KT×Addr×Value)}(hD:h.DictOfH knd d ys)(hd:∀o,h.get? d=some o->h'.get? d=some o)(hk:∀y∈ys,knd.is h' y.1 y.2.1):h'.DictOfH knd d ys:=by
 obtain ⟨o,es,ep,ho,r1,r2,r3,_,r5⟩:=hD;exact ⟨o,es,ep,hd o ho,r1,r2,r3,hk,r5⟩
theorem Zn0(hh:A.handled=none)(hu:knd.room A.in1)(hdi:d≠it)(hl:h₀.IsList l (tps.map Value.ref).toArray)(hld:l≠d)(hli:l≠it)(hp:Zct knd h₀ tps qs)(P9:(qs.map (·.1)).Nodup)(hsz:qs.length<=sizeLine)
  (hpd:∀p∈tps,p≠d/\p≠it) (hqd:∀q∈qs,q.2.1≠d/\q.2.1≠it) :
  ∀(n i:Nat) (s:Shared) (j:Int) (tk:Tok),i+n=qs.length->s.heap.IsListIter it l i->s.heap.DictOfH knd d (qs.take i)->(∀b o,b≠d->b≠it->h₀.get? b=some o->s.heap.get? b=some o) ->
   (∀h' u8,h'.DictOfH knd d qs->(∀b o,b≠d->b≠it->h₀.get? b=some o->h'.get? b=some o)->R (.ok (.ret .none)) { s with heap:=h',toks:=u8 }) ->
   codeAny (model prog w) A (.builtin "dict.update.loop" ⟨[.ref d,.ref it,.int j tk,.none],[]⟩) R s:=by
 have g8:tps.length=qs.length:=Paired.length hp;have D7:=hp.key;have hu':∀args:Args,knd.room (A.under (.builtin "dict.update.loop" args)):=fun args=>by rw [Around.under_plainId (by trivial)];exact hu
 have is_:∀h':Heap,(∀b o,b≠d->b≠it->h₀.get? b=some o->h'.get? b=some o)->∀q∈qs,knd.is h' q.1 q.2.1:=fun h' kp q hq=>by
  obtain ⟨ok,h1,h2⟩:=D7 q hq;exact h2 h' (kp _ _ (hqd q hq).1 (hqd q hq).2 h1)
 intro n
 induction n with
 | zero =>
  intro i s j tk hi hit hD keep hq;have G0:s.heap.IsList l (tps.map Value.ref).toArray:=by
   obtain ⟨o,ho,r⟩:=hl;exact ⟨o,keep _ _ hld hli ho,r⟩
  refine codeAny_builtin Zew ?_;unfold Builtin.«dict.update.loop»;dsimp only;refine wpAny_bind (wpAny_pyNext_list_end hh hit G0 (by rw [List.getElem?_toArray,List.getElem?_map,List.getElem?_eq_none (by lia)];rfl) fun h' eb=>?_);dsimp only;refine wpAny_bind (wpAny_pure (wpAny_pure ?_));have kp:∀b o,b≠d->b≠it->h₀.get? b=some o->h'.get? b=some o:=fun b o h1 h2 h3=>eb b o h2 (keep b o h1 h2 h3)
  refine hq h' s.toks ?_ kp;rw [show qs.take i=qs from List.take_of_length_le (by lia)] at hD;exact Zj2 hD (fun o ho=>eb d o hdi ho) (is_ h' kp)
 | succ n ih =>
  intro i s j tk hi hit hD keep hq;have G0:s.heap.IsList l (tps.map Value.ref).toArray:=by
   obtain ⟨o,ho,r⟩:=hl;exact ⟨o,keep _ _ hld hli ho,r⟩
  have E3:i<tps.length:=by lia
  obtain ⟨q,hqi,⟨ot,nt,J6,hct,hdt⟩,_⟩:=Paired.get hp (i:=i) (a:=tps[i]) (List.getElem?_eq_getElem E3);obtain ⟨nd,ni⟩:=hpd tps[i] (List.getElem_mem E3);have hqm:q∈qs:=List.mem_of_getElem? hqi;refine codeAny_builtin Zew ?_;unfold Builtin.«dict.update.loop»;dsimp only;refine wpAny_bind (wpAny_pyNext_list_item hit G0 (x:=.ref tps[i]) (by rw [List.getElem?_toArray,List.getElem?_map,List.getElem?_eq_getElem E3];rfl) fun h1 it1 sb1=>?_);have M7:h1.get? tps[i]=some ot:=by rw [sb1.2 _ ni];exact keep _ _ nd ni J6
  have hT:({ s with heap:=h1 }:Shared).TypeIs (.ref tps[i]) "tuple" :=⟨_,M7,hct⟩
  have kp1:∀b o,b≠d->b≠it->h₀.get? b=some o->h1.get? b=some o:=fun b o z1 z2 z3=>by rw [sb1.2 _ z2];exact keep b o z1 z2 z3
  have L7:h1.DictOfH knd d (qs.take i):=Zj2 hD (fun o ho=>by rw [sb1.2 _ hdi];exact ho) fun y hy=>is_ h1 kp1 y (List.mem_of_mem_take hy)
  refine wpAny_bind (wpAny_holding (wpAny_bind (wpAny_tryCatch ?_)));unfold Builtin.Dict.pairItems;refine wpAny_bind (wpAny_typeOf hT ?_);rw [if_pos (by decide)];refine wpAny_bind (wpAny_seqItems (s:={ s with heap:=h1 }) M7 hdt (wpAny_pure ?_));refine wpAny_holding (wpAny_dictSet_heap (s:={ s with heap:=h1 }) (hu' _) (is_ h1 kp1 q hqm) L7 (fun h2 C3 sb2=>?_) ?_)
  ·refine wpAny_pure ⟨Code.quiet_builtin _ (by trivial),?_⟩;have P7:atKey (qs.take i) q.1=none:=by
    cases e:atKey (qs.take i) q.1 with
    | none=>rfl
    | some z =>
     unfold atKey at e;obtain ⟨y,hy,_⟩:=Option.map_eq_some_iff.mp e;have y0:=List.find?_some hy;have y1:y.1=q.1:=of_decide_eq_true y0;have m1:y.1∈(qs.map (·.1)).take i:=by rw [<-List.map_take];exact List.mem_map.mpr ⟨y,List.mem_of_find?_eq_some hy,rfl⟩
     rw [y1] at m1;exact absurd m1 (Zij P9 (by rw [List.getElem?_map,hqi];rfl))
   have A6:storedH (qs.take i) q.1 q.2.1 q.2.2=qs.take (i+1):=by rw [storedH_new P7,List.take_add_one,hqi];rfl
   rw [A6] at C3;refine ih (i+1) { s with heap:=h2,toks:=_ } (j+1) _ (by lia) ?_ C3 (fun b o n1 n2 z=>?_) fun h' u8=>hq h' u8
   ·exact it1.at fun o z=>by rw [sb2.2 _ hdi.symm];exact z
   ·rw [sb2.2 _ n1];exact kp1 b o n1 n2 z
  ·rw [List.length_take];lia
theorem Zgx{n:Nat}{s:Shared}{Q:Value->Shared->Prop}{E:Value->Shared->Prop}(hh:A.handled=none)(hu:knd.room A.in1.in1) (hx:s.heap.get? l=some { cls:=.type "list",data:=.seq (tps.map Value.ref).toArray n }) (hp:Zct knd s.heap tps qs) (P9:(qs.map (·.1)).Nodup) (hsz:qs.length<=sizeLine)
  (h:∀h' u8 dd,h'.DictOfH knd dd qs->dd=s.heap.objs.size->s.heap.get? dd=none->(∀b o,s.heap.get? b=some o->h'.get? b=some o)->Q (.ref dd) { s with heap:=h',toks:=u8 }) :
  wpAny (model prog w) A (call (.type "dict") [.ref l]) Q E s:=by
 refine callType_codes (Q₁:=fun obj s₁=>obj=.ref s.heap.objs.size/\s₁={ s with heap:=s.heap.push { cls:=.type "dict",data:=.dict #[] } }) F.kt_called_dict (F.kt_typeCall_dict_1 _) F.entry_dict_init (kt_code_dict_new _ ⟨rfl,rfl⟩) ?_;rintro obj s₁ ⟨rfl,rfl⟩;have j8:(s.heap.push { cls:=.type "dict",data:=.dict #[] }).DictOfH knd s.heap.objs.size []:=Heap.DictOfH.new s.heap;have hx1:(s.heap.push { cls:=.type "dict",data:=.dict #[] }).get? l=some { cls:=.type "list",data:=.seq (tps.map Value.ref).toArray n }:=Heap.get?_push_of_some _ hx;refine ⟨j8.typeIs,F.args_dict_init_2 _ _,?_⟩;unfold Builtin.«dict.__init__»;refine wpAny_bind ?_;unfold Builtin.Dict.selfAndRest;refine wpAny_bind (wpAny_notOrdered_dict j8.typeIs ?_);show wpAny _ _ (pure (s.heap.objs.size,[Value.ref l])) _ _ _;refine wpAny_pure ?_;show wpAny _ _ (Builtin.Dict.updateFrom "dict.__init__" s.heap.objs.size (.ref l) [] .none) _ _ _;unfold Builtin.Dict.updateFrom;refine wpAny_bind (wpAny_typeOf (T := "list") ⟨_,hx1,rfl⟩ ?_);rw [if_pos (by decide)];obtain ⟨h0,g0,d0,t0,os0⟩:=s;dsimp only at *;refine wpAny_bind (Zkw hh hx1 fun h1 tk1 k1=>?_);simp only [Option.isNone_none,if_true];have U6:=k1 _ _ hx1;have hl2:h1.IsList l (tps.map Value.ref).toArray:=⟨_,U6,rfl,n,rfl⟩
 refine wpAny_bind (wpAny_rule (wpAny_bind (wpAny_pyIter_list (s:=⟨h1,g0,d0,tk1,os0⟩) hl2 (wpAny_pure ⟨Code.quiet_builtin _ (by trivial),?_⟩))));have k2:∀b o,h0.get? b=some o->(h1.push { cls:=.type "list_iterator",data:=.fields #[.ref l,.int 0 0] }).get? b=some o:=fun b o z=>Heap.get?_push_of_some _ (k1 _ _ (Heap.get?_push_of_some _ z))
 have hd1:h1.get? h0.objs.size=some { cls:=.type "dict",data:=.dict #[] }:=k1 _ _ (Heap.get?_push_size h0 rfl);have U7:h0.objs.size<h1.objs.size:=Heap.lt_size hd1;have hll:l<h0.objs.size:=Heap.lt_size hx;have S2:∀c o,h0.get? c=some o->c≠h0.objs.size/\c≠h1.objs.size:=fun c o z=>by
  have:=Heap.lt_size z;exact ⟨Nat.ne_of_lt this,Nat.ne_of_lt (Nat.lt_trans this U7)⟩
 refine Zn0 (A:=A.in1) (knd:=knd) (h₀:=h1.push { cls:=.type "list_iterator",data:=.fields #[.ref l,.int 0 0] }) (l:=l) (tps:=tps) (qs:=qs) hh hu (Nat.ne_of_lt U7) ?_ (Nat.ne_of_lt hll) (Nat.ne_of_lt (Nat.lt_trans hll U7)) ?_ P9 hsz (fun p z=>?_) (fun q z=>?_) qs.length 0 ⟨h1.push { cls:=.type "list_iterator",data:=.fields #[.ref l,.int 0 0] },g0,d0,tk1,os0⟩ 0 0 (by lia) ?_ ?_ (fun _ _ _ _ z=>z) fun h' u8 hD kp=>?_
 ·exact ⟨_,k2 _ _ hx,rfl,n,rfl⟩
 ·exact Paired.mapP hp fun p q ⟨⟨o,m,z2,z3⟩,ok,z4,z5⟩=>⟨⟨o,m,k2 _ _ z2,z3⟩,ok,k2 _ _ z4,z5⟩
 ·obtain ⟨i,hi,rfl⟩:=List.getElem_of_mem z;obtain ⟨q,_,⟨o,m,z2,_⟩,_⟩:=Paired.get hp (i:=i) (a:=tps[i]) (List.getElem?_eq_getElem hi);exact S2 _ _ z2
 ·obtain ⟨ok,z4,_⟩:=hp.key q z;exact S2 _ _ z4
 ·exact ⟨_,Heap.get?_push_size h1 rfl,rfl,rfl⟩
 ·exact Zj2 j8 (fun o ho=>Heap.get?_push_of_some _ (k1 _ _ ho)) fun y hy=>by cases hy
 ·refine ⟨rfl,h h' u8 h0.objs.size hD rfl (Heap.get?_none_of_le (Nat.le_refl _)) fun b o z=>kp b o ?_ ?_ (k2 b o z)⟩
  ·exact (S2 _ _ z).1
  ·exact (S2 _ _ z).2
end
def Zss:List V->Hp->VK->Prop:=fun xs H Q=>∃(l:Addr) (tps:List Addr) (kvs:List (List Key×V)),xs=[.ref l]/\H l=some (.lst (tps.map V.ref)) /\
 Paired (fun t (q:List Key×V)=>∃a,H t=some (.tup [.ref a,q.2])/\H a=some (.tup (q.1.map kV))) tps kvs/\(kvs.map Prod.fst).Nodup/\New H (.dT kvs) Q
theorem Zow{X:Cx}(hc:X.calm=true)(hu:X.A.units+64<cLine):Xe X (.type "dict") Zss:=by
 intro a7 s σ H xs us Q I r h;obtain ⟨l,tps,kvs,rfl,hl,hp,hn,q⟩:=h;obtain ⟨u,rfl,ru⟩:=Za0 r;cases ru;obtain ⟨hz,a8,n,rv,hg⟩:=(show Yf X.prog X.w H s.heap l (.lst (tps.map V.ref)) from I.hok l _ hl)
 rw [Zm0 rv] at hg;have key:∀{tps:List Addr} {kvs:List (List Key×V)},Paired (fun t (q:List Key×V)=>∃a,H t=some (.tup [.ref a,q.2])/\H a=some (.tup (q.1.map kV))) tps kvs->∃qs,KT H kvs qs/\Zct (tupleKind (Zz X.prog X.w)) s.heap tps qs:=by
  intro tps kvs hp
  induction hp with
  | nil=>exact ⟨[],.nil,.nil⟩
  | cons r t ih =>
   rename_i p q _ _;obtain ⟨qs,h1,h2⟩:=ih;obtain ⟨a,ra,rk⟩:=r;obtain ⟨_,a8,rv,o,ho,p7,m,hd⟩:=(show Yf X.prog X.w H s.heap p (.tup [.ref a,q.2]) from I.hok p _ ra)
   obtain ⟨k,v,rfl,rk1,rv2⟩:=Zk6 rv;cases (show k=Value.ref a from rk1);obtain ⟨_,C6,r2,o2,R6,hcl2,m2,hd2⟩:=(show Yf X.prog X.w H s.heap a (.tup (q.1.map kV)) from I.hok a _ rk)
   exact ⟨(q.1,a,v) ::qs,.cons ⟨rfl,rk,rv2⟩ h1,.cons ⟨⟨o,m,ho,p7,hd⟩,o2,R6,fun h' e=>⟨o2,_,m2,e,hcl2,hd2,by simpa using Zg7 r2⟩⟩ h2⟩
 obtain ⟨qs,B7,hpi⟩:=key hp;have hql:kvs.length=qs.length:=Paired.length B7;have B9:kvs.length<=sizeLine:=by
  have:=Paired.length hp;rw [List.length_map] at hz;lia
 have P9:(qs.map (·.1)).Nodup:=by
  have:∀{kvs:List (List Key×V)} {qs:List (List Key×Addr×Value)},KT H kvs qs->qs.map (·.1)=kvs.map Prod.fst:=by
   intro kvs qs z
   induction z with
   | nil=>rfl
   | cons r t ih=>rw [List.map_cons,List.map_cons,ih,r.1]
  rw [this B7];exact hn
 refine Zgx (knd:=tupleKind (Zz X.prog X.w)) (I.ok.hd hc) (tupleKind_room_in1 (A:=X.A.in1) (by show X.A.units+1+1<cLine;lia)) hg hpi P9 (by rw [<-hql];exact B9) fun h' u8 dd hD hdd Q6 k=>?_
 have hsm:dd≠sysModules:=fun z=>by
  have hb:=I.big;rw [<-hdd,z] at hb;exact Nat.lt_irrefl _ hb
 have hH0:H dd=none:=by
  cases e:H dd with
  | none=>rfl
  | some u =>
   obtain ⟨ob,z⟩:=(I.hok dd u e).there;rw [Q6] at z;cases z
 obtain ⟨o,es,ep,e1,e2,e3,e4,_,e5⟩:=hD;obtain ⟨hH,J⟩:=I.laidAt (t':=u8) (o:=.dT kvs) k Q6 (show Yf X.prog X.w (upd H dd (.dT kvs)) h' dd (.dT kvs) from ⟨B9,beq_eq_false_iff_ne.mpr hsm,qs,B7.keeps fun b ys e=>by rw [Zd (Zg e hH0)];exact e,o,es,ep,e1,e2,e3,e4,e5⟩);exact ⟨.ref dd,_,J,rfl,q.at dd hH⟩
end L2
end
section
namespace L2
open PySem PySem.Spec PyProof.Rows
section
variable {prog:Program} {w:World} {A:Around} {E:Value->Shared->Prop} {s:Shared}
end
end L2
end
section
namespace L2
open PySem PySem.Spec PyProof.Rows
section
variable {prog:Program} {w:World} {A:Around} {E:Value->Shared->Prop} {s:Shared} {o:Array Keyed} {κ:KeyKind} {kd:SortKind}
def Lts(prog:Program)(w:World)(A:Around)(s:Shared)(κ:KeyKind)(kd:SortKind):Prop :=
 ∀(x y:Value) (a b:κ.α) (E':Value->Shared->Prop) (Q':Bool->Shared->Prop),κ.keyOf x=some a->κ.keyOf y=some b->a≠b->Q' (κ.blt a b) s->wpAny (model prog w) A (keyLt' kd x y) Q' E' s
def Zy9(κ:KeyKind)(o:Array Keyed):Prop:=(o.toList.map fun p=>κ.keyOf p.1).Nodup
variable (hL:Lts prog w A s κ kd) (k:KeysOf κ o) (d:Zy9 κ o)
include hL k d
end
end L2
namespace L2
open PySem PySem.Spec PyProof.Rows
section
variable {prog:Program} {w:World} {A:Around} {E:Value->Shared->Prop} {s:Shared}
theorem Zyl:∀{vs:List Value},vs.length<2->(vs.toArray.zip vs.toArray).map (·.2)=vs.toArray
 | [],_=>by simp
 | [_],_=>by simp
 | _ ::_ ::_,h=>absurd h (by simp)
theorem Zyp{α β:Type}{f:α->β}{R:β->β->Prop}:∀{vs:List α},vs.length<2->(vs.map f).Pairwise R
 | [],_=>.nil
 | [_],_=>List.pairwise_singleton _ _
 | _ ::_ ::_,h=>absurd h (by simp)
theorem Ya3{α:Type}:∀{vs:List α},2<=vs.length->∃a b r,vs=a ::b ::r
 | a ::b ::r,_=>⟨a,b,r,rfl⟩
end
end L2
namespace L2
open PySem PySem.Spec PyProof.Rows
end L2
end
section
namespace L2
open PySem PySem.Spec PyProof.Rows
end L2
end
section
namespace L2
open PySem PyProof.Rows
section
variable {prog:Program} {w:World} {A:Around} {E:Value->Shared->Prop} {s:Shared} {o:Array Keyed} {kd:SortKind} {p:Array (Nat×Nat×Nat)} {st:SortSt}
def Zze(prog:Program)(w:World)(A:Around)(s:Shared)(kd:SortKind)(o:Array Keyed):Prop :=
 ∀x∈o,∀y∈o,∀(E':Value->Shared->Prop) (Q':Bool->Shared->Prop),(∀b,Q' b s)->wpAny (model prog w) A (keyLt' kd x.1 y.1) Q' E' s
variable (L:Zze prog w A s kd o)
include L
omit L
variable {a b out:Array Keyed} {x y z:List Keyed} {v:Keyed}
omit L in
omit L in
section
variable {C D F:Type} {pd:Array Keyed->Nat->Nat->Prop} {fd:Array Keyed->Nat->Nat->D->C} {ls:List Keyed} {fu:Array Keyed->F->C} {G G1 G2:C->SortSt->Prop}
end
include L
omit L
include L
omit L in
end
end L2
end
section
namespace L2
open PySem PySem.Spec PyProof.Rows
section
variable {prog:Program} {w:World} {A:Around} {E:Value->Shared->Prop} {s:Shared} {d it:Addr} {i ep:Nat} {es:Array DictEntry}
end
end L2
end
section
namespace L2
open PySem PySem.Spec PyProof.Rows
section
variable {prog:Program} {w:World} {A:Around} {E:Value->Shared->Prop} {s:Shared}
end
end L2
end
section
namespace L2
open PySem PySem.Spec PyProof.Rows
end L2
end
section
namespace L2
open PySem PySem.Spec PyProof.Rows
def Itw(d:Addr)(o:Obj)(kvs:List (Key×V)):It :=
 ⟨fun i H=>H d=some (.frz o (.dK kvs))/\i<kvs.length,fun i H x H'=>H'=H/\∃kv,kvs[i]? =some kv/\x=kv.2,fun i H=>H d=some (.frz o (.dK kvs))/\kvs.length<=i⟩
theorem Zqj{P:Program}{w:World}{K:Frag}{tg:Expr}{d:Addr}{o:Obj}{kvs:List (Key×V)}{vs:List (Key×Value)}{ep:Nat}(it:Addr)(hk:KV kvs vs)
  (hD:∀h:Heap,h.get? d=some o->h.DictAt (Zz P w) d vs ep):Zlz P w K tg (Itw d o kvs) [it] it (fun i h=>h.IsValIter it d i vs.length ep) where
 mem:=by simp
 obj:=fun i h st b hb=>by
  have e:b=it:=by simpa using hb
  subst e;obtain ⟨ob,e,c,dd⟩:=st;exact ⟨ob,e,fun v z=>by rw [dd] at z;cases z⟩
 keep:=fun i h h' st k=>st.at fun o e=>k it (by simp) o e
 item:=by
  intro X hP hw hK hc i a7 s σ H E I hf st hg;subst hP hw hK;obtain ⟨hq,d5⟩:=hg;obtain ⟨f0,f1,f2,f3,f4,f5⟩:=hf it (by simp);have M5:s.heap.get? d=some o:=(I.hok d _ hq).1;obtain ⟨u,hu,ru⟩:=hk.get (i:=i) (kv:=kvs[i]) (by simp [d5]);refine wpAny_pyNext_values_item (knd:=Zz X.prog X.w) st (hD _ M5) hu fun h' A7 sb=>?_
  have I1:Inv X a7 σ H { s with heap:=h' }:=I.turned (t':=s.toks) (fun b o hb e=>(sb.2 b hb).trans e) f0 f1 f3 f4 f5;obtain ⟨ob,e,c,dd⟩:=id A7;exact ⟨u,rfl,Zlq (s:={ s with heap:=h' }) e c dd (by decide) ⟨kvs[i].2,H,I1,ru,⟨rfl,kvs[i],by simp [d5],rfl⟩,A7,fun b hb=>(hf b hb).1⟩⟩
 done:=by
  intro X hP hw hK hc i a7 s σ H E I hf st hg;subst hP hw hK;obtain ⟨hq,B9⟩:=hg;obtain ⟨f0,f1,f2,f3,f4,f5⟩:=hf it (by simp);have M5:s.heap.get? d=some o:=(I.hok d _ hq).1;have hl:=KV.length hk;exact wpAny_pyNext_values_end (knd:=Zz X.prog X.w) (I.ok.hd hc) st (hD _ M5) (List.getElem?_eq_none (by lia)) fun h' eb=>⟨rfl,I.turned (t':=s.toks) (fun b o hb e=>eb b o hb e) f0 f1 f3 f4 f5⟩
 self:=fun _ _ _ _ _ st h=>wpAny_pyIter_valiter st h
def Zyr(X:Cx)(tl:TE):TI:=fun σ H R=>tl σ H fun x H1=>∃d kvs,x=.ref d/\H1 d=some (.dK kvs)/\∀o,NF X d (.dK kvs)->R (Itw d o kvs) (upd H1 d (.frz o (.dK kvs)))
theorem Zva{X:Cx}{tg:Expr}{i5 g9:Pos}{o:Expr}{to:TE}(ho:PE X o to) (z9:attributeBase o "values" X.env (eval o X.env)=eval o X.env:=by rfl) (A0:(i5.endLine ==g9.line)=true:=by rfl) :
  PI X tg (.Call (.Attribute o "values" i5) [] [] g9) (Zyr X to):=by
 intro a7 s σ H R I h;refine wpAny_Call_method0_late z9 A0 (thn (ho a7 s σ H _ I h) fun v s1 ⟨y,H1,I1,r1,q1⟩=>?_);obtain ⟨d,kvs,rfl,hd,q⟩:=q1;cases r1;obtain ⟨hz,hs,vs,kv,dd⟩:=Zlo I1.hok hd;obtain ⟨ob,_,_,w9,R7,_⟩:=id dd;obtain ⟨ep,hD⟩:=Zey dd w9;refine ⟨"dict", "dict.values",PySem.F.plainAttrs_dict,PySem.F.slot_dict_values,PySem.F.type_dict_values,dd.typeIs,fun a e=>?_,Calls.callWith_builtin rfl (PySem.evalArgs_none ?_)⟩
 ·cases e;exact ⟨ob,w9,R7.2.1⟩
 refine call_meetsIn PySem.F.slot_dict_values dd.typeIs PySem.F.entry_dict_values (PySem.F.args_dict_values_1 _) (meets_dict_values (Zz X.prog X.w) d hs) ⟨⟨vs,dd⟩,?_⟩;have I2:=I1.freeze hd rfl w9;have I3:Inv X a7 σ (upd H1 d (.frz ob (.dK kvs))) { s1 with heap:=s1.heap.push { cls:=.type "dict_values",data:=.fields #[.ref d] } }:=I2.kept (t':=s1.toks) fun b o e=>Heap.get?_push_of_some _ e
 refine wpAny_pyIter_values (knd:=Zz X.prog X.w) (d:=d) ⟨_,Heap.get?_push_size _ rfl,rfl,rfl⟩ (hD _ (Heap.get?_push_of_some _ w9)) ?_;refine ⟨_,[_],_,_,_,rfl,I3.kept (t':=s1.toks) fun b o e=>Heap.get?_push_of_some _ e,Zqj _ kv hD,⟨_,Heap.get?_push_size _ rfl,rfl,rfl⟩,fun b hb=>?_,q ob ⟨I1.notFrz hd (fun _ _ z=>nomatch z),fun _ z=>nomatch z⟩⟩;have e:=List.mem_singleton.mp hb;subst e;exact I3.fpOk (Nat.le_refl _) (I3.hok.fresh (Nat.le_refl _))
theorem Ztx{d:Addr}{o:Obj}{kvs:List (Key×V)}{g:TG}{tb:TS}{D:Zc1}{σ:St}{H:Hp}(Pv:Nat->St->Hp->Prop)(h0:Pv 0 σ H)(hl:∀i σ H,i<=kvs.length->Pv i σ H->H d=some (.frz o (.dK kvs)))
  (hs:∀i kv σ H,kvs[i]? =some kv->Pv i σ H->g kv.2 σ H fun σ2 H2=>tb { D with nx:=Pv (i+1),ct:=Pv (i+1),bk:=D.nx } σ2 H2) (hd:∀σ H,Pv kvs.length σ H->D.nx σ H) :
  ∃W:Nat->Nat->St->Hp->Prop,(∃m,W 0 m σ H)/\∀i m σ H,W i m σ H ->
   ((Itw d o kvs).stop i H/\D.nx σ H)\/((Itw d o kvs).go i H/\∃N:St->Hp->Prop,(∀σ' H',N σ' H'->∃m',m'<m/\W (i+1) m' σ' H')/\∀x H',(Itw d o kvs).yld i H x H'->g x σ H' fun σ2 H2=>tb { D with nx:=N,ct:=N,bk:=D.nx } σ2 H2):=by
 refine ⟨fun i m σ H=>m=kvs.length-i/\i<=kvs.length/\Pv i σ H,⟨kvs.length,by simp,Nat.zero_le _,h0⟩,?_⟩;rintro i m σ H ⟨rfl,hi,p⟩;have q:=hl i σ H hi p
 by_cases d5:i<kvs.length
 ·refine .inr ⟨⟨q,d5⟩,Pv (i+1),fun σ' H' p'=>⟨kvs.length-(i+1),by lia,rfl,d5,p'⟩,fun x H' y=>?_⟩;obtain ⟨e,kv,B7,e2⟩:=y;subst e e2;exact hs i kv σ _ B7 p
 ·have e:i=kvs.length:=by lia
  subst e;exact .inl ⟨⟨q,Nat.le_refl _⟩,hd σ H p⟩
end L2
end
section
namespace L2
open PySem PySem.Spec PyProof.Rows
end L2
end
section
namespace L2
open PySem PySem.Spec PyProof.Rows
end L2
end
section
set_option maxHeartbeats 400000
namespace L2
open PySem PySem.Spec PyProof.Rows
open Classical in
noncomputable def Zjd (cells:List (Str×Addr)) (H:Hp):Hp:=fun b=>if ∃x,cells.lookup x=some b then none else H b
theorem Zsa{cells:List (Str×Addr)}{H:Hp}{b:Addr}{x:Str}(h:cells.lookup x=some b):Zjd cells H b=none:=if_pos ⟨x,h⟩
theorem Zbh{cells:List (Str×Addr)}{H:Hp}{b:Addr}(h:∀x,cells.lookup x≠some b):Zjd cells H b=H b:=if_neg fun ⟨x,z⟩=>h x z
theorem Zlj{cells:List (Str×Addr)}{H:Hp}:Same (Zjd cells H) H:=fun b o e=>by
 unfold Zjd at e
 by_cases z:∃x,cells.lookup x=some b
 ·rw [if_pos z] at e;cases e
 ·rw [if_neg z] at e;exact e
section
variable {X:Cx} {a7:List (Addr×Obj)} {σ:St} {H:Hp} {s s':Shared} {Q:VK}
theorem Zih(I:Inv X a7 σ H s){x:Str}{c:Addr}(h:X.env.cells.lookup x=some c):∃o v,Zhv X.env.cells H s.heap c=some (Fz o)/\s.heap.get? c=some o/\o.data=.cell v:=by
 obtain ⟨v,o,ho,hd⟩:=I.cell x c h;refine ⟨o,v,?_,ho,hd⟩;unfold Zhv;rw [if_pos ⟨x,h⟩,ho];rfl
theorem Inv.noC(I:Inv X a7 σ H s)(F6:∀x,X.fn x=true){b:Addr}{o:Obj}(h:X.s₀.heap.get? b=some o)(x:Str):X.env.cells.lookup x≠some b:=fun z=>absurd (Nat.lt_of_lt_of_le (Heap.lt_size h) (I.ok.cab x b (F6 x) z)) (Nat.lt_irrefl _)
theorem Inv.env0C(I:Inv X a7 σ H s)(F6:∀x,X.fn x=true):Zm1 X.prog X.w X.K X.mg X.base X.A X.stack s (Zhv X.env.cells H s.heap):=by
 have E:=I.env0;refine ⟨E.frames,E.mod,fun b o e=>⟨(E.bs b o e).1,?_⟩,E.bsz,E.funs,fun b hb=>?_,fun b o e=>?_,E.bare⟩
 ·rw [Zet fun x=>I.noC F6 (I.ok.bs b o e).1 x];exact (E.bs b o e).2
 ·rw [Zet fun x z=>?_]
  ·exact E.frf b hb
  ·rcases List.mem_cons.mp (I.stkSub b hb) with y|y
   ·exact I.cne x b z y
   ·obtain ⟨_,o,ho,_⟩:=I.ok.funs.mem y;exact I.noC F6 ho x z
 ·by_cases z:∃x,X.env.cells.lookup x=some b
  ·obtain ⟨x,z⟩:=z;obtain ⟨ob,v,h1,h2,h3⟩:=Zih I z;rw [h1] at e;cases e;exact ⟨h2,h2,_,h2⟩
  ·rw [Zet fun x y=>z ⟨x,y⟩] at e;exact (I.hok b o e).stay (fun _ _ _ q=>q) (fun c q=>Zao I q) (fun c xs q=>Zao I q) (fun c o q=>Zao I q) (fun c o q=>Zao I q)
theorem CE.lend(I:Inv X a7 σ H s){u:Value}(h:CE X.stack X.prog X.w (Zhv X.env.cells H s.heap) s Q u s'):CE X.stack X.prog X.w H s (fun v H3=>∃H',H3=Zjd X.env.cells H'/\(∀x c o,X.env.cells.lookup x=some c->s.heap.get? c=some o->H' c=some (Fz o))/\Q v H') u s':=by
 obtain ⟨v,H',os,bare,un,hok,r,q⟩:=h;have frz:∀x c o,X.env.cells.lookup x=some c->s.heap.get? c=some o->H' c=some (Fz o):=fun x c o hc ho=>by
  obtain ⟨o2,w,h1,h2,_⟩:=Zih I hc;rw [ho] at h2;cases h2;exact un.frzs c _ _ h1
 have nc:∀{b:Addr} {o:HO},H b=some o->∀x,X.env.cells.lookup x≠some b:=fun e x z=>by rw [I.freeC x _ z] at e;cases e
 have ad:∀{b:Addr},(∀x,X.env.cells.lookup x≠some b)->H b=none->Zhv X.env.cells H s.heap b=none:=fun z n=>by rw [Zet z];exact n
 refine ⟨v,Zjd X.env.cells H',os,bare,⟨fun b o h1 h2 h3 h4=>?_,fun b o h1 h2 h3 h4=>?_,fun b o h1 h2 h4=>?_,un.there,fun b xs e=>?_,fun b o u e=>?_,fun b ps e=>?_⟩,fun b o e=>?_,r,H',rfl,frz,q⟩
 ·by_cases z:∃x,X.env.cells.lookup x=some b
  ·obtain ⟨x,z⟩:=z;exact (hok b _ (frz x b o z h1)).1
  ·exact un.keep b o h1 (ad (fun x y=>z ⟨x,y⟩) h2) h3 h4
 ·by_cases z:∃x,X.env.cells.lookup x=some b
  ·obtain ⟨x,z⟩:=z;exact ⟨o.slots,(hok b _ (frz x b o z h1)).1⟩
  ·exact un.slot b o h1 (ad (fun x y=>z ⟨x,y⟩) h2) h3 h4
 ·by_cases z:∃x,X.env.cells.lookup x=some b
  ·obtain ⟨x,z⟩:=z;exact Zsa z
  ·rw [Zbh fun x y=>z ⟨x,y⟩];exact un.free b o h1 (ad (fun x y=>z ⟨x,y⟩) h2) h4
 ·rw [Zbh (nc e)];exact un.tups b xs (Zao I e)
 ·rw [Zbh (nc e)];exact un.frzs b o u (Zao I e)
 ·obtain ⟨m,z⟩:=un.tbls b ps (Zao I e);exact ⟨m,by rw [Zbh (nc e)];exact z⟩
 ·have soft:∀{c:Addr} {o:HO},H' c=some o->(∀ob,o≠Fz ob)->Zjd X.env.cells H' c=some o:=fun {c o} z n=>by
   rw [Zbh]
   ·exact z
   ·intro x y;obtain ⟨_,w,_,h2,_⟩:=Zih I y;rw [frz x c _ y h2] at z;cases z;exact n _ rfl
  exact (hok b o (Zlj b o e)).stay (fun _ _ _ q=>q) (fun c q=>soft q fun _ z=>nomatch z) (fun c xs q=>soft q fun _ z=>nomatch z) (fun c o q=>soft q fun _ z=>nomatch z) (fun c o q=>soft q fun _ z=>nomatch z)
def Zt1(X:Cx)(σ:St)(H:Hp)(S:Hp->VK->Prop)(Q:VK):Prop:=∀H2,Same H H2->(∀(i:Nat) (x:Str) (v:V) (c:Addr),X.N[i]? =some x->σ[i]? =some (some v)->X.env.scope.names.lookup x=some .cell->X.env.cells.lookup x=some c->H c=none/\Zm2 H2 c v) ->
 S H2 fun v H4=>∀H3,Same H3 H4->(∀b u o,H b=some u->H4 b=some o->H3 b=some o)->(∀b o,H4 b=some o->(∀ob,o≠Fz ob)->H3 b=some o)->Q v H3
theorem Zu0{k:Nat}{f:Addr}{fd:FuncData}{ps:List Str}{sp:Sp}{us:List Value}{vs:List V}(F:Zw X.prog X.w X.K X.mg X.base CX0 k f fd ps sp)(hr:Xj k X.A)(F6:∀x,X.fn x=true)(hb:Zak X.K fd ps [])
  (I:Inv X a7 σ H s) (r:Z5 vs us) (h:Zt1 X σ H (fun H2 Q2=>sp vs H2 Q2 E0) Q):wpAny (model X.prog X.w) X.A (call (.ref f) us) (EP X a7 σ Q) X.xe s:=by
 have h:=h (Zhv X.env.cells H s.heap) (fun b o e=>Zao I e) fun i x v c h1 h2 h3 h4=>Zrj I h1 h2 h3 h4
 have hl:us.length=ps.length:=by rw [<-r.length];exact F.len _ _ _ _ h
 have b:=hb s us I.kIn (by rw [List.append_nil];exact hl);rw [List.append_nil] at b;refine wpAny_call (codeAny_mono (F.run X.A X.stack s _ ⟨us,[]⟩ us vs _ E0 hr (I.env0C F6) b r h) fun r s' hq=>?_);cases r with
 | error e=>exact False.elim hq
 | ok fl =>
  cases fl with
  | ret u =>
   obtain ⟨v,H3,I3,rv,H',e3,frz,q⟩:=I.after (CE.lend I hq);subst e3;refine ⟨v,_,I3,rv,q _ Zlj (fun b u o e e2=>?_) fun b o e n=>?_⟩
   ·rw [Zbh fun x z=>by rw [I.freeC x b z] at e;cases e];exact e2
   rw [Zbh]
   ·exact e
   ·intro x y;obtain ⟨_,w,_,h2,_⟩:=Zih I y;rw [frz x b _ y h2] at e;cases e;exact n _ rfl
  | next=>exact False.elim hq
  | brk=>exact False.elim hq
  | cont=>exact False.elim hq
def Zxi(X:Cx)(sp:Sp)(t:TA):TE:=fun σ H Q=>t σ H fun vs H1=>Zt1 X σ H1 (fun H2 Q2=>sp vs H2 Q2 E0) Q
theorem Zck{k:Nat}{f:Addr}{fd:FuncData}{ps:List Str}{sp:Sp}{x:Str}{p pos:Pos}{e:Expr}{es:List Expr}{t:TA}(F:Zw X.prog X.w X.K X.mg X.base CX0 k f fd ps sp)(hr:Xj k X.A)(F6:∀x,X.fn x=true)(hg:Gl X x)(hm:X.mg x=some (.ref f))(hk:keepIn X.K (.ref f)=true)(hb:Zak X.K fd ps [])
  (ha:PA X (e ::es) t) (O5:(x ==("__debug__" :Str))=false:=by decide) (he:starEach (e ::es) X.env=(false,eval e X.env) ::starEach es X.env:=by rfl) (i7:(backTo pos (starEach es X.env)).any (·.1)=false:=by rfl) :
  PE X (.Call (.Name x p) (e ::es) [] pos) (Zxi X sp t):=by
 intro a7 s σ H Q I h;refine wpAny_Call_Name_kw (Zeu I hg hm ?_ O5);refine PySem.W.callWith_K (h₀:=X.base) I.ok.mod.kin hk (thn (ha pos a7 s σ H _ I h) fun us s1 ⟨vs,H1,I1,r,q⟩=>⟨I1.kIn,?_⟩) he i7;exact Zu0 F hr F6 hb I1 r q
def Yaj(X:Cx)(Pt:Addr)(la:Arguments)(lb:Expr)(ls:Scope)(lp:Pos)(clos:List (Str×Addr)):TE:=fun _ H Q=>∃U8,H Pt=some (.tbl (Xl U8))/\(lp.line,lp.col,X.env.qual ++ "<lambda>")∈U8/\∀fl H',Same H H'->H fl=none->Clo H' Pt fl (X.env.qual ++ "<lambda>") la lb ls clos->Q (.ref fl) H'
theorem Zg0{la:Arguments}{lb:Expr}{ls:Scope}{lp:Pos}{c Pt:Addr}{clos:List (Str×Addr)}(A1:X.env.code=.ref c)(hL:PySem.W.codeHdIn X.K c Pt=true)(O8:defaultsOf la X.env=([],[]):=by rfl)(p7:closureFor ls X.env=pure clos:=by rfl):PE X (.Lambda la lb ls lp) (Yaj X Pt la lb ls lp clos):=by
 intro a7 s σ H Q I h;obtain ⟨U8,h1,h2,h3⟩:=h;exact Zs7 I O8 A1 (PySem.W.codeHd_of_K I.ok.mod.kin hL) h1 h2 p7 fun fl H' s' I' sm hn cl=>⟨.ref fl,H',I',rfl,h3 fl H' sm hn cl⟩
end
section
variable {P:Program} {w:World} {K:Frag} {mg:Str->Option Value} {base:Heap}
theorem Fun.okL{x qual:Str}{st:Stmt}{f Pt:Addr}{fd:FuncData}{N ps:List Str}{k:Nat}{sp:Sp}(F:Fun K x qual st f fd)(L:Zua K fd Pt)(S:Zk N ps (Zh st))(len:∀vs H Q E,sp vs H Q E->vs.length=ps.length)
  (m5:∀(c:Addr) (A:Around) (outer:List Env) (s:Shared) (H:Hp) (vs:List V) (Q:VK) (E:XK),PySem.W.codeHdIn K c Pt=true->Xj k (A.deeper (envOfC qual (Zh st) s.heap.objs.size f (.ref c)))->sp vs H Q E ->
   WSs (Zd0 CX0 P w K mg base N qual (Zh st) f (.ref c) A outer s H E).nox (Ys st) { nx:=fun _ H'=>Q .non H',rt:=Q } (start N vs) H):Zw P w K mg base CX0 (k+1) f fd ps sp:=by
 obtain ⟨oc,od,kV,m9,pm,an,a9,ct,D3,rfl,lk,A9⟩:=F.ex;obtain ⟨c,hc,hL⟩:=L;have hc:a9=.ref c:=hc;subst hc;refine Zqc lk A9 S len fun A outer s H vs Q E hr P3=>?_
 exact ⟨_,PSs.nox Zr,m5 c A outer s H vs Q E hL hr P3⟩
end
end L2
end
section
set_option maxHeartbeats 400000
namespace L2
open PySem PySem.Spec PyProof.Rows
def kD:Key->PyData
 | .inl i=>.int i
 | .inr x=>.str x
mutual
inductive Rp(H:Hp):PyData->V->Prop
 | str (x:Str):Rp H (.str x) (.str x)
 | bl (b:Bool):Rp H (.bool b) (.bl b)
 | lst {a:Addr} {xs:List V} {ds:List PyData}:H a=some (.lst xs)->Rps H ds xs->Rp H (.list ds) (.ref a)
 | tup {a:Addr} {xs:List V} {ds:List PyData}:H a=some (.tup xs)->Rps H ds xs->Rp H (.tuple ds) (.ref a)
 | dk {a:Addr} {kvs:List (Key×V)} {ds:List PyData}:H a=some (.dK kvs)->Rps H ds (kvs.map Prod.snd)->Rp H (.dict ((kvs.map fun p=>kD p.1).zip ds)) (.ref a)
inductive Rps(H:Hp):List PyData->List V->Prop
 | nil:Rps H [] []
 | cons {d:PyData} {v:V} {ds:List PyData} {vs:List V}:Rp H d v->Rps H ds vs->Rps H (d ::ds) (v ::vs)
end
theorem Rps.length{H:Hp}:∀{ds:List PyData} {vs:List V},Rps H ds vs->ds.length=vs.length
 | _,_,.nil=>rfl
 | _,_,.cons _ h=>congrArg Nat.succ h.length
theorem Zre{h:Heap}{k:Key}{u:Value}(e:Zhg k u=true):Reads h u (kD k) []:=by
 rcases Y2 e with ⟨i,t,rfl,rfl⟩|⟨x,t,rfl,rfl⟩
 ·exact .int i t
 ·exact .str x t
section
variable {X:Cx} {a7:List (Addr×Obj)} {σ:St} {H:Hp} {s:Shared}
theorem Zhs{P:Program}{w:World}{h:Heap}:∀{es:List DictEntry} {kvs:List (Key×Value)},Pairs (Zz P w) es kvs->ReadsAll h (es.map (·.key)) (kvs.map fun p=>kD p.1) []
 | _,_,.nil=>.nil
 | _,_,.cons (e:=e) (kv:=kv) h1 h2 h3=>ReadsAll.cons (as:=[]) (bs:=[]) (Zre h1) (Zhs h3)
theorem Zjv{P:Program}{w:World}:∀{es:List DictEntry} {kvs:List (Key×Value)},Pairs (Zz P w) es kvs->es.map (·.val)=kvs.map Prod.snd
 | _,_,.nil=>rfl
 | _,_,.cons h1 h2 h3=>by rw [List.map_cons,List.map_cons,h2,Zjv h3]
theorem Zu3{kvs:List (Key×V)}{vs:List (Key×Value)}(h:KV kvs vs):Z5 (kvs.map Prod.snd) (vs.map Prod.snd)/\(vs.map fun p=>kD p.1)=kvs.map fun p=>kD p.1:=by
 induction h with
 | nil=>exact ⟨.nil,rfl⟩
 | cons r t ih=>exact ⟨.cons r.2 ih.1,by rw [List.map_cons,List.map_cons,ih.2,r.1]⟩
mutual
theorem Rp.reads(I:Inv X a7 σ H s):∀{d:PyData} {v:V} {u:Value},Rp H d v->Ye v u->∃as,Reads s.heap u d as/\∀a∈as,∃o,H a=some o
 | _,_,u,.str x,r=>by
  obtain ⟨t,rfl⟩:=(show ∃t,u=Value.str x t from r)
  exact ⟨[],.str x t,fun _ z=>nomatch z⟩
 | _,_,u,.bl b,r=>by
  obtain rfl:u=Value.bool b:=r;exact ⟨[],.bool b,fun _ z=>nomatch z⟩
 | _,_,u,.lst (a:=a) (xs:=xs) e h,r=>by
  obtain rfl:u=Value.ref a:=r;obtain ⟨_,a8,n,rv,ho⟩:=(show Yf X.prog X.w H s.heap a (.lst xs) from I.hok a _ e)
  obtain ⟨as,h1,h2⟩:=Rps.reads I h rv;exact ⟨a ::as,.list ho rfl rfl h1,fun b hb=>(List.mem_cons.mp hb).elim (fun z=>⟨_,(congrArg H z).trans e⟩) (h2 b)⟩
 | _,_,u,.tup (a:=a) (xs:=xs) e h,r=>by
  obtain rfl:u=Value.ref a:=r;obtain ⟨_,a8,rv,o,ho,hc,m,hd⟩:=(show Yf X.prog X.w H s.heap a (.tup xs) from I.hok a _ e)
  obtain ⟨as,h1,h2⟩:=Rps.reads I h rv;exact ⟨as,.tuple ho hc hd h1,h2⟩
 | _,_,u,.dk (a:=a) (kvs:=kvs) (ds:=ds) e h,r=>by
  obtain rfl:u=Value.ref a:=r;obtain ⟨_,_,vs,m8,o,es,ep,ho,hx,hd,_,hp,_⟩:=(show Yf X.prog X.w H s.heap a (.dK kvs) from I.hok a _ e)
  obtain ⟨hv,hk⟩:=Zu3 m8;obtain ⟨as,h1,h2⟩:=Rps.reads I h hv;have hl:=h.length;rw [List.length_map] at hl;have e1:((kvs.map fun p=>kD p.1).zip ds).map Prod.fst=kvs.map fun p=>kD p.1:=List.map_fst_zip (by rw [List.length_map];lia)
  have e2:((kvs.map fun p=>kD p.1).zip ds).map Prod.snd=ds:=List.map_snd_zip (by rw [List.length_map];lia);refine ⟨a ::[]++as,.dict ho hx.1 hd ?_ ?_,fun b hb=>?_⟩
  ·rw [e1,<-hk];exact Zhs hp
  ·rw [e2,Zjv hp];exact h1
  ·rcases List.mem_cons.mp hb with z|z
   ·exact ⟨_,(congrArg H z).trans e⟩
   ·exact h2 b z
theorem Rps.reads(I:Inv X a7 σ H s):∀{ds:List PyData} {vs:List V} {us:List Value},Rps H ds vs->Z5 vs us->∃as,ReadsAll s.heap us ds as/\∀a∈as,∃o,H a=some o
 | _,_,_,.nil,r=>by
  cases r;exact ⟨[],.nil,fun _ z=>nomatch z⟩
 | _,_,_,.cons h t,r=>by
  cases r with
  | cons r rr =>
   obtain ⟨as,h1,h2⟩:=Rp.reads I h r;obtain ⟨bs,h3,h4⟩:=Rps.reads I t rr;exact ⟨as++bs,.cons h1 h3,fun b hb=>(List.mem_append.mp hb).elim (h2 b) (h4 b)⟩
end
def Ztm:List V->Hp->VK->Prop:=fun xs H Q=>∃(a:Addr) (d:PyData),xs=[.ref a]/\Rp H d (.ref a)/\d.showable=true/\d.depth<=60/\d.shown.length<=sizeLine/\Q (.str d.shown) H
end
end L2
end
section
set_option maxHeartbeats 400000
namespace L2
open PySem PySem.Spec PyProof.Rows
theorem Zjj{X:Cx}(hk:∃mm,X.base.Ns sysModules mm)(hg:X.A.guards=some [])(hu:X.A.units+64<cLine):Xe X (.builtin "repr") Ztm:=by
 intro a7 s σ H xs us Q I r h;obtain ⟨a,d,rfl,hp,hs,hd,hz,q⟩:=h;obtain ⟨u,rfl,rx⟩:=Za0 r;cases rx;obtain ⟨as,h1,h2⟩:=hp.reads I (u:=.ref a) rfl;refine repr_of_reads' h1 hs (fun _ hm=>?_) hg (by lia) (fun _ _ e=>e) (fun h' u tk hk=>?_) hz
 ·obtain ⟨o,e⟩:=h2 _ hm;obtain ⟨mm,ob,es,ep,hk,_⟩:=hk;rw [(I.bs _ _ hk).2] at e;cases e
 ·exact ⟨.str _,H,I.un (h':=h') (t':=tk) (Un.kept hk) (I.hok.kept hk),⟨_,rfl⟩,q⟩
theorem Zqq{P:Program}{w:World}{K:Frag}{mg mb:Str->Option Value}{k:Nat}{fa a:Addr}{fd:FuncData}{x:Str}{s₁:Shared}{vs:List Value}{ns:List Int}{tabs:List (Addr×Array Value)}
  (KX:K.In s₁.heap) (R1:s₁.heap.Ns mainGlobals mg) (hb:s₁.heap.Ns builtinsNs mb) (hbb:∀x:Str,x ≠ "__name__" ->mb x=bootBuiltins x) (hlim:s₁.heap.NoLimit) (hbm:Zv1 mg s₁.heap) (hg:s₁.gens=#[])
  (ha:s₁.heap.get? a=some { cls:=.type "list",data:=.seq vs.toArray }) (hi:IntsAre vs ns) (hl:ns.length<=63) (hr:Xj k callerA) (TO:Zi1 K s₁.heap tabs)
  (hsm:∃mm,s₁.heap.Ns sysModules mm) (F:∀base:Heap,K.In base->base.Ns mainGlobals mg->(∃mm,base.Ns sysModules mm)->Zw P w K mg base CX0 k fa fd [x] (Zjy K tabs)) (hbind:∀(s:Shared) (u:Value),BindsTo s fd ⟨[u],[]⟩ [(x,u)]) :
  codeAny (model P w) callerA (.call (.ref fa) ⟨[.ref a],[]⟩) (fun r s'=>r=.ok (.ret (.bool true))/\OldK s₁.heap s'.heap/\s'.os=s₁.os/\AllBare s'.gens) s₁:=by
 have rv:=Zlb hi;have lenV:=hi.length;have G0:ns.length<=sizeLine:=Nat.le_trans hl (by decide);have S3:∀{b:Addr} {ps:Array Value},tabs.lookup b=some ps->s₁.heap.get? b=some (PySem.W.tabObj #[]):=fun e=>TO.emp _ (Zbz e)
 have core:∀H:Hp,SqL K H a (ns.map V.int)->HOk P w H s₁.heap->(∀b u,H b=some u->(b=a/\K.lookup a=none/\∃o xs,u=.frz o (.lst xs))\/∃ps,tabs.lookup b=some ps/\u=.tbl ps)->(∀p∈tabs,H p.1=some (.tbl p.2)) ->
   codeAny (model P w) callerA (.call (.ref fa) ⟨[.ref a],[]⟩) (fun r s'=>r=.ok (.ret (.bool true))/\OldK s₁.heap s'.heap/\s'.os=s₁.os/\AllBare s'.gens) s₁:=by
  intro H hS hok hA hT;have C1:∀{b:Addr} {o:Obj},s₁.heap.get? b=some o->H b=none->(Zmq s₁.heap H).get? b=some o:=fun e n=>Zta e n
  have noB:∀{b:Addr} {o:Obj},s₁.heap.get? b=some o->(∀vs n,o.data ≠ .seq vs n)->(∀vs,o.data ≠ .fields vs)->H b=none:=fun {b o} e d1 d2=>by
   cases q:H b with
   | none=>rfl
   | some u =>
    rcases hA b u q with ⟨e',_⟩|⟨ps,e',_⟩
    ·subst e';rw [ha] at e;cases e;exact absurd rfl (d1 _ _)
    ·rw [S3 e'] at e;cases e;exact absurd rfl (d2 _)
  have nsK:∀{b:Addr} {m:Str->Option Value},s₁.heap.Ns b m->(Zmq s₁.heap H).Ns b m:=fun {b m} ⟨o,es,ep,e,d,r⟩=>⟨o,es,ep,C1 e (noB e (fun _ _ z=>by rw [d] at z;cases z) (fun _ z=>by rw [d] at z;cases z)),d,r⟩
  have hKb:K.In (Zmq s₁.heap H):=fun b o e=>C1 (KX b o e) (by
   cases q:H b with
   | none=>rfl
   | some u =>
    rcases hA b u q with ⟨e',hK,_⟩|⟨ps,e',_⟩
    ·subst e';rw [hK] at e;cases e
    ·have h1:=KX b o e;rw [S3 e'] at h1;cases h1;have h2:=List.all_eq_true.mp TO.nt _ (PySem.W.mem_of_lookupK e);exact absurd (show false=true from h2) Bool.false_ne_true)
  have hM:Mod K mg (Zmq s₁.heap H):=⟨hKb,nsK R1,⟨mb,nsK hb,hbb⟩,let ⟨mc,h1,h2⟩:=hlim;⟨mc,nsK h1,h2⟩,by
   obtain ⟨bm,ob,b1,b2,b3,b4,b5,b6⟩:=hbm;exact ⟨bm,ob,b1,b2,C1 b3 (noB b3 (fun _ _ z=>by rw [b6] at z;cases z) (fun _ z=>by rw [b6] at z;cases z)),b4,b5,b6⟩⟩
  have e0:Zm1 P w K mg (Zmq s₁.heap H) callerA [] s₁ H:=⟨rfl,hM,fun b o e=>Zvp e,Nat.le_of_eq (Zq7 _ _),trivial,fun b hb=>absurd (show b∈([]:List Addr) from hb) (by simp),hok,.of_eq hg⟩
  refine codeAny_mono ((F _ hKb (nsK R1) (hsm.imp fun _ z=>nsK z)).run callerA [] s₁ H ⟨[.ref a],[]⟩ [.ref a] [.ref a] (fun v _=>v=.bl true) E0 hr e0 (hbind s₁ (.ref a)) (.cons rfl .nil) ⟨a,ns,rfl,hS,hl,hT,fun _=>rfl⟩) fun r s' h=>?_
  cases r with
  | error e=>exact False.elim h
  | ok fl =>
   cases fl with
   | next=>exact False.elim h
   | brk=>exact False.elim h
   | cont=>exact False.elim h
   | ret u =>
    obtain ⟨v,H',os,bare,un,C9,r',q⟩:=h;have q':v=.bl true:=q;subst q';obtain rfl:u=Value.bool true:=r';refine ⟨rfl,⟨fun b o e=>?_,fun b o e=>un.there b o e (by simp)⟩,os,bare⟩;cases q:H b with
    | none=>exact .inl (un.keep b o e q (by intro z;exact absurd (show b∈([]:List Addr) from z) (by simp)) (by simp))
    | some u =>
     rcases hA b u q with ⟨_,_,ob,xs,z⟩|⟨ps,z,z2⟩
     ·subst z;have z2:=un.frzs b ob _ q;obtain ⟨e1,_⟩:=hok b _ q;obtain ⟨e2,_⟩:=C9 b _ z2;rw [e] at e1;cases e1;exact .inl e2
     ·subst z2;obtain ⟨more,y⟩:=un.tbls b ps q;have e':=S3 z;rw [e] at e';cases e';obtain ⟨c,hc⟩:=TO.cod _ (Zbz z);obtain ⟨qs,y1,_⟩:=C9 b _ y;exact .inr (.inl ⟨((PySem.W.codeHd_of_K KX hc).tab e).isCodeTable,rfl,#[],qs,rfl,by rw [y1];simp⟩)
 have tabH:∀p∈tabs,p.1≠a:=fun p hp z=>by
  have:=TO.emp p hp;rw [z,ha] at this;cases this
 have tabO:∀{H:Hp} {b:Addr} {ps:Array Value},tabs.lookup b=some ps->Yf P w H s₁.heap b (.tbl ps):=fun {H b ps} e=>by
  obtain ⟨ls,hq,nd⟩:=TO.shape _ (Zbz e);have hq:ps=Xl ls:=hq;subst hq;exact ⟨_,S3 e,.inr ⟨ls,[],rfl,nd,rfl,fun _ z=>nomatch z⟩⟩
 cases hk:K.lookup a with
 | some o =>
  have e:=KX a o hk;rw [ha] at e;cases e;refine core (fun b=>(tabs.lookup b).map HO.tbl) (.inr ⟨_,vs.toArray,_,hk,rfl,rfl,rfl,by rw [List.size_toArray,lenV];exact G0,by simpa using rv⟩) (fun b u z=>?_) (fun b u z=>?_) fun p hp=>?_
  ·obtain ⟨ps,h1,rfl⟩:=Option.map_eq_some_iff.mp z;exact tabO h1
  ·obtain ⟨ps,h1,rfl⟩:=Option.map_eq_some_iff.mp z;exact .inr ⟨ps,h1,rfl⟩
  ·show (tabs.lookup p.1).map HO.tbl=_;rw [Zec TO.nd hp];rfl
 | none =>
  refine core (fun b=>if b=a then some (.frz { cls:=.type "list",data:=.seq vs.toArray } (.lst (ns.map V.int))) else (tabs.lookup b).map HO.tbl) (.inl (.inr ⟨{ cls:=.type "list",data:=.seq vs.toArray },if_pos rfl⟩)) (fun b u z=>?_) (fun b u z=>?_) fun p hp=>?_
  ·by_cases hb:b=a
   ·have z':=(if_pos hb).symm.trans z;cases z';subst hb;exact ⟨ha,by rw [List.length_map];exact G0,vs,_,rv,ha⟩
   ·have z':=(if_neg hb).symm.trans z;obtain ⟨ps,h1,rfl⟩:=Option.map_eq_some_iff.mp z';exact tabO h1
  ·by_cases hb:b=a
   ·have z':=(if_pos hb).symm.trans z;cases z';exact .inl ⟨hb,hk,_,_,rfl⟩
   ·have z':=(if_neg hb).symm.trans z;obtain ⟨ps,h1,rfl⟩:=Option.map_eq_some_iff.mp z';exact .inr ⟨ps,h1,rfl⟩
  ·show (if p.1=a then _ else _)=_;rw [if_neg (tabH p hp),Zec TO.nd hp];rfl
theorem walk_ofS{l:PySem.W.OpenLaw}{k:Nat}{q:Program}{B6:List Str}{XP:(Str->Option Value)->Heap->Prop}{YP:World->Heap->Prop}{d:DefRec}{K:Params->Frag}{x:Str}
  (hn:l.most=some 63) (hdf:d.params.defaults=[]) (hr:Xj k callerA) (hY:∀(w:World) (h:Heap),YP w h->(K w.params).In h)
  (F:∀(w:World) (mg:Str->Option Value) (fa:Addr) (h:Heap),YP w h->(K w.params).In h->h.Ns mainGlobals mg->mg d.name=some (.ref fa) ->
   ∃(fd:FuncData) (tabs:List (Addr×Array Value)),Zi1 (K w.params) h tabs/\(∀(s:Shared) (u:Value),BindsTo s fd ⟨[u],[]⟩ [(x,u)]) /\
    ∀base:Heap,(K w.params).In base->base.Ns mainGlobals mg->(∃mm,base.Ns sysModules mm)->Zw l.prog w (K w.params) mg base CX0 k fa fd [x] (Zjy (K w.params) tabs)) (hq:importsNone q=true) :
  PySem.W.WalkO q B6 XP YP l.row.toRowW d [] (fun f vs=>PySem.call f vs):=by
 refine Att.attach_call hn hdf fun w s₀ s₁ mg mb fa o pm cd m9 a vs ns G Y ho hd A9 hmg hobj M3 g8 hg=>?_
 have KX:=hY w _ Y;obtain ⟨fd,tabs,TO,hb,hF⟩:=F w mg fa _ Y KX G.T.g hmg;exact Zqq KX G.T.g G.T.b G.T.builtins G.T.nolimit G.T.bmain hg hobj M3 g8 hr TO ((G.T.seer hq).mods.imp fun _ z=>z.1) hF hb
end L2
end
section
set_option maxHeartbeats 400000
namespace L2
open PySem PySem.Spec PyProof.Rows
def Zms(P:Program)(w:World)(K:Frag)(mg:Str->Option Value)(base:Heap)(k:Nat)(f:Addr)(H:Hp)(Q:VK)(E:XK):Prop :=
 ∀(A:Around) (outer:List Env) (s:Shared),Xj k A->Zm1 P w K mg base A outer s H->codeAny (model P w) A (.call (.ref f) ⟨[],[]⟩) (CR (CXF P w) outer P w H s Q E) s
def Zwl(P:Program)(w:World)(K:Frag)(mg:Str->Option Value)(base:Heap)(k:Nat)(E:XK)(te:TE):TE:=fun σ H Q=>te σ H fun x H1=>∃f,x=.ref f/\FnO H1 f/\Zms P w K mg base k f H1 Q E
theorem Zts{X:Cx}{k:Nat}{x:Str}{p pos:Pos}{te:TE}{E:XK}(hr:Xj k X.A)(hv:PE X (.Name x p) te)(hx:Zay (CXF X.prog X.w) X E):PE X (.Call (.Name x p) [] [] pos) (Zwl X.prog X.w X.K X.mg X.base k E te):=by
 intro a7 s σ H Q I h;refine wpAny_Call_Name_kw (thn (hv a7 s σ H _ I h) fun u s1 ⟨y,H1,I1,ry,f,ey,hf,q1⟩=>?_);subst ey;obtain rfl:u=Value.ref f:=ry;refine PySem.W.callWith_F0 (hf.at I1) (wpAny_call (codeAny_mono (q1 X.A X.stack s1 hr I1.env0) fun r s' hq=>?_));cases r with
 | error e=>exact hx a7 σ H1 s1 e s' I1 hq
 | ok fl =>
  cases fl with
  | ret u=>exact I1.after hq
  | next=>exact False.elim hq
  | brk=>exact False.elim hq
  | cont=>exact False.elim hq
section
variable {X:Cx} {a7:List (Addr×Obj)} {σ:St} {H':Hp} {s1:Shared} {h' B:Heap} {ea:Addr} {cls a0:Value} {dx:Option Addr} {E:XK}
theorem Ztz(frL:frs X.stack=X.s₀.heap.objs.size ::frs X.outer)(hl:X.env.locals=X.s₀.heap.objs.size)(R7:X.ex=[])(I:Inv X a7 σ H' s1)
  (fl:Zbn B X.outer ea cls a0 dx .none h') (up:s1.heap.UpToSlots h') (pB:∀b o,s1.heap.get? b=some o->((∃o',X.s₀.heap.get? b=some o')\/H' b≠none)->b∉frs X.stack->B.get? b=some o)
  (hE:E cls dx H'):CXF X.prog X.w X.outer X.H₀ X.s₀ E (.ref ea) { s1 with heap:=h' }:=by
 have stay:∀b o,s1.heap.get? b=some o->((∃o',X.s₀.heap.get? b=some o')\/H' b≠none)->b∉frs X.stack->h'.get? b=some o:=fun b o h1 h2 h3=>fl.1 b o (pB b o h1 h2 h3)
 have C0:∀b,((∃o',X.s₀.heap.get? b=some o')\/H' b≠none)->b∉frs X.outer->b∉frs X.stack:=fun b h1 h2 h3=>by
  rw [frL] at h3;rcases List.mem_cons.mp h3 with e|e
  ·rcases h1 with ⟨o',h1⟩|h1
   ·rw [e] at h1;exact absurd (Heap.lt_size h1) (Nat.lt_irrefl _)
   ·rw [e,<-hl] at h1;exact h1 I.free
  ·exact h2 e
 have trk:∀b,H' b≠none->b∉frs X.outer:=fun b h1 h2=>h1 (I.stkFree b (by rw [frL];exact List.mem_cons_of_mem _ h2))
 have fr1:∀b,b∈frs X.outer->∃o,s1.heap.get? b=some o/\∀vs,o.data ≠ .fields vs:=fun b hb=>(I.stack.mem (by show b∈frs X.stack;rw [frL];exact List.mem_cons_of_mem _ hb)).2
 have C8:Un (frs X.outer) [] X.H₀ H' X.s₀.heap s1.heap:=by have:=I.base;rw [R7] at this;exact this
 refine ⟨ea,cls,dx,H',rfl,I.os,I.bare,⟨fun b o h1 h2 h3 h4=>?_,fun b o h1 h2 h3 h4=>?_,C8.free,fun b o h1 h4=>?_,C8.tups,C8.frzs,C8.tbls⟩,fun a o ha=>?_,⟨a0,B,fl,fun b o h1 h2 h3=>?_⟩,hE⟩
 ·exact stay b o (C8.keep b o h1 h2 h3 h4) (.inl ⟨_,h1⟩) (C0 b (.inl ⟨_,h1⟩) h3)
 ·obtain ⟨sl,h5⟩:=C8.slot b o h1 h2 h3 h4;obtain ⟨o1,h6,h7⟩:=fr1 b h3;rw [h5] at h6;cases h6;obtain ⟨L3,h8⟩:=up b _ h5 h7;exact ⟨L3,h8⟩
 ·obtain ⟨o1,h5⟩:=C8.there b o h1 h4
  by_cases hb:b∈frs X.outer
  ·obtain ⟨o2,h6,h7⟩:=fr1 b hb;obtain ⟨L3,h8⟩:=up b _ h6 h7;exact ⟨_,h8⟩
  ·exact ⟨o1,stay b o1 h5 (.inl ⟨_,h1⟩) (C0 b (.inl ⟨_,h1⟩) hb)⟩
 ·refine (I.hok a o ha).stay (fun b u hb h1=>?_) (fun _ z=>z) (fun _ _ z=>z);have ht:H' b≠none:=by
   rcases hb with e|e
   ·rw [e,ha];exact Option.some_ne_none _
   ·rw [e];exact Option.some_ne_none _
  exact stay b u h1 (.inr ht) (C0 b (.inr ht) (trk b ht))
 ·obtain ⟨o1,h4⟩:∃o1,s1.heap.get? b=some o1:=by
   rcases h2 with ⟨o',h2⟩|h2
   ·exact C8.there b o' h2 (by simp)
   ·cases hq:H' b with
    | none=>exact absurd hq h2
    | some u=>exact (I.hok b u hq).there
  have h5:=pB b o1 h4 h2 (C0 b h2 h3);have h7:h'.get? b=some o:=h1;rw [fl.1 b o1 h5] at h7;cases h7;exact h5
end
section
variable {P:Program} {w:World} {K:Frag} {mg:Str->Option Value} {base:Heap}
def Zju(P:Program)(w:World)(K:Frag)(mg:Str->Option Value)(base:Heap)(N:List Str)(q:Str)(scope:Scope)(f:Addr)(cd:Value)(cells:List (Str×Addr))(A:Around)(outer:List Env)(s:Shared)(H:Hp)(E:XK):Cx :=
 { Zym P w K mg base N q scope f cd cells A outer s H with xe:=fun e s'=>wpAny (model P w) (A.deeper (PySem.W.envX q scope s.heap.objs.size f cd cells)) (leaving (PySem.W.envX q scope s.heap.objs.size f cd cells) e) (fun _ Q8=>CXF P w outer H s E e Q8) (fun e' Q8=>CXF P w outer H s E e' Q8) s' }
theorem Za5{N:List Str}{q:Str}{scope:Scope}{f:Addr}{cd:Value}{cells:List (Str×Addr)}{A:Around}{outer:List Env}{s:Shared}{H:Hp}{E:XK}:Zay (CXF P w) (Zju P w K mg base N q scope f cd cells A outer s H E) E:=by
 intro a7 σ H1 s1 e s' I h;obtain ⟨ea,cls,dx,H',rfl,os,bare,un,hok,⟨a0,B,fl,pB⟩,hE⟩:=h;have I':=I.call' os un hok bare (fun b z=>absurd z (by simp));show wpAny _ _ (leaving _ (.ref ea)) _ _ s';refine Ztr I'.ok.frames rfl fl fun h' fl' up=>?_
 exact Ztz (X:=Zju P w K mg base N q scope f cd cells A outer s H E) rfl rfl rfl I' fl' up (fun b o h1 h2 h3=>pB b o h1 (h2.imp_left fun ⟨o',z⟩=>I.base.there b o' z (by show b∉([]:List Addr);simp)) h3) hE
theorem Znf{H:Hp}{Pt fl:Addr}{q:Str}{la:Arguments}{lb:Expr}{ls:Scope}{clos:List (Str×Addr)}{fs:List Str}{fvs:List V}{k:Nat}{Q:VK}{cx:Value}(C:Clo H Pt fl q la lb ls clos)(L:Lit H ls clos fs fvs)
  (hb:∀(pm a9 w6:Value),bindArgs (PySem.W.kla_fn "<lambda>" q la lb ls clos pm a9 w6) ⟨[],[]⟩=pure []) (u9:∀y∈ls.names,y.2=.free->y.1∈fs) (hnc:∀y∈ls.names,y.2 ≠ .cell)
  (hk:ls.kind=.function) (hco:ls.isCoroutine=false) (hgen:ls.isGenerator=false)
  (body:∀(c:Addr) (oc:Obj) (Pn:Addr) (A:Around) (outer:List Env) (s:Shared),offL H clos c=some (.frz oc (.own Pt))->Zk4 oc c Pn->offL H clos Pn=some (.tbl #[.none])->Xj k (A.deeper (PySem.W.envX q ls s.heap.objs.size fl (.ref c) clos)) ->
   WE (Zju P w K mg base fs q ls fl (.ref c) clos A outer s (offL H clos) (fun cls dx H'=>cls=cx/\dx=none/\Same (offL H clos) H')) lb (fvs.map some) (offL H clos) (fun _ _=>False)):Zms P w K mg base (k+1) fl H Q (fun cls dx H'=>cls=cx/\dx=none/\Same H H'):=by
 intro A outer s hr e0;obtain ⟨pm,w6,c,oc,vs,tt,Pn,h1,h2,h3,h4,h5,h6⟩:=C;have o1:s.heap.get? fl=some (PySem.W.kla_obj "<lambda>" q la lb ls clos pm c w6):=(e0.hok fl _ h1).1;have o2:s.heap.get? c=some oc:=(e0.hok c _ h2).1;have lim:s.heap.NoLimit:=e0.mod.nolimit.keeps fun b o e=>(e0.bs b o e).1
 refine PySem.W.kla_callFunE hr.depth o1 rfl hco hgen rfl ⟨c,oc,vs,tt,rfl,o2,h3,h4⟩ ?_;rw [hb];refine wpAny_pure (wpAny_newFunctionEnv hnc (fun y hy=>nomatch hy) (fun h₁ R1 hsb=>⟨lim.fresh _ hsb,?_⟩) hk);show codeAny _ _ (.expr lb (PySem.W.envX q ls s.heap.objs.size fl (.ref c) clos)) _ _;have hk₁:∀b o,s.heap.get? b=some o->h₁.get? b=some o:=fun b o e=>hsb.extBut b o (Nat.ne_of_lt (Heap.lt_size e)) (Heap.get?_push_of_some _ e)
 have E4:∀{x:Str} {a:Addr},clos.lookup x=some a->(x,a)∈clos:=fun h=>PySem.mem_of_lookup h
 have inC:∀{x:Str} {a:Addr},clos.lookup x=some a->a∈clos.map Prod.snd:=fun h=>List.mem_map.mpr ⟨_,E4 h,rfl⟩
 have isC:∀{b:Addr},b∈clos.map Prod.snd->∃o u,H b=some (Fz o)/\o.data=.cell (some u):=fun {b} z=>by
  obtain ⟨p,hp,e⟩:=List.mem_map.mp z;obtain ⟨v,o,u,z1,z2,_⟩:=L.cell hp;exact ⟨o,u,e ▸ z1,z2⟩
 have offZ:∀{b:Addr} {ob:Obj},H b=some (.frz ob (.own Pt))->offL H clos b=some (.frz ob (.own Pt)):=fun {b ob} z=>by
  rw [Zby]
  ·exact z
  ·intro y;obtain ⟨o3,u3,y1,_⟩:=isC y;rw [z] at y1;cases y1
 have hok0:HOk P w (offL H clos) s.heap:=fun b o e=>by
  have e':=Zrf b o e;refine (e0.hok b o e').stay (fun _ _ _ z=>z) (fun d z=>L.soft z trivial) (fun d xs z=>L.soft z trivial) (fun d ob z=>?_) (fun d ps z=>L.soft z trivial);rw [Zby]
  ·exact z
  ·intro y;obtain ⟨o3,u3,y1,_⟩:=isC y;rw [z] at y1;cases y1
 have J9:∀{b:Addr},H b=none->offL H clos b=none:=fun {b} n=>by
  by_cases z:b∈clos.map Prod.snd
  ·exact Zf8 z
  ·rw [Zby z];exact n
 have nA:∀b:Addr,b∉([]:List Addr):=fun b z=>nomatch z
 have I:Inv (Zju P w K mg base fs q ls fl (.ref c) clos A outer s (offL H clos) (fun cls dx H'=>cls=cx/\dx=none/\Same (offL H clos) H')) [] (fvs.map some) (offL H clos) { s with heap:=h₁,toks:=s.toks+([]:List (Str×Value)).length }:=by
  refine ⟨⟨e0.mod,hk,rfl,rfl,Nat.le_refl _,fun y z a h1 h2=>?_,fun y hy=>?_,fun y a z _=>(Bool.false_ne_true z).elim,fun _=>hr.hd,Around.frames_deeper e0.frames,.inr ⟨rfl,rfl⟩,fun b z=>absurd z (nA b),fun b o e=>⟨(e0.bs b o e).1,J9 (e0.bs b o e).2⟩,e0.bsz,fun b _ _=>nA b,fun b z=>absurd z (nA b),e0.funs,fun b z=>J9 (e0.frf b z)⟩,
   rfl,e0.bare,Un.kept hk₁,⟨_,R1,fun i y v h1 h2 h3=>?_⟩,fun y a z=>?_,J9 (e0.hok.fresh (Nat.le_refl _)),fun y a z=>Zf8 (inC z),(fun p hp=>nomatch hp),hok0.kept hk₁,?_⟩
  ·exact Zkr L.apart (E4 h1) (E4 h2)
  ·have hy:ls.names.lookup y=some .cell\/ls.names.lookup y=some .free:=hy;rcases hy with hy|hy
   ·exact absurd rfl (hnc _ (PySem.mem_of_lookup hy))
   ·obtain ⟨i,hi,e⟩:=List.getElem_of_mem (u9 _ (PySem.mem_of_lookup hy) rfl);obtain ⟨v,_,_,a,z1,_⟩:=Paired.get L.cells (i:=i) (a:=y) (by rw [List.getElem?_eq_getElem hi,e]);exact ⟨a,z1⟩
  ·have h1:fs[i]? =some y:=h1;have h2:(fvs.map some)[i]? =some (some v):=h2;rw [List.getElem?_map] at h2;obtain ⟨v',h5,h6⟩:=Option.map_eq_some_iff.mp h2;cases h6;obtain ⟨v2,z0,z1,a,z2,o,uu,z3,z4,z5⟩:=Paired.get L.cells h1;rw [h5] at z0;cases z0;exact ⟨uu,z5,.inr ⟨.inr z1,a,z2,o,hk₁ _ _ (e0.hok a _ z3).1,z4⟩⟩
  ·obtain ⟨o,uu,z1,z2⟩:=isC (inC z);exact ⟨_,o,hk₁ _ _ (e0.hok a _ z1).1,z2⟩
  ·show (fvs.map some).length=fs.length;rw [List.length_map,Paired.length L.cells]
 have conv:∀{e:Value} {s':Shared},CXF P w outer (offL H clos) s (fun cls dx H'=>cls=cx/\dx=none/\Same (offL H clos) H') e s'->CXF P w outer H s (fun cls dx H'=>cls=cx/\dx=none/\Same H H') e s':=fun {e s'} ⟨ea,cls,dx,H',e1,os,bare,JB,hok,⟨a0,B,fl,pB⟩,e2,e3,sm⟩=>by
  have there:∀{b:Addr},b∈clos.map Prod.snd->∃o,s.heap.get? b=some o:=fun {b} z=>by
   obtain ⟨o,uu,z1,_⟩:=isC z;exact ⟨_,(e0.hok b _ z1).1⟩
  have cellH:∀{b:Addr},b∈clos.map Prod.snd->H' b=none:=fun {b} z=>by
   obtain ⟨o,ho⟩:=there z;exact JB.free b o ho (Zf8 z) (by simp)
  have nin:∀{b:Addr} {o:HO},H' b=some o->b∉clos.map Prod.snd:=fun {b o} e z=>by rw [cellH z] at e;cases e
  have bk:∀{b:Addr} {o:HO},H' b=some o->Zgo H H' clos b=some o:=fun {b o} e=>by unfold Zgo;rw [if_neg (nin e)];exact e
  have nofs:∀{b:Addr},b∈clos.map Prod.snd->b∉frs outer:=fun {b} z y=>by
   obtain ⟨o,uu,z1,_⟩:=isC z;rw [e0.frf b y] at z1;cases z1
  refine ⟨ea,cls,dx,Zgo H H' clos,e1,os,bare,⟨fun b o h1 n hb _=>JB.keep b o h1 (J9 n) hb (by simp),fun b o h1 n hb _=>JB.slot b o h1 (J9 n) hb (by simp),fun b o h1 n _=>?_,fun b o h1 _=>JB.there b o h1 (by simp),fun b xs e=>bk (JB.tups b xs (L.soft e trivial)),fun b ob x e=>?_,fun b ps e=>?_⟩,fun b o e=>?_,⟨a0,B,fl,fun b o z1 z2 z3=>pB b o z1 ?_ z3⟩,e2,e3,fun b o e=>?_⟩
  ·unfold Zgo;rw [if_neg fun z=>by obtain ⟨o,uu,z1,_⟩:=isC z;rw [n] at z1;cases z1];exact JB.free b o h1 (J9 n) (by simp)
  ·by_cases z:b∈clos.map Prod.snd
   ·unfold Zgo;rw [if_pos z];exact e
   ·exact bk (JB.frzs b ob x (by rw [Zby z];exact e))
  ·obtain ⟨m,z⟩:=JB.tbls b ps (L.soft e trivial);exact ⟨m,bk z⟩
  ·by_cases z:b∈clos.map Prod.snd
   ·unfold Zgo at e;rw [if_pos z] at e;obtain ⟨o3,uu,z1,z2⟩:=isC z;rw [e] at z1;cases z1;have z3:=(e0.hok b _ e).1;have z4:=JB.keep b o3 z3 (Zf8 z) (nofs z) (by simp);exact ⟨z4,z4,_,z4⟩
   ·have e':=e;unfold Zgo at e';rw [if_neg z] at e';exact (hok b o e').stay (fun _ _ _ y=>y) (fun d y=>bk y) (fun d xs y=>bk y) (fun d ob y=>bk y) (fun d ob y=>bk y)
  ·by_cases y:b∈clos.map Prod.snd
   ·exact .inl (there y)
   ·refine z2.imp_right fun n=>?_
    unfold Zgo at n;rw [if_neg y] at n;exact n
  ·by_cases z:b∈clos.map Prod.snd
   ·unfold Zgo;rw [if_pos z];exact e
   ·exact bk (sm b o (by rw [Zby z];exact e))
 refine PySem.W.kla_codeExpr (wpAny_mono ((body c oc Pn A outer s (offZ h2) h6 (L.soft h5 trivial) (hr.deeper _)).run [] _ I) (fun v s' hs=>?_) fun e s' hs=>wpAny_mono hs (fun _ Q8 z=>conv z) fun e' Q8 z=>conv z);obtain ⟨_,_,_,_,z⟩:=hs;exact z.elim
end
section
variable {X:Cx}
def Zxh(c:Addr):TE:=fun _ H Q=>∃oc u Pn,H c=some (.frz oc u)/\Zk4 oc c Pn/\H Pn=some (.tbl #[.none])/\∀fl,Q (.ref fl) H
theorem Zga{a b:Int}{t u:Nat}{x:Value}:∀{l:List Value},TriplesOk l->TriplesOk (l++[.int a t,.int b u,x])
 | [],_=>trivial
 | [_],h=>by simp [TriplesOk] at h
 | [_,_],h=>by simp [TriplesOk] at h
 | p ::q ::r ::l,h=>by
  cases p <;>try exact h.elim
  cases q <;>try exact h.elim
  exact Zga (l:=l) h
theorem Zsx{la:Arguments}{lb:Expr}{ls:Scope}{lp:Pos}{c:Addr}{clos:List (Str×Addr)}(A1:X.env.code=.ref c)(O8:defaultsOf la X.env=([],[]):=by rfl)(p7:closureFor ls X.env=pure clos:=by rfl):PE X (.Lambda la lb ls lp) (Zxh c):=by
 intro a7 s σ H Q I ⟨oc,u,Pn,h1,h2,hH,q⟩;refine PySem.W.kla_eval O8 ?_;obtain ⟨qs,hT,eT⟩:=(show Yf X.prog X.w H s.heap Pn (.tbl #[.none]) from I.hok Pn _ hH)
 have ht:TriplesOk qs.toList:=by
  rcases eT with ⟨_,e⟩|⟨ls,fs,e,_⟩
  ·exact e
  ·exact absurd e.symm Zpl
 clear eT;have CH:PySem.W.CodeHd s.heap c Pn:=h2 _ (I.hok c _ h1).1;have hg:s.heap.Ns mainGlobals X.mg:=I.mod.glob.keeps I.bk;have nP:∀b,H b=none->b≠Pn:=fun b n z=>by rw [z,hH] at n;cases n
 have hB:s.heap.BuiltinsAt X.mg Pn:=by
  obtain ⟨bm,ob,b1,b2,b3,b4,b5,b6⟩:=I.mod.bm;obtain ⟨b3',hn⟩:=I.bs _ _ b3;refine ⟨bm,ob,b1,b2,fun z=>?_,nP bm hn,b3',b4,b5,b6⟩;obtain ⟨o,es,ep,e,d,_⟩:=hg;rw [<-z,b3'] at e;cases e;rw [b6] at d;cases d
 have hgP:mainGlobals≠Pn:=by
  obtain ⟨o,es,ep,e,d,_⟩:=I.mod.glob;exact nP _ (I.bs _ _ e).2
 have go:∀(g:Heap) (tk:Nat),Heap.ExtBut Pn s.heap g->(∃qs',g.get? Pn=some { cls:=.none,data:=.fields qs' }/\TriplesOk qs'.toList)->∀ob:Obj,Inv X a7 σ H { s with heap:=g.push ob,toks:=tk }:=fun g tk hx ⟨qs',z1,z2⟩ ob=>by
  have kp:∀b o,b≠Pn->s.heap.get? b=some o->(g.push ob).get? b=some o:=fun b o n e=>Heap.get?_push_of_some _ (hx b o n e)
  refine I.step (g':=s.gens) (d':=s.drawn) (ch:=[]) (fun _ z=>nomatch z) (fun b o _ _ _ e n=>kp b o (nP b n) e) (fun b o _ _ _ e n=>⟨o.slots,kp b o (nP b n) e⟩) (fun b o _ e n=>n) (fun b o _ e=>?_) (fun b xs e=>e) (fun b o u e=>e) (fun b ps e=>⟨#[],by rw [e];simp⟩) (fun m hm=>?_) (fun b u e=>?_) I.bare
  ·by_cases hb:b=Pn
   ·exact ⟨_,by rw [hb];exact Heap.get?_push_of_some _ z1⟩
   ·exact ⟨o,kp b o hb e⟩
  ·obtain ⟨o,es,ep,e,r⟩:=hm;exact ⟨o,es,ep,kp _ o (nP _ I.free) e,r⟩
  ·by_cases h3:b=Pn
   ·subst h3;rw [hH] at e;cases e;exact ⟨_,Heap.get?_push_of_some _ z1,.inl ⟨rfl,z2⟩⟩
   ·refine (I.hok b u e).stay (fun d v hd q=>kp d v ?_ q) (fun _ q=>q) (fun _ _ q=>q);rcases hd with z|z
    ·rw [z];exact h3
    ·exact fun y=>by rw [y,hH] at z;cases z
 cases hca:codeAmong lp qs.toList with
 | none=>exact PySem.W.kla_makeFunction p7 I.ok.glob hg A1 CH hT ht hca hgP hB fun c' w6 h' tk hx hge d5 hrec P5=>⟨.ref _,H,go h' tk hx ⟨_,P5,by rw [Array.toList_append];exact Zga ht⟩ _,rfl,q _⟩
 | some cv=>exact PySem.W.kla_makeFunctionHit p7 I.ok.glob hg A1 CH hT ht hca hB fun w6 h' tk hk hsz=>⟨.ref _,H,go h' tk (fun b o _ e=>hk b o e) ⟨qs,hk _ _ hT,ht⟩ _,rfl,q _⟩
end
end L2
end
section
set_option maxHeartbeats 400000
namespace L2
open PySem PySem.Spec PyProof.Rows
def Zud:V->List V->Hp->VK->Prop:=fun x vs H Q=>∃(l:Addr) (bs:List Bool) (b:Bool) (j:Nat),x=.ref l/\vs=[.bl b]/\H l=some (.lst (bs.map V.bl))/\j<1000/\bs[j]? =some b/\(∀i,i<j->bs[i]? ≠ some b)/\Q (.int (j:Nat)) H
theorem Zrr{X:Cx}:MtR X "list.index" Zud:=by
 intro a7 s σ H x vs v us Q I rx rv h;obtain ⟨l,bs,b,j,rfl,rfl,hH,hj,h1,h2,q⟩:=h;cases rx;obtain ⟨u,rfl,ru⟩:=rv.one;cases ru;obtain ⟨z,a8,n,r,hl,e⟩:=I.lstM hH;obtain rfl:=Zo4 r;obtain ⟨t9,hjb⟩:=List.getElem?_eq_some_iff.mp h1;refine call_meets F.slot_list_index ⟨_,e,rfl⟩ F.entry_list_index (F.args_list_index_2 _ _) (SeqAt.list_indexAt l _ n _ _ (.bool b) (isB b) j (by simpa using t9) (by lia) ?_ fun m hm hmj=>?_) ⟨e,fun y hy=>?_,⟨.int _,H,I.tok _,⟨_,rfl⟩,q⟩⟩
 ·simp [isB,hjb]
 ·have hm:m<bs.length:=by simpa using hm
  have:=h2 m hmj;rw [List.getElem?_eq_getElem hm] at this;simpa [isB] using this
 ·have hy:y∈bs.map Value.bool:=by simpa using hy
  obtain ⟨c,_,rfl⟩:=List.mem_map.mp hy;exact SeqAt.EqAt.bool_bool c b
end L2
end
section
namespace YM
open PySem L2 NM
def Ze9(c k:Int):Int:=((c+7919 * k) * 48271%2147483647) * ((c+7919 * k) * 48271%2147483647+2 * k+1)%2147483629
theorem Zsc(c k:Int):0<=Ze9 c k:=Int.emod_nonneg _ (by decide)
theorem Zsw(c k:Int):Ze9 c k<2147483629:=Int.emod_lt_of_pos _ (by decide)
def Zdi(ns:List Int)(k:Nat):Int:=match ns[k]? with
 | some c=>Ze9 c k
 | none=>0
abbrev Zc:=Str×Str
def Ym(k:Str):List Str:=if k = "points" then ["stem", "left", "right"] else if k = "cross" then ["a", "b", "c", "d"] else if k = "plain" then ["a", "b"] else ["a"]
def Zcw(i:Int):Nat:=Zdy.getD i.toNat 0
def Zg6(k:Nat):Str:=toString (k:Int)
def Yl(kind:Str)(c:Int)(k:Nat):Str:=if c%3=0 then ⟨#[kind.cps.toList.getD 0 0]⟩++Zg6 k else (⟨#[Zcw (c / 3%26)]⟩++⟨#[Zcw (c / 78%26)]⟩)++Zf5 "0" (c / 2028%3).toNat++Zg6 k
theorem Zfy:∀k,k<100->(Zg6 k).length<=2:=by trivial
theorem Zmc{k:Nat}(h:k<100):(k:Int).natAbs.log2<1920:=by
 rw [Int.natAbs_natCast];refine Nat.lt_of_le_of_lt (Nat.log2_le_self k) (by lia)
def Zfc(a c:Nat):Nat:=if 48<=c/\c<=57 then a * 10+(c-48) else 0
def Zhx(s:Str):Nat:=s.cps.toList.foldl Zfc 0
theorem Zmj:∀k,k<100->Zhx (Zg6 k)=k:=by trivial
theorem Zf9:∀k,k<100->0<(Zg6 k).length:=by trivial
theorem Zti:∀m,m<3->(Zf5 "0" m).cps.toList.foldl Zfc 0=0:=by trivial
theorem Zsl:∀m,m<3->(Zf5 "0" m).length=m:=by trivial
theorem Zvh:∀i,i<26->97<=Zdy.getD i 0/\Zdy.getD i 0<=122:=by trivial
theorem Zla{i:Int}(h0:0<=i)(h1:i<26):97<=Zcw i/\Zcw i<=122:=Zvh i.toNat (by lia)
theorem Zag(x y:Str):(x++y).cps.toList=x.cps.toList++y.cps.toList:=PySem.W.KT.app_list x y
theorem Zbj{kind:Str}{c:Int}{k:Nat}(hk:57<kind.cps.toList.getD 0 0)(h:k<100):Zhx (Yl kind c k)=k:=by
 have hbig:∀a c,57<c->Zfc a c=0:=fun a c h=>by unfold Zfc;rw [if_neg (by lia)]
 unfold Yl;split
 ·unfold Zhx;rw [Zag,List.foldl_append];show List.foldl Zfc (Zfc 0 (kind.cps.toList.getD 0 0)) _=k;rw [hbig _ _ hk];exact Zmj k h
 ·have a0:=Int.emod_nonneg (c / 3) (show (26:Int)≠0 by decide);have a1:=Int.emod_lt_of_pos (c / 3) (show (0:Int)<26 by decide);have b0:=Int.emod_nonneg (c / 78) (show (26:Int)≠0 by decide);have b1:=Int.emod_lt_of_pos (c / 78) (show (0:Int)<26 by decide);have z0:=Int.emod_nonneg (c / 2028) (show (3:Int)≠0 by decide);have z1:=Int.emod_lt_of_pos (c / 2028) (show (0:Int)<3 by decide);unfold Zhx;rw [Zag,Zag,Zag,List.foldl_append,List.foldl_append,List.foldl_append];show List.foldl Zfc (List.foldl Zfc (Zfc (Zfc 0 (Zcw (c / 3%26))) (Zcw (c / 78%26))) _) _=k;rw [hbig _ (Zcw (c / 78%26)) (by have:=Zla b0 b1;lia),Zti _ (by lia)];exact Zmj k h
theorem Za4{kind:Str}{c:Int}{k:Nat}(h:k<100):2<=(Yl kind c k).length:=by
 have:=Zf9 k h;unfold Yl;split
 ·rw [PySem.Str.length_append];show 2<=1+_;lia
 ·rw [PySem.Str.length_append,PySem.Str.length_append,PySem.Str.length_append];show 2<=1+1+_+_;lia
theorem Zrk{kind:Str}{c:Int}{k:Nat}(h:k<100):(Yl kind c k).length<=6:=by
 have:=Zfy k h;unfold Yl;split
 ·rw [PySem.Str.length_append];show 1+_<=6;lia
 ·have z0:=Int.emod_nonneg (c / 2028) (show (3:Int)≠0 by decide);have z1:=Int.emod_lt_of_pos (c / 2028) (show (0:Int)<3 by decide);rw [PySem.Str.length_append,PySem.Str.length_append,PySem.Str.length_append,Zsl _ (by lia)];show 1+1+_+_<=6;lia
def Yy(ps:List Zc):List Zc:=ps.flatMap fun p=>(Ym p.1).map fun e=>(p.2,e)
def Xc(js:List (Zc×Zc)):List Zc:=js.flatMap fun j=>[j.1,j.2]
theorem Zfg(a b:List Zc):Yy (a++b)=Yy a++Yy b:=List.flatMap_append ..
theorem Zcn(a b:List (Zc×Zc)):Xc (a++b)=Xc a++Xc b:=List.flatMap_append ..
def Ww:List Str:=["plain", "points", "cross", "gate", "stop"]
structure Net(ps:List Zc)(js:List (Zc×Zc))(opn:List Zc):Prop where
 perm:(Xc js++opn).Perm (Yy ps)
 nd:(ps.map Prod.snd).Nodup
 apart:∀j∈js,j.1.1≠j.2.1
 kind:∀p∈ps,p.1∈Ww
inductive Wq(n1 n2 n3 n4:Str):List Zc->List (Zc×Zc)->Zc->Zc->Prop
 | plain (a b:Str) (h:(a,b)∈[(("a" :Str),("b" :Str)),("b", "a")]):Wq n1 n2 n3 n4 [("plain",n1)] [] (n1,a) (n1,b)
 | loop (a b:Str) (h:(a,b)∈[(("left" :Str),("right" :Str)),("right", "left")]):Wq n1 n2 n3 n4 [("points",n1),("plain",n2),("plain",n3),("points",n4)] [((n1, "left"),(n2, "a")),((n1, "right"),(n3, "a")),((n2, "b"),(n4,a)),((n4,b),(n3, "b"))] (n1, "stem") (n4, "stem")
 | siding (x a b k:Str) (h:[x,a,b].Perm ["stem", "left", "right"]) (hk:k∈[("stop" :Str), "gate"]):Wq n1 n2 n3 n4 [("points",n1),("plain",n2),(k,n3)] [((n1,x),(n2, "b")),((n2, "a"),(n3, "a"))] (n1,a) (n1,b)
 | cross (k:Str) (hk:k∈[("gate" :Str), "stop"]):Wq n1 n2 n3 n4 [("cross",n1),("gate",n2),(k,n3)] [((n1, "c"),(n2, "a")),((n3, "a"),(n1, "d"))] (n1, "a") (n1, "b")
theorem Zin{α:Type}{d:α}{l m:List α}(is:List Nat)(h:is.Perm (List.range m.length))(e:l=is.map fun i=>m.getD i d):l.Perm m:=by
 have h2:((List.range m.length).map fun i=>m.getD i d)=m:=by
  apply List.ext_getElem
  ·simp
  ·intro i h1 h3;simp [List.getD_eq_getElem?_getD,h3]
 rw [e];exact (h.map _).trans (by rw [h2])
theorem Wq.sub{n1 n2 n3 n4:Str}{ps:List Zc}{js:List (Zc×Zc)}{a b:Zc}(h:Wq n1 n2 n3 n4 ps js a b):(ps.map Prod.snd).Sublist [n1,n2,n3,n4]:=by
 cases h with
 | plain=>exact .cons_cons _ (List.nil_sublist _)
 | loop=>exact List.Sublist.refl _
 | siding=>exact .cons_cons _ (.cons_cons _ (.cons_cons _ (List.nil_sublist _)))
 | cross=>exact .cons_cons _ (.cons_cons _ (.cons_cons _ (List.nil_sublist _)))
theorem Zev{k:Str} (hk:k = "gate" \/k = "stop"):Ym k=[("a" :Str)]:=by rcases hk with rfl|rfl <;>decide +kernel
theorem Zhj:Ym "points" =[("stem" :Str), "left", "right"]:=by trivial
theorem Zdr:Ym "plain" =[("a" :Str), "b"]:=by trivial
theorem Zo8:Ym "cross" =[("a" :Str), "b", "c", "d"]:=by trivial
theorem Wq.perm{n1 n2 n3 n4:Str}{ps:List Zc}{js:List (Zc×Zc)}{a b:Zc}(h:Wq n1 n2 n3 n4 ps js a b):(Xc js++[a,b]).Perm (Yy ps):=by
 cases h with
 | plain a b h =>
  simp only [List.mem_cons,List.mem_nil_iff,or_false,Prod.mk.injEq] at h;rcases h with ⟨rfl,rfl⟩|⟨rfl,rfl⟩
  ·simp [Xc,Yy,Zdr]
  ·simp only [Xc,Yy,Zdr,List.flatMap_nil,List.flatMap_cons,List.map_cons,List.map_nil,List.nil_append,List.append_nil];exact List.Perm.swap _ _ _
 | loop a b h =>
  have he:Yy [("points",n1),("plain",n2),("plain",n3),("points",n4)]=([(n1, "stem"),(n1, "left"),(n1, "right"),(n2, "a"),(n2, "b"),(n3, "a"),(n3, "b"),(n4, "stem"),(n4, "left"),(n4, "right")]:List Zc):=by simp [Yy,Zhj,Zdr]
  rw [he];simp only [List.mem_cons,List.mem_nil_iff,or_false,Prod.mk.injEq] at h;rcases h with ⟨rfl,rfl⟩|⟨rfl,rfl⟩
  ·exact Zin (d:=(n1,n1)) [1,3,2,5,4,8,9,6,0,7] (show List.Perm _ (List.range 10) by decide) rfl
  ·exact Zin (d:=(n1,n1)) [1,3,2,5,4,9,8,6,0,7] (show List.Perm _ (List.range 10) by decide) rfl
 | siding x a b k h hk =>
  have hk':k = "gate" \/k = "stop" :=by
   simp only [List.mem_cons,List.mem_nil_iff,or_false] at hk;exact hk.symm
  have he:Yy [("points",n1),("plain",n2),(k,n3)]=([("stem" :Str), "left", "right"].map fun e=>(n1,e))++([(n2, "a"),(n2, "b"),(n3, "a")]:List Zc):=by simp [Yy,Zhj,Zdr,Zev hk']
  rw [he];refine List.Perm.trans ?_ (List.Perm.append_right _ (h.map fun e=>(n1,e)));exact Zin (d:=(n1,n1)) [0,4,3,5,1,2] (show List.Perm _ (List.range 6) by decide) rfl
 | cross k hk =>
  have hk':k = "gate" \/k = "stop" :=by
   simp only [List.mem_cons,List.mem_nil_iff,or_false] at hk;exact hk
  have he:Yy [("cross",n1),("gate",n2),(k,n3)]=([(n1, "a"),(n1, "b"),(n1, "c"),(n1, "d"),(n2, "a"),(n3, "a")]:List Zc):=by simp [Yy,Zo8,Zev hk',Zev (k := "gate") (.inl rfl)]
  rw [he];exact Zin (d:=(n1,n1)) [2,4,5,3,0,1] (show List.Perm _ (List.range 6) by decide) rfl
theorem Wq.kind{n1 n2 n3 n4:Str}{ps:List Zc}{js:List (Zc×Zc)}{a b:Zc}(h:Wq n1 n2 n3 n4 ps js a b):∀p∈ps,p.1∈Ww:=by
 cases h with
 | plain=>intro p hp;simp at hp;subst hp;simp [Ww]
 | loop=>intro p hp;simp at hp;rcases hp with rfl|rfl|rfl|rfl <;>simp [Ww]
 | siding x a b k h hk=>intro p hp;simp at hp hk;rcases hp with rfl|rfl|rfl <;>rcases hk with rfl|rfl <;>simp [Ww]
 | cross k hk=>intro p hp;simp at hp hk;rcases hp with rfl|rfl|rfl <;>rcases hk with rfl|rfl <;>simp [Ww]
theorem Wq.apart{n1 n2 n3 n4:Str}{ps:List Zc}{js:List (Zc×Zc)}{a b:Zc}(h:Wq n1 n2 n3 n4 ps js a b)(nd:[n1,n2,n3,n4].Nodup):∀j∈js,j.1.1≠j.2.1:=by
 simp only [List.nodup_cons,List.mem_cons,List.mem_nil_iff,or_false,not_or,List.not_mem_nil,not_false_eq_true,List.nodup_nil,and_true] at nd;obtain ⟨⟨a1,a2,a3⟩,⟨b1,b2⟩,c1⟩:=nd;cases h with
 | plain=>intro j hj;cases hj
 | loop=>intro j hj;simp at hj;rcases hj with rfl|rfl|rfl|rfl <;>first|assumption|exact Ne.symm (by assumption)
 | siding x a b k h hk=>intro j hj;simp at hj;rcases hj with rfl|rfl <;>first|assumption|exact Ne.symm (by assumption)
 | cross k hk=>intro j hj;simp at hj;rcases hj with rfl|rfl <;>first|assumption|exact Ne.symm (by assumption)
theorem Wq.opens{n1 n2 n3 n4:Str}{ps:List Zc}{js:List (Zc×Zc)}{a b:Zc}(h:Wq n1 n2 n3 n4 ps js a b):a.1∈ps.map Prod.snd/\b.1∈ps.map Prod.snd:=by
 cases h <;>simp
theorem Zea{ps:List Zc}{e:Zc}(h:e∈Yy ps):e.1∈ps.map Prod.snd:=by
 obtain ⟨p,hp,he⟩:=List.mem_flatMap.mp h;obtain ⟨x,_,rfl⟩:=List.mem_map.mp he;exact List.mem_map.mpr ⟨p,hp,rfl⟩
theorem Net.more{ps:List Zc}{js:List (Zc×Zc)}{e:Zc}{n1 n2 n3 n4:Str}{qs:List Zc}{ks:List (Zc×Zc)}{a b:Zc}(h:Net ps js [e])(B:Wq n1 n2 n3 n4 qs ks a b)(nd:[n1,n2,n3,n4].Nodup)(new:∀n∈[n1,n2,n3,n4],n∉ps.map Prod.snd):Net (ps++qs) (js++ks++[(e,a)]) [b]:=by
 have he:e.1∈ps.map Prod.snd:=Zea (h.perm.subset (by simp));have ha:a.1∉ps.map Prod.snd:=new _ (B.sub.subset B.opens.1);refine ⟨?_,?_,?_,?_⟩
 ·rw [Zcn,Zcn,Zfg];refine List.Perm.trans ?_ (h.perm.append B.perm);show (Xc js++Xc ks++[e,a]++[b]).Perm ((Xc js++[e])++(Xc ks++[a,b]));rw [List.append_assoc,List.append_assoc,List.append_assoc];refine List.Perm.append_left _ ?_;show (Xc ks++([e]++[a,b])).Perm ([e]++(Xc ks++[a,b]));rw [<-List.append_assoc,<-List.append_assoc];exact List.Perm.append_right _ List.perm_append_comm
 ·rw [List.map_append,List.nodup_append];exact ⟨h.nd,List.Pairwise.sublist B.sub nd,fun x hx y hy z=>new y (B.sub.subset hy) (z ▸ hx)⟩
 ·intro j hj;rw [List.mem_append,List.mem_append] at hj;rcases hj with (z|z)|z
  ·exact h.apart j z
  ·exact B.apart nd j z
  ·simp at z;subst z;exact fun y=>ha (y ▸ he)
 ·intro p hp;rcases List.mem_append.mp hp with z|z
  ·exact h.kind p z
  ·exact B.kind p z
def Zno(s:Str)(n:Nat):Prop:=∃kd c k,(96<kd.cps.toList.getD 0 0/\kd.cps.toList.getD 0 0<123)/\k<n/\s=Yl kd c k
theorem Wq.len{n1 n2 n3 n4:Str}{ps:List Zc}{js:List (Zc×Zc)}{a b:Zc}(h:Wq n1 n2 n3 n4 ps js a b):ps.length<=4/\js.length<=4:=by
 cases h <;>simp
structure Zdj(i:Nat)(ps:List Zc)(js:List (Zc×Zc))(E6:Zc):Prop where
 net:Net ps js [E6]
 pl:ps.length<=1+4 * i
 jl:js.length<=5 * i
 nm:∀p∈ps,p=((("gate" :Str),("g" :Str)):Zc)\/Zno p.2 (4 * i)
theorem Zdj.start:Zdj 0 [("gate", "g")] [] ("g", "a"):=by
 refine ⟨⟨?_,by simp,by simp,by simp [Ww]⟩,by simp,by simp,by simp⟩;simp [Xc,Yy,Zev (k := "gate") (.inl rfl)]
theorem Zp9{x s:Str}(hx:x.length=1)(h:2<=s.length):s≠x:=fun z=>by rw [z] at h;lia
theorem Zdj.more{i:Nat}{ps:List Zc}{js:List (Zc×Zc)}{E6:Zc}{k1 k2 k3 k4:Str}{c1 c2 c3 c4:Int}{qs:List Zc}{ks:List (Zc×Zc)}{a b:Zc}(h:Zdj i ps js E6)(hi:i<20)
  (g1:96<k1.cps.toList.getD 0 0/\k1.cps.toList.getD 0 0<123) (g2:96<k2.cps.toList.getD 0 0/\k2.cps.toList.getD 0 0<123) (g3:96<k3.cps.toList.getD 0 0/\k3.cps.toList.getD 0 0<123) (g4:96<k4.cps.toList.getD 0 0/\k4.cps.toList.getD 0 0<123)
  (B:Wq (Yl k1 c1 (4 * i)) (Yl k2 c2 (4 * i+1)) (Yl k3 c3 (4 * i+2)) (Yl k4 c4 (4 * i+3)) qs ks a b):Zdj (i+1) (ps++qs) (js++ks++[(E6,a)]) b:=by
 have v1:=Zbj (c:=c1) (Nat.lt_trans (by decide) g1.1) (show 4 * i<100 by lia);have v2:=Zbj (c:=c2) (Nat.lt_trans (by decide) g2.1) (show 4 * i+1<100 by lia);have v3:=Zbj (c:=c3) (Nat.lt_trans (by decide) g3.1) (show 4 * i+2<100 by lia);have v4:=Zbj (c:=c4) (Nat.lt_trans (by decide) g4.1) (show 4 * i+3<100 by lia);have ne:∀{x y:Str} {m n:Nat},Zhx x=m->Zhx y=n->m≠n->x≠y:=fun hx hy hn z=>hn (by rw [<-hx,<-hy,z])
 have nd:[Yl k1 c1 (4 * i),Yl k2 c2 (4 * i+1),Yl k3 c3 (4 * i+2),Yl k4 c4 (4 * i+3)].Nodup:=by
  simp [ne v1 v2 (by lia),ne v1 v3 (by lia),ne v1 v4 (by lia),ne v2 v3 (by lia),ne v2 v4 (by lia),ne v3 v4 (by lia)]
 have all:∀n∈[Yl k1 c1 (4 * i),Yl k2 c2 (4 * i+1),Yl k3 c3 (4 * i+2),Yl k4 c4 (4 * i+3)],4 * i<=Zhx n/\2<=n.length/\Zno n (4 * (i+1)):=by
  intro n hn;simp only [List.mem_cons,List.mem_nil_iff,or_false] at hn;rcases hn with rfl|rfl|rfl|rfl
  ·exact ⟨by lia,Za4 (by lia),_,_,_,g1,by lia,rfl⟩
  ·exact ⟨by lia,Za4 (by lia),_,_,_,g2,by lia,rfl⟩
  ·exact ⟨by lia,Za4 (by lia),_,_,_,g3,by lia,rfl⟩
  ·exact ⟨by lia,Za4 (by lia),_,_,_,g4,by lia,rfl⟩
 refine ⟨h.net.more B nd fun n hn hm=>?_,?_,?_,?_⟩
 ·obtain ⟨p,hp,rfl⟩:=List.mem_map.mp hm;obtain ⟨a1,a2,_⟩:=all _ hn;rcases h.nm p hp with z|⟨kd,c,k,hk,d5,e⟩
  ·exact Zp9 (x := "g") (by trivial) a2 (by rw [z])
  ·rw [e,Zbj (Nat.lt_trans (by decide) hk.1) (by lia)] at a1;lia
 ·have:=B.len.1;have:=h.pl;rw [List.length_append];lia
 ·have:=B.len.2;have:=h.jl;rw [List.length_append,List.length_append];show _+_+1<=_;lia
 ·intro p hp;rcases List.mem_append.mp hp with z|z
  ·rcases h.nm p z with y|⟨kd,c,k,hk,d5,e⟩
   ·exact .inl y
   ·exact .inr ⟨kd,c,k,hk,by lia,e⟩
  ·exact .inr (all _ (B.sub.subset (List.mem_map.mpr ⟨p,z,rfl⟩))).2.2
theorem Zdj.done{i:Nat}{ps:List Zc}{js:List (Zc×Zc)}{E6:Zc}(h:Zdj i ps js E6)(hi:i<20):Net (ps++[(("gate" :Str),("h" :Str))]) (js++[(E6,(("h" :Str),("a" :Str)))]) []:=by
 have P7:("h" :Str)∉ps.map Prod.snd:=fun z=>by
  obtain ⟨p,hp,e⟩:=List.mem_map.mp z;rcases h.nm p hp with y|⟨kd,c,k,hk,d5,y⟩
  ·rw [y] at e;exact absurd e (by trivial)
  ·exact Zp9 (x := "h") (by trivial) (Za4 (kind:=kd) (c:=c) (k:=k) (by lia)) (by rw [<-y];exact e)
 have hc:E6.1∈ps.map Prod.snd:=Zea (h.net.perm.subset (by simp));refine ⟨?_,?_,?_,?_⟩
 ·rw [Zcn,Zfg,List.append_nil];have he:Yy [("gate", "h")]=([("h", "a")]:List Zc):=by simp [Yy,Zev (k := "gate") (.inl rfl)]
  rw [he];show (Xc js++([E6]++[(("h" :Str),("a" :Str))])).Perm _;rw [<-List.append_assoc];exact List.Perm.append_right _ h.net.perm
 ·rw [List.map_append,List.nodup_append];exact ⟨h.net.nd,by simp,fun x hx y hy z=>by simp at hy;rw [z,hy] at hx;exact P7 hx⟩
 ·intro j hj;rcases List.mem_append.mp hj with z|z
  ·exact h.net.apart j z
  ·simp at z;subst z;exact fun y=>P7 (by have y:E6.1=("h" :Str):=y;rw [<-y];exact hc)
 ·intro p hp;rcases List.mem_append.mp hp with z|z
  ·exact h.net.kind p z
  ·simp at z;subst z;simp [Ww]
def Wf(j:Nat):Str := "e" ++ Zg6 j
def Zfo(Z3:List Zc)(i:Nat)(y4:List Zc)(A4:List (Zc×Zc)):Prop:=∃ks:List Str,ks.length=i/\(∀k∈ks,k = "gate" \/k = "stop")/\y4=(List.range i).map (fun j=>(ks.getD j "gate",Wf j))/\A4=(List.range i).map (fun j=>(Z3.getD j ("", ""),(Wf j,("a" :Str))))
theorem Zfo.more{Z3:List Zc}{i:Nat}{y4:List Zc}{A4:List (Zc×Zc)}{k:Str}{q:Zc}(h:Zfo Z3 i y4 A4) (hk:k = "gate" \/k = "stop") (hq:Z3[i]? =some q):Zfo Z3 (i+1) (y4++[(k,Wf i)]) (A4++[(q,(Wf i,("a" :Str)))]):=by
 obtain ⟨ks,hl,hks,rfl,rfl⟩:=h;refine ⟨ks++[k],by rw [List.length_append,hl];rfl,?_,?_,?_⟩
 ·intro x hx;rcases List.mem_append.mp hx with z|z
  ·exact hks x z
  ·simp at z;rw [z];exact hk
 ·rw [List.range_succ,List.map_append];congr 1
  ·refine List.map_congr_left fun j hj=>?_
   have hj:=List.mem_range.mp hj;rw [List.getD_eq_getElem?_getD,List.getD_eq_getElem?_getD,List.getElem?_append_left (by lia)]
  ·show [(k,Wf i)]=[((ks++[k]).getD i "gate",Wf i)];rw [List.getD_eq_getElem?_getD,List.getElem?_append_right (by lia),hl,Nat.sub_self]
   rfl
 ·rw [List.range_succ,List.map_append];congr 1;show [(q,(Wf i,("a" :Str)))]=[(Z3.getD i ("", ""),(Wf i,("a" :Str)))];rw [List.getD_eq_getElem?_getD,hq]
  rfl
theorem Zr4(k:Str):(Ym k).Nodup:=by
 unfold Ym;split
 ·decide +kernel
 ·split
  ·decide +kernel
  ·split <;>decide +kernel
theorem Zcz:∀{ps:List Zc},(ps.map Prod.snd).Nodup->(Yy ps).Nodup
 | [],_=>List.nodup_nil
 | p ::ps,h=>by
  rw [List.map_cons,List.nodup_cons] at h;rw [show Yy (p ::ps)=((Ym p.1).map fun e=>(p.2,e))++Yy ps from List.flatMap_cons ..,List.nodup_append];refine ⟨?_,Zcz h.2,?_⟩
  ·refine List.Pairwise.map _ (fun a b z y=>z ?_) (Zr4 p.1);exact (Prod.mk.inj y).2
  ·intro x hx y hy z;obtain ⟨e,_,rfl⟩:=List.mem_map.mp hx;rw [<-z] at hy;exact h.1 (Zea hy)
theorem Net.ond{ps:List Zc}{js:List (Zc×Zc)}{o:List Zc}(h:Net ps js o):o.Nodup:=by
 have:=(h.perm.nodup_iff).mpr (Zcz h.nd);exact (List.nodup_append.mp this).2.1
theorem Net.add{ps:List Zc}{js:List (Zc×Zc)}{o:List Zc}{k n:Str}(h:Net ps js o)(hn:n∉ps.map Prod.snd)(hk:k∈Ww):Net (ps++[(k,n)]) js (o++(Ym k).map fun e=>(n,e)):=by
 refine ⟨?_,?_,h.apart,?_⟩
 ·rw [Zfg,<-List.append_assoc];have:Yy [(k,n)]=(Ym k).map fun e=>(n,e):=by simp [Yy]
  rw [this];exact List.Perm.append_right _ h.perm
 ·rw [List.map_append,List.nodup_append];exact ⟨h.nd,by simp,fun x hx y hy z=>by simp at hy;rw [z,hy] at hx;exact hn hx⟩
 ·intro p hp;rcases List.mem_append.mp hp with z|z
  ·exact h.kind p z
  ·simp at z;rw [z];exact hk
theorem Net.join{ps:List Zc}{js:List (Zc×Zc)}{o o':List Zc}{a b:Zc}(h:Net ps js o)(hp:(a ::b ::o').Perm o)(ne:a.1≠b.1):Net ps (js++[(a,b)]) o':=by
 refine ⟨?_,h.nd,?_,h.kind⟩
 ·rw [Zcn];refine List.Perm.trans ?_ h.perm;show (Xc js++[a,b]++o').Perm _;rw [List.append_assoc];exact List.Perm.append_left _ hp
 ·intro j hj;rcases List.mem_append.mp hj with z|z
  ·exact h.apart j z
  ·simp at z;rw [z];exact ne
theorem Zfw{α:Type}:∀{l:List α} {i:Nat} {a:α},l[i]? =some a->(a ::l.eraseIdx i).Perm l
 | [],_,_,h=>by cases h
 | x ::l,0,a,h=>by cases h;exact List.Perm.refl _
 | x ::l,i+1,a,h=>by
  rw [List.eraseIdx_cons_succ];exact (List.Perm.swap x a _).trans ((Zfw (l:=l) h).cons x)
theorem Ztl{α:Type}{l m:List α}{i j:Nat}{a b:α}(ha:l[i]? =some a)(hb:m[j]? =some b):(a ::b ::(l.eraseIdx i++m.eraseIdx j)).Perm (l++m):=by
 refine List.Perm.trans ?_ ((Zfw ha).append (Zfw hb));show List.Perm _ (a ::(l.eraseIdx i++(b ::m.eraseIdx j)));exact (List.perm_middle.symm).cons a
theorem Zq5{l:List Zc}{a:Zc}(nd:l.Nodup)(ha:a∈l):(a ::l.filter fun e=>decide (e≠a)).Perm l:=by
 induction l with
 | nil=>cases ha
 | cons x l ih =>
  rw [List.nodup_cons] at nd
  by_cases z:x=a
  ·subst z;rw [List.filter_cons,if_neg (by simp)];have:(l.filter fun e=>decide (e≠x))=l:=List.filter_eq_self.mpr fun e he=>decide_eq_true fun y=>nd.1 (y ▸ he)
   rw [this]
  ·rw [List.filter_cons,if_pos (decide_eq_true z)];have ha':a∈l:=by
    rcases List.mem_cons.mp ha with y|y
    ·exact absurd y.symm z
    ·exact y
   exact (List.Perm.swap x a _).trans ((ih nd.2 ha').cons x)
theorem Zrs{r:Zc}{l:List Zc}{a:Zc}(nd:(r ::l).Nodup)(ha:a∈l):(a ::r ::l.filter fun e=>decide (e≠a)).Perm (r ::l) :=
 (List.Perm.swap r a _).trans ((Zq5 (List.nodup_cons.mp nd).2 ha).cons r)
theorem Zp7{j:Nat}(h:j<100):Zhx (Wf j)=j:=by
 unfold Wf Zhx;rw [Zag,List.foldl_append];exact Zmj j h
theorem Zq6:∀k,k<100->(Zg6 k).cps.toList.getD 0 0<=57:=by trivial
theorem Zsh{kd:Str}{c:Int}{k j:Nat}(hj:j<100)(hk:kd.cps.toList.getD 0 0≠101):Yl kd c k≠Wf j:=by
 intro z;have z':=congrArg (fun s:Str=>s.cps.toList) z;have he:(Wf j).cps.toList=101 ::(Zg6 j).cps.toList:=by unfold Wf;rw [Zag];rfl
 simp only [he] at z';unfold Yl at z';split at z'
 ·rw [Zag] at z';exact hk (List.cons.inj z').1
 ·rw [Zag,Zag,Zag] at z';have b0:=Int.emod_nonneg (c / 78) (show (26:Int)≠0 by decide);have b1:=Int.emod_lt_of_pos (c / 78) (show (0:Int)<26 by decide);have hb:=Zla b0 b1;have z2:=(List.cons.inj z').2;have hf:=Zq6 j hj;rw [<-z2] at hf;have:Zcw (c / 78%26)<=57:=hf;lia
theorem Net.closed{ps:List Zc}{js:List (Zc×Zc)}{Z3 y4:List Zc}{A4:List (Zc×Zc)}(h:Net ps js Z3)(hc:Zfo Z3 Z3.length y4 A4)(hl:Z3.length<=90)(hn:∀j,j<90->Wf j∉ps.map Prod.snd):Net (ps++y4) (js++A4) []:=by
 obtain ⟨ks,U9,hks,rfl,rfl⟩:=hc;have P7:∀n,n<=Z3.length->Net (ps++(List.range n).map fun j=>(ks.getD j "gate",Wf j)) (js++(List.range n).map fun j=>(Z3.getD j ("", ""),(Wf j,("a" :Str)))) (Z3.drop n):=by
  intro n
  induction n with
  | zero=>intro _;simpa using h
  | succ n ih =>
   intro Q6;have h0:=ih (by lia);have d5:n<Z3.length:=by lia
   have K0:ks.getD n "gate" = "gate" \/ks.getD n "gate" = "stop" :=hks _ (by
    rw [List.getD_eq_getElem?_getD,List.getElem?_eq_getElem (by lia)];exact List.getElem_mem _)
   have j8:Wf n∉(ps++(List.range n).map fun j=>(ks.getD j "gate",Wf j)).map Prod.snd:=by
    rw [List.map_append,List.mem_append];rintro (z|z)
    ·exact hn n (by lia) z
    ·rw [List.map_map] at z;obtain ⟨j,hj,e⟩:=List.mem_map.mp z;have hj:=List.mem_range.mp hj;have:=congrArg Zhx e;rw [Zp7 (by lia)] at this;have h2:Zhx (Wf j)=n:=this;rw [Zp7 (by lia)] at h2;lia
   have h1:=h0.add j8 (k:=ks.getD n "gate") (by rcases K0 with z|z <;>rw [z] <;>simp [Ww]);rw [Zev K0] at h1;have hd:Z3.drop n=Z3.getD n ("", "") ::Z3.drop (n+1):=by
    rw [List.drop_eq_getElem_cons d5,List.getD_eq_getElem?_getD,List.getElem?_eq_getElem d5]
    rfl
   have hin:(Z3.getD n ("", "")).1≠Wf n:=by
    have:Z3.getD n ("", "")∈Z3.drop n:=by rw [hd];simp
    have h3:=Zea (h0.perm.subset (List.mem_append_right _ this));exact fun z=>j8 (z ▸ h3)
   have h2:=h1.join (a:=Z3.getD n ("", "")) (b:=(Wf n, "a")) (o':=Z3.drop (n+1)) (by
    rw [hd];show List.Perm _ (Z3.getD n ("", "") ::(Z3.drop (n+1)++[(Wf n,("a" :Str))]));exact (List.perm_append_singleton _ _).symm.cons _) hin
   rw [List.range_succ,List.map_append,List.map_append,<-List.append_assoc,<-List.append_assoc];exact h2
 have:=P7 Z3.length (Nat.le_refl _);rwa [List.drop_length] at this
end YM
end
section
namespace YM
open PySem L2 NM
theorem Zie:∀k∈Ww,57<k.cps.toList.getD 0 0/\k.cps.toList.getD 0 0≠101/\0<k.length/\k.length<=6/\(Ym k).length<=4/\0<(Ym k).length:=by trivial
def nmD(s:Str)(n:Nat):Prop:=∃kd∈Ww,∃(c:Int) (k:Nat),k<n/\s=Yl kd c k
structure Xg(i m:Nat)(ps:List Zc)(js:List (Zc×Zc))(Z3:List Zc):Prop where
 net:Net ps js Z3
 sum:ps.length+Z3.length<=39
 jl:js.length<=m
 nm:∀p∈ps,nmD p.2 i
theorem Xg.start:Xg 0 0 [] [] []:=⟨⟨List.Perm.refl _,List.nodup_nil,by simp,by simp⟩,by simp,by simp,by simp⟩
theorem Xg.mono{i m i' m':Nat}{ps:List Zc}{js:List (Zc×Zc)}{Z3:List Zc}(h:Xg i m ps js Z3)(hi:i<=i')(hm:m<=m'):Xg i' m' ps js Z3 :=
 ⟨h.net,h.sum,Nat.le_trans h.jl hm,fun p hp=>let ⟨kd,h1,c,k,h2,h3⟩:=h.nm p hp;⟨kd,h1,c,k,by lia,h3⟩⟩
theorem Xg.new{i m:Nat}{ps:List Zc}{js:List (Zc×Zc)}{Z3:List Zc}{kd:Str}{c:Int}(h:Xg i m ps js Z3)(hi:i<100)(hk:kd∈Ww):Yl kd c i∉ps.map Prod.snd:=fun z=>by
 obtain ⟨p,hp,e⟩:=List.mem_map.mp z;obtain ⟨kd',h1,c',k,h2,h3⟩:=h.nm p hp;have:=congrArg Zhx (e.symm.trans h3);rw [Zbj (Zie _ hk).1 hi,Zbj (Zie _ h1).1 (by lia)] at this;lia
theorem Xg.add{i m:Nat}{ps:List Zc}{js:List (Zc×Zc)}{Z3:List Zc}{kd:Str}{c:Int}(h:Xg i m ps js Z3)(hi:i<100)(hk:kd∈Ww)(hs:ps.length+Z3.length+(Ym kd).length<=38):Xg (i+1) m (ps++[(kd,Yl kd c i)]) js (Z3++(Ym kd).map fun e=>(Yl kd c i,e)):=by
 refine ⟨h.net.add (h.new hi hk) hk,?_,h.jl,?_⟩
 ·rw [List.length_append,List.length_append,List.length_map];show _+1+_<=39;lia
 ·intro p hp;rcases List.mem_append.mp hp with z|z
  ·exact (h.mono (Nat.le_succ i) (Nat.le_refl m)).nm p z
  ·simp at z;rw [z];exact ⟨kd,hk,c,i,by lia,rfl⟩
theorem Xg.join{i m:Nat}{ps:List Zc}{js:List (Zc×Zc)}{o o':List Zc}{a b:Zc}(h:Xg i m ps js o)(hp:(a ::b ::o').Perm o)(ne:a.1≠b.1):Xg i (m+1) ps (js++[(a,b)]) o':=by
 refine ⟨h.net.join hp ne,?_,?_,h.nm⟩
 ·have:=h.sum;have hl:=hp.length_eq;simp at hl;lia
 ·rw [List.length_append];exact Nat.succ_le_succ h.jl
theorem Xg.done{i m:Nat}{ps:List Zc}{js:List (Zc×Zc)}{Z3 y4:List Zc}{A4:List (Zc×Zc)}(h:Xg i m ps js Z3)(hi:i<=100)(hc:Zfo Z3 Z3.length y4 A4):Net (ps++y4) (js++A4) []:=by
 have hs:=h.sum;refine h.net.closed hc (by lia) fun j hj z=>?_
 obtain ⟨p,hp,e⟩:=List.mem_map.mp z;obtain ⟨kd',h1,c',k,h2,h3⟩:=h.nm p hp;exact Zsh (by lia) (Zie _ h1).2.1 (h3.symm.trans e)
theorem Zgp{α β:Type}{R:α->β->Prop}:∀{l:List α} {m:List β},Paired R l m->∀i,Paired R (l.eraseIdx i) (m.eraseIdx i)
 | _,_,.nil,_=>.nil
 | _,_,.cons r t,0=>t
 | _,_,.cons r t,i+1=>.cons r (Zgp t i)
theorem Zkq{α β:Type}(f:α->β):∀(l:List α) (i:Nat),(l.map f).eraseIdx i=(l.eraseIdx i).map f
 | [],_=>rfl
 | _ ::_,0=>rfl
 | x ::l,i+1=>by rw [List.map_cons,List.eraseIdx_cons_succ,List.eraseIdx_cons_succ,List.map_cons,Zkq f l i]
end YM
end
section
namespace L2
open PySem PySem.Spec PyProof.Rows
theorem ixT{K:Frag}{H:Hp}{a:Addr}{xs:List V}{v:V}{Q:VK}(h:H a=some (.tup xs))(j:Nat)(e:xs[j]? =some v)(q:Q v H):rIx K (.ref a) (.int (j:Nat)) H Q:=.inr (.inl ⟨a,xs,j,v,rfl,rfl,SqT.of h,Y1 e,q⟩)
theorem ixV{K:Frag}{H:Hp}{a:Addr}{xs:List V}{v:V}{i:Int}{Q:VK}(h:H a=some (.tup xs))(e:atI xs i=some v)(q:Q v H):rIx K (.ref a) (.int i) H Q:=.inr (.inl ⟨a,xs,i,v,rfl,rfl,SqT.of h,e,q⟩)
theorem Z1{X:Cx}{K:Frag}{a b:Expr}{ta tb:TE}{pos:Pos}(hK:X.K=K)(ha:PE X a ta)(hb:PE X b tb)(hs:Zqd b:=by exact fun _ _=>rfl):PE X (.Subscript a b pos) (tOp (rIx K) ta tb):=by subst hK;exact Zy8 Zxg ha hb hs
theorem szA{n:Nat}(h:n<=1000:=by simp):n<=sizeLine:=sz h
end L2
namespace L2
theorem exR{α:Sort u}{p R:α->Prop}{w:α}(h:p w)(k:R w):∃x,p x/\R x:=⟨w,h,k⟩
theorem exQ{α:Sort u}{β:Sort v}{p R:α->β->Prop}{q:α->β->Prop}{w:α}{z:β}(h:p w z)(g:q w z)(k:R w z):∃x y,p x y/\q x y/\R x y:=⟨w,z,h,g,k⟩
end L2
namespace K52
open PySem L2 NM
def top(i:Nat):Stmt:=PySem.Challenge.pw_yardkeep_k52_world_refuses.main.body.getD i (.Pass ⟨0,0,0,0⟩)
abbrev Zhc:Stmt:=top 11
theorem Zop:Zk ["thing"] ["thing"] (Zh Zhc):={}
abbrev Zar:Stmt:=Yp (top 12) 0
theorem Zgv:Zk ["self", "name"] ["self", "name"] (Zh Zar):={}
abbrev Zek:Stmt:=Yp (top 12) 1
theorem Zl1:Zk ["self"] ["self"] (Zh Zek):={}
abbrev Zeh:Stmt:=Yp (top 12) 2
theorem Zmb:Zk ["self"] ["self"] (Zh Zeh):={}
abbrev Zde:Stmt:=Yp (top 12) 5
theorem Zkd:Zk ["self"] ["self"] (Zh Zde):={}
abbrev Zeo:Stmt:=Yp (top 14) 0
theorem Zmf:Zk ["self"] ["self"] (Zh Zeo):={}
abbrev Zb2:Stmt:=Yp (top 16) 0
theorem Zir:Zk ["self"] ["self"] (Zh Zb2):={}
abbrev Zcj:Stmt:=Yp (top 16) 1
theorem Zi8:Zk ["self"] ["self"] (Zh Zcj):={}
abbrev Zba:Stmt:=Yp (top 16) 3
theorem Zh6:Zk ["self"] ["self"] (Zh Zba):={}
abbrev Zc9:Stmt:=Yp (top 17) 0
theorem Zkj:Zk ["self"] ["self"] (Zh Zc9):={}
abbrev Zb4:Stmt:=Yp (top 17) 2
theorem Zi2:Zk ["self"] ["self"] (Zh Zb4):={}
abbrev Zgy:Stmt:=top 21
theorem Zo6:Zk ["thing"] ["thing"] (Zh Zgy):={}
abbrev Zfl:Stmt:=top 22
theorem Znz:Zk ["end", "ends"] ["end", "ends"] (Zh Zfl):={}
abbrev Zb6:Stmt:=top 23
theorem Zd7:Zk ["name", "known"] ["name", "known"] (Zh Zb6):={}
abbrev Zaz:Stmt:=top 24
theorem W9:Zk ["parts", "part_of", "part"] ["parts"] (Zh Zaz):={}
abbrev Zap:Stmt:=top 25
theorem Xu:Zk ["part_of", "part_at", "name", "part", "end"] ["part_of"] (Zh Zap):={}
abbrev Zcd:Stmt:=top 26
theorem Zed:Zk ["join", "part_at", "joined", "end"] ["join", "part_at", "joined"] (Zh Zcd):={}
abbrev Zb8:Stmt:=top 27
theorem Zbb:Zk ["joins", "part_at", "joined", "join"] ["joins", "part_at"] (Zh Zb8):={}
abbrev Zb7:Stmt:=top 28
theorem Ziu:Zk ["end", "part_at", "ends_with_signals"] ["end", "part_at", "ends_with_signals"] (Zh Zb7):={}
abbrev Zfk:Stmt:=top 29
theorem Zai:Zk ["signals", "part_at", "post_of", "signal", "name", "end"] ["signals", "part_at"] (Zh Zfk):={}
abbrev Y4:Stmt:=Yp (top 30) 0
theorem Wk:Zk ["self", "parts", "joins", "signals", "asked_signals", "part_at"] ["self", "parts", "joins", "signals"] (Zh Y4):={}
abbrev Zbk:Stmt:=Yp (top 30) 1
theorem Zh1:Zk ["self"] ["self"] (Zh Zbk):={}
abbrev Zbl:Stmt:=Yp (top 30) 2
theorem Zds:Zk ["self", "name"] ["self", "name"] (Zh Zbl):={}
abbrev Zfr:Stmt:=top 31
theorem Znr:Zk ["tracks"] ["tracks"] (Zh Zfr):={}
abbrev Zem:Stmt:=top 32
theorem Zl0:Zk ["tracks"] ["tracks"] (Zh Zem):={}
abbrev Zas:Stmt:=top 33
theorem Zg5:Zk ["tracks"] ["tracks"] (Zh Zas):={}
abbrev Zb1:Stmt:=top 36
theorem Zeb:Zk ["tracks", "gate"] ["tracks", "gate"] (Zh Zb1):={}
abbrev Zaw:Stmt:=top 37
theorem Zcl:Zk ["long"] ["long"] (Zh Zaw):={}
abbrev Zax:Stmt:=top 38
theorem Zcy:Zk ["tracks", "points"] ["tracks", "points"] (Zh Zax):={}
abbrev Zc8:Stmt:=top 39
theorem Ze8:Zk ["tracks", "points", "lie"] ["tracks", "points", "lie"] (Zh Zc8):={}
abbrev W8:Stmt:=Yp (top 41) 0
theorem Zgm:Zk ["self", "name", "long", "gate"] ["self", "name", "long", "gate"] (Zh W8):={}
abbrev Zac:Stmt:=Yp (top 42) 0
theorem Zgq:Zk ["self", "tracks"] ["self", "tracks"] (Zh Zac):={}
abbrev Wc:Stmt:=Yp (top 42) 1
theorem Zam:Zk ["self", "name"] ["self", "name"] (Zh Wc):={}
abbrev Zdh:Stmt:=Yp (top 42) 5
theorem Ze3:Zk ["self", "name", "long", "gate"] ["self", "name", "long", "gate"] (Zh Zdh):={}
abbrev Zfm:Stmt:=Yp (top 42) 6
theorem Zhm:Zk ["self", "name", "shows", "train", "head", "end", "signal"] ["self", "name", "shows"] (Zh Zfm):={}
abbrev Zb9:Stmt:=Yp (top 42) 7
theorem Zer:Zk ["self", "name", "train"] ["self", "name"] (Zh Zb9):={}
abbrev Zci:Stmt:=Yp (top 42) 8
theorem Zd8:Zk ["self", "name"] ["self", "name"] (Zh Zci):={}
abbrev Zc3:Stmt:=Yp (top 42) 9
theorem Ze6:Zk ["self", "points", "lie"] ["self", "points", "lie"] (Zh Zc3):={}
abbrev Zc6:Stmt:=Yp (top 42) 10
theorem Zkf:Zk ["self"] ["self"] (Zh Zc6):={}
abbrev Zb3:Stmt:=Yp (top 42) 11
theorem Zd5:Zk ["self", "name"] ["self", "name"] (Zh Zb3):={}
abbrev Zbd:Stmt:=Yp (top 42) 12
theorem Zh0:Zk ["self"] ["self"] (Zh Zbd):={}
abbrev Zcf:Stmt:=Yp (top 42) 13
theorem Wo:Zk ["self", "told", "train", "spot"] ["self"] (Zh Zcf):={}
abbrev Wu:Stmt:=Yp (top 42) 14
theorem Zfh:Zk ["self"] ["self"] (Zh Wu):={}
abbrev Zdo:Stmt:=top 44
theorem Ze2:Zk ["_law_cell", "_law_k", "_law_left"] ["_law_cell", "_law_k"] (Zh Zdo):={}
abbrev Za6:Stmt:=top 45
theorem Zht:Zk ["_law_script", "_law_k"] ["_law_script", "_law_k"] (Zh Za6):={}
abbrev Zc5:Stmt:=top 46
theorem Zkm:Zk ["_law_script", "_law_at", "_law_end"] ["_law_script", "_law_at", "_law_end"] (Zh Zc5):={}
abbrev Zd1:Stmt:=top 47
theorem Zmi:Zk ["_law_kind"] ["_law_kind"] (Zh Zd1):={}
abbrev Zbi:Stmt:=top 48
theorem Zau:Zk ["_law_kind", "_law_cell", "_law_k", "_law_letters", "_law_signs"] ["_law_kind", "_law_cell", "_law_k"] (Zh Zbi):={}
abbrev Zdf:Stmt:=top 49
theorem Zy:Zk ["_law_cell", "_law_names", "_law_one", "_law_two", "_law_three", "_law_four", "_law_way", "_law_ends_here", "_law_far", "_law_joins", "_law_parts", "_law_turn_here", "_law_aside", "_law_rest"] ["_law_cell", "_law_names"] (Zh Zdf):={}
abbrev Zep:Stmt:=top 50
theorem Yr:Zk ["_law_cells_here", "_law_parts", "_law_joins", "_law_end", "_law_k", "_law_cell", "_law_names", "_law_j", "_law_block_here"] ["_law_cells_here"] (Zh Zep):={}
abbrev Zcg:Stmt:=top 51
theorem Wp:Zk ["_law_parts", "_law_joins", "_law_rest", "_law_cell", "_law_j", "_law_end", "_law_name"] ["_law_parts", "_law_joins", "_law_rest", "_law_cell"] (Zh Zcg):={}
abbrev Zc4:Stmt:=top 52
theorem Yd:Zk ["_law_cells_here", "_law_parts", "_law_joins", "_law_rest", "_law_k", "_law_cell", "_law_kind", "_law_ends_here", "_law_name", "_law_fresh", "_law_near", "_law_other"] ["_law_cells_here"] (Zh Zc4):={}
abbrev Ws:Stmt:=top 53
theorem Z2:Zk ["_law_parts", "_law_cell", "_law_letters", "_law_ends_here", "_law_kind", "_law_name", "_law_end", "_law_found", "_law_k", "_law_draw", "_law_signs"] ["_law_parts", "_law_cell"] (Zh Ws):={}
abbrev Za9:Stmt:=top 54
theorem Y6:Zk ["_law_cells_here", "_law_cell", "_law_found", "_law_parts", "_law_joins", "_law_at"] ["_law_cells_here", "_law_cell"] (Zh Za9):={}
abbrev Zen:Stmt:=top 55
theorem Zmg:Zk ["_law_kind", "_law_name"] ["_law_kind", "_law_name"] (Zh Zen):={}
abbrev Zch:Stmt:=top 56
theorem Ziy:Zk ["_law_yard"] ["_law_yard"] (Zh Zch):={}
abbrev Zcc:Stmt:=top 57
theorem Za8:Zk ["_law_doing", "e", "_law_kinds"] ["_law_doing"] (Zh Zcc):={}
abbrev X4:Stmt:=top 58
theorem Y8:Zk ["_law_world", "_law_gates", "_law_cell", "_law_due", "_law_gate", "_law_long", "_law_name"] ["_law_world", "_law_gates", "_law_cell"] (Zh X4):={}
abbrev Xz:Stmt:=top 59
theorem Zdb:Zk ["_law_world", "_law_cell", "_law_way", "_law_name"] ["_law_world", "_law_cell"] (Zh Xz):={}
abbrev X1:Stmt:=top 60
theorem Wx:Zk ["_law_world", "_law_points", "_law_others", "_law_cell", "_law_lie", "_law_name"] ["_law_world", "_law_points", "_law_others", "_law_cell"] (Zh X1):={}
abbrev Zdn:Stmt:=top 61
theorem Ze5:Zk ["_law_world", "_law_told"] ["_law_world"] (Zh Zdn):={}
abbrev Zdz:Stmt:=top 62
theorem Zf6:Zk ["_law_world", "_law_gates", "_law_points", "_law_name"] ["_law_world", "_law_gates", "_law_points"] (Zh Zdz):={}
abbrev Zgn:Stmt:=top 63
theorem Zca:Zk ["_law_script", "_law_yard", "_law_world", "_law_gates", "_law_points", "_law_others", "_law_state_here", "_law_k", "_law_cell", "_law_way"] ["_law_script"] (Zh Zgn):={}
set_option genInjectivity false in
set_option genSizeOf false in
structure Tx(K:Frag)(mg:Str->Option Value) where
 cN:Dn K "is_name" "is_name" Zhc ["thing"]
 cD:mg "is_name" =some (.ref cN.f)
 ah:Dn K "__init__" "Part.__init__" Zar ["self", "name"]
 ba:Dn K "ends" "Part.ends" Zek ["self"]
 ay:Dn K "lies" "Part.lies" Zeh ["self"]
 az:Dn K "bears" "Part.bears" Zde ["self"]
 bc:Dn K "ends" "Stop.ends" Zeo ["self"]
 bn:Dn K "ends" "Points.ends" Zb2 ["self"]
 bo:Dn K "lies" "Points.lies" Zcj ["self"]
 bd:Dn K "bears" "Points.bears" Zba ["self"]
 bz:Dn K "ends" "Cross.ends" Zc9 ["self"]
 bq:Dn K "bears" "Cross.bears" Zb4 ["self"]
 cO:Dn K "is_pair" "is_pair" Zgy ["thing"]
 dW:mg "is_pair" =some (.ref cO.f)
 cF:Dn K "is_known" "is_known" Zfl ["end", "ends"]
 dv:mg "is_known" =some (.ref cF.f)
 au:Dn K "refuse_name" "refuse_name" Zb6 ["name", "known"]
 br:mg "refuse_name" =some (.ref au.f)
 bt:Dn K "parts_by_name" "parts_by_name" Zaz ["parts"]
 dl:mg "parts_by_name" =some (.ref bt.f)
 bu:Dn K "ends_to_parts" "ends_to_parts" Zap ["part_of"]
 dm:mg "ends_to_parts" =some (.ref bu.f)
 bH:Dn K "refuse_join" "refuse_join" Zcd ["join", "part_at", "joined"]
 dI:mg "refuse_join" =some (.ref bH.f)
 bI:Dn K "joined_ends" "joined_ends" Zb8 ["joins", "part_at"]
 dJ:mg "joined_ends" =some (.ref bI.f)
 bJ:Dn K "refuse_post" "refuse_post" Zb7 ["end", "part_at", "ends_with_signals"]
 dM:mg "refuse_post" =some (.ref bJ.f)
 cG:Dn K "posts_of" "posts_of" Zfk ["signals", "part_at"]
 ff:mg "posts_of" =some (.ref cG.f)
 aM:DnD K "__init__" "Tracks.__init__" Y4 ["self", "parts", "joins", "signals"] .non
 aJ:Dn K "names" "Tracks.names" Zbk ["self"]
 am:Dn K "named" "Tracks.named" Zbl ["self", "name"]
 cH:Dn K "gates_of" "gates_of" Zfr ["tracks"]
 dw:mg "gates_of" =some (.ref cH.f)
 ci:Dn K "points_of" "points_of" Zem ["tracks"]
 cL:mg "points_of" =some (.ref ci.f)
 bv:Dn K "lies_at_first" "lies_at_first" Zas ["tracks"]
 dn:mg "lies_at_first" =some (.ref bv.f)
 av:Dn K "refuse_gate" "refuse_gate" Zb1 ["tracks", "gate"]
 cy:mg "refuse_gate" =some (.ref av.f)
 aj:Dn K "refuse_length" "refuse_length" Zaw ["long"]
 cI:mg "refuse_length" =some (.ref aj.f)
 ak:Dn K "refuse_points" "refuse_points" Zax ["tracks", "points"]
 bS:mg "refuse_points" =some (.ref ak.f)
 aA:Dn K "refuse_lie" "refuse_lie" Zc8 ["tracks", "points", "lie"]
 cR:mg "refuse_lie" =some (.ref aA.f)
 aT:Dn K "__init__" "Train.__init__" W8 ["self", "name", "long", "gate"]
 aU:Dn K "__init__" "World.__init__" Zac ["self", "tracks"]
 ae:Dn K "train_there" "World.train_there" Wc ["self", "name"]
 ar:Dn K "come" "World.come" Zdh ["self", "name", "long", "gate"]
 bw:Dn K "go" "World.go" Zfm ["self", "name", "shows"]
 aO:Dn K "about" "World.about" Zb9 ["self", "name"]
 ao:Dn K "leave" "World.leave" Zci ["self", "name"]
 aB:Dn K "turn" "World.turn" Zc3 ["self", "points", "lie"]
 bh:Dn K "lies" "World.lies" Zc6 ["self"]
 ap:Dn K "spots" "World.spots" Zb3 ["self", "name"]
 aw:Dn K "trains" "World.trains" Zbd ["self"]
 aQ:Dn K "taken" "World.taken" Zcf ["self"]
 aN:Dn K "accidents" "World.accidents" Wu ["self"]
 al:Dn K "_law_mixed" "_law_mixed" Zdo ["_law_cell", "_law_k"]
 bT:mg "_law_mixed" =some (.ref al.f)
 ag:Dn K "_law_cell_at" "_law_cell_at" Za6 ["_law_script", "_law_k"]
 bf:mg "_law_cell_at" =some (.ref ag.f)
 bU:Dn K "_law_cells" "_law_cells" Zc5 ["_law_script", "_law_at", "_law_end"]
 dZ:mg "_law_cells" =some (.ref bU.f)
 cj:Dn K "_law_ends" "_law_ends" Zd1 ["_law_kind"]
 de:mg "_law_ends" =some (.ref cj.f)
 bA:Dn K "_law_name_by" "_law_name_by" Zbi ["_law_kind", "_law_cell", "_law_k"]
 cM:mg "_law_name_by" =some (.ref bA.f)
 bV:Dn K "_law_block" "_law_block" Zdf ["_law_cell", "_law_names"]
 ee:mg "_law_block" =some (.ref bV.f)
 ck:Dn K "_law_line" "_law_line" Zep ["_law_cells_here"]
 eK:mg "_law_line" =some (.ref ck.f)
 bK:Dn K "_law_closed" "_law_closed" Zcg ["_law_parts", "_law_joins", "_law_rest", "_law_cell"]
 dN:mg "_law_closed" =some (.ref bK.f)
 bW:Dn K "_law_drawn" "_law_drawn" Zc4 ["_law_cells_here"]
 ef:mg "_law_drawn" =some (.ref bW.f)
 aZ:Dn K "_law_signals_by" "_law_signals_by" Ws ["_law_parts", "_law_cell"]
 cS:mg "_law_signals_by" =some (.ref aZ.f)
 bC:Dn K "_law_yard_by" "_law_yard_by" Za9 ["_law_cells_here", "_law_cell"]
 dz:mg "_law_yard_by" =some (.ref bC.f)
 cm:Dn K "_law_part" "_law_part" Zen ["_law_kind", "_law_name"]
 eL:mg "_law_part" =some (.ref cm.f)
 bL:Dn K "_law_tracks" "_law_tracks" Zch ["_law_yard"]
 dO:mg "_law_tracks" =some (.ref bL.f)
 ai:Dn K "_law_caught" "_law_caught" Zcc ["_law_doing"]
 aY:mg "_law_caught" =some (.ref ai.f)
 bN:Dn K "_law_come" "_law_come" X4 ["_law_world", "_law_gates", "_law_cell"]
 eM:mg "_law_come" =some (.ref bN.f)
 bO:Dn K "_law_none" "_law_none" Xz ["_law_world", "_law_cell"]
 eN:mg "_law_none" =some (.ref bO.f)
 bP:Dn K "_law_turn" "_law_turn" X1 ["_law_world", "_law_points", "_law_others", "_law_cell"]
 eO:mg "_law_turn" =some (.ref bP.f)
 bX:Dn K "_law_state" "_law_state" Zdn ["_law_world"]
 cT:mg "_law_state" =some (.ref bX.f)
 cp:Dn K "_law_good" "_law_good" Zdz ["_law_world", "_law_gates", "_law_points"]
 eP:mg "_law_good" =some (.ref cp.f)
 cJ:Addr
 gS:mg "Part" =some (.ref cJ)
 fg:Cls K cJ
 fh:Y3 K cJ "name"
 gP:Mk K cJ ah.f
 eQ:Yn K cJ "ends" ba.f
 eR:Yn K cJ "lies" ay.f
 eg:Yn K cJ "bears" az.f
 bD:Addr
 gk:mg "Plain" =some (.ref bD)
 dq:Cls K bD
 df:Y3 K bD "name"
 fX:Mk K bD ah.f
 eh:Yn K bD "ends" ba.f
 ei:Yn K bD "lies" ay.f
 dP:Yn K bD "bears" az.f
 cq:Addr
 gC:mg "Stop" =some (.ref cq)
 ej:Cls K cq
 dA:Y3 K cq "name"
 gm:Mk K cq ah.f
 eS:Yn K cq "ends" bc.f
 eU:Yn K cq "lies" ay.f
 ek:Yn K cq "bears" az.f
 bi:Addr
 gi:mg "Gate" =some (.ref bi)
 em:Cls K bi
 dB:Y3 K bi "name"
 gq:Mk K bi ah.f
 eV:Yn K bi "ends" bc.f
 eW:Yn K bi "lies" ay.f
 eo:Yn K bi "bears" az.f
 aE:Addr
 fo:mg "Points" =some (.ref aE)
 cU:Cls K aE
 cV:Y3 K aE "name"
 fJ:Mk K aE ah.f
 dQ:Yn K aE "ends" bn.f
 dR:Yn K aE "lies" bo.f
 dC:Yn K aE "bears" bd.f
 bE:Addr
 gu:mg "Cross" =some (.ref bE)
 du:Cls K bE
 dg:Y3 K bE "name"
 fY:Mk K bE ah.f
 er:Yn K bE "ends" bz.f
 et:Yn K bE "lies" ay.f
 dS:Yn K bE "bears" bq.f
 aK:Addr
 fZ:mg "Tracks" =some (.ref aK)
 aF:Cls K aK
 aH:Y3 K aK "part_of"
 dD:Y3 K aK "joined"
 cK:Y3 K aK "post_of"
 cW:Y3 K aK "signal_on"
 fK:Mk K aK aM.f
 bZ:Yn K aK "names" aJ.f
 bF:Yn K aK "named" am.f
 ce:Addr
 gv:mg "Train" =some (.ref ce)
 cP:Cls K ce
 dh:Y3 K ce "name"
 eX:Y3 K ce "long"
 cz:Y3 K ce "stands"
 gb:Mk K ce aT.f
 aR:Addr
 gw:mg "World" =some (.ref aR)
 ac:Cls K aR
 aS:Y3 K aR "tracks"
 bM:Y3 K aR "lie_of"
 aq:Y3 K aR "train_of"
 bG:Y3 K aR "mishaps"
 gc:Mk K aR aU.f
 aD:Yn K aR "train_there" ae.f
 bY:Yn K aR "come" ar.f
 fi:Yn K aR "go" bw.f
 dU:Yn K aR "about" aO.f
 cX:Yn K aR "turn" aB.f
 cA:Yn K aR "spots" ap.f
 aV:Yn K aR "trains" aw.f
 cB:Yn K aR "taken" aQ.f
 cY:Yn K aR "accidents" aN.f
 cC:Yn K aR "leave" ao.f
 cZ:Yn K aR "lies" bh.f
 bg:Addr
 fk:mg "YardError" =some (.ref bg)
 ax:Addr
 fL:mg "BadName" =some (.ref ax)
 aL:Addr
 ge:mg "BadEnd" =some (.ref aL)
 aG:Addr
 fM:mg "TooMany" =some (.ref aG)
 aI:Addr
 fN:mg "NoTrain" =some (.ref aI)
 bx:mg "len" =none
 eu:mg "range" =none
 af:mg "isinstance" =none
 ez:mg "list" =none
 eE:mg "dict" =none
 gf:mg "tuple" =none
 di:mg "str" =none
 cw:mg "enumerate" =none
 gD:mg "max" =none
 gE:mg "min" =none
 gF:mg "sum" =none
 eY:mg "sorted" =none
 gG:mg "all" =none
 dF:mg "bool" =none
 dX:mg "int" =none
 fO:mg "repr" =none
 gW:kitOne K (.type "tuple") (.type "tuple")=some true
 gQ:kitOne K (.type "str") (.type "str")=some true
 gX:kitOne K (.type "NoneType") (.type "str")=some false
 gY:kitOne K (.type "int") (.type "str")=some false
 gT:kitOne K (.type "int") (.type "int")=some true
 gU:kitOne K (.type "int") (.type "bool")=some false
 gZ:kitOne K (.type "bool") (.type "int")=some true
 hU:kitOne K (.type "bool") (.type "bool")=some true
 hV:kitOne K (.type "NoneType") (.type "int")=some false
 hW:kitOne K (.type "str") (.type "int")=some false
 gH:kitOne K (.ref cJ) (.ref bi)=some false
 gx:kitOne K (.ref bD) (.ref bi)=some false
 gI:kitOne K (.ref cq) (.ref bi)=some false
 gJ:kitOne K (.ref bi) (.ref bi)=some true
 gg:kitOne K (.ref aE) (.ref bi)=some false
 gy:kitOne K (.ref bE) (.ref bi)=some false
 gK:kitOne K (.ref cJ) (.ref aE)=some false
 gz:kitOne K (.ref bD) (.ref aE)=some false
 gL:kitOne K (.ref cq) (.ref aE)=some false
 gM:kitOne K (.ref bi) (.ref aE)=some false
 gh:kitOne K (.ref aE) (.ref aE)=some true
 gA:kitOne K (.ref bE) (.ref aE)=some false
 hZ:kitOne K (.ref ax) (.ref ax)=some true
 ia:kitOne K (.ref ax) (.ref aL)=some false
 ib:kitOne K (.ref ax) (.ref aG)=some false
 ic:kitOne K (.ref ax) (.ref aI)=some false
 gN:kitOne K (.ref aL) (.ref ax)=some false
 gB:kitOne K (.ref aL) (.ref aL)=some true
 gO:kitOne K (.ref aL) (.ref aG)=some false
 gj:kitOne K (.ref aL) (.ref aI)=some false
 gR:kitOne K (.ref aG) (.ref ax)=some false
 ig:kitOne K (.ref aG) (.ref aL)=some false
 ii:kitOne K (.ref aG) (.ref aG)=some true
 ij:kitOne K (.ref aG) (.ref aI)=some false
 ik:kitOne K (.ref aI) (.ref ax)=some false
 il:kitOne K (.ref aI) (.ref aL)=some false
 io:kitOne K (.ref aI) (.ref aG)=some false
 ip:kitOne K (.ref aI) (.ref aI)=some true
 c0:PySem.W.kitCls K (.ref ax) (.ref bg)=some true
 c1:PySem.W.kitCls K (.ref aL) (.ref bg)=some true
 c2:PySem.W.kitCls K (.ref aG) (.ref bg)=some true
 c3:PySem.W.kitCls K (.ref aI) (.ref bg)=some true
 iq:kitOne K (.ref bg) (.type "BaseException")=some true
 cQ:Zku K mg "BadName" ax [.type "ValueError",.type "Exception",.type "BaseException",.type "object"] "ValueError.__new__"
 fP:Zku K mg "BadEnd" aL [.type "ValueError",.type "Exception",.type "BaseException",.type "object"] "ValueError.__new__"
 cE:Zku K mg "TooMany" aG [.type "ValueError",.type "Exception",.type "BaseException",.type "object"] "ValueError.__new__"
 fB:Zku K mg "NoTrain" aI [.type "ValueError",.type "Exception",.type "BaseException",.type "object"] "ValueError.__new__"
 dY:∃tk,mg "LETTERS" =some (.str "abcdefghijklmnopqrstuvwxyz" tk)
 fE:∃tk,mg "FIGURES" =some (.str "0123456789" tk)
 fF:XG K ax
 fQ:XG K aL
 fG:XG K aG
 fH:XG K aI
 dG:∃tk,mg "LONGEST_NAME" =some (.int 6 tk)
 eF:∃tk,mg "MOST_PARTS" =some (.int 40 tk)
 dH:∃tk,mg "MOST_SIGNALS" =some (.int 40 tk)
 aX:∃tk,mg "LONGEST_TRAIN" =some (.int 4 tk)
 tG:PySem.W.specialIn K (.builtin "object.__class__") "__get__" =some (some (.builtin "getset_descriptor.__get__"))
 tK:PySem.W.takesIn K (.builtin "object.__class__")=some true
 fR:findIn K (.ref cJ) "__class__" =some (some (.builtin "object.__class__"))
 fS:PySem.W.mroIn K cJ (.type "object")=some true
 fv:findIn K (.ref bD) "__class__" =some (some (.builtin "object.__class__"))
 fw:PySem.W.mroIn K bD (.type "object")=some true
 fT:findIn K (.ref cq) "__class__" =some (some (.builtin "object.__class__"))
 fU:PySem.W.mroIn K cq (.type "object")=some true
 fV:findIn K (.ref bi) "__class__" =some (some (.builtin "object.__class__"))
 fW:PySem.W.mroIn K bi (.type "object")=some true
 eZ:findIn K (.ref aE) "__class__" =some (some (.builtin "object.__class__"))
 fe:PySem.W.mroIn K aE (.type "object")=some true
 fz:findIn K (.ref bE) "__class__" =some (some (.builtin "object.__class__"))
 fA:PySem.W.mroIn K bE (.type "object")=some true
 bQ:Addr
 eG:Zua K bN.fd bQ
 aW:Addr
 eI:Zua K bO.fd aW
 bR:Addr
 eJ:Zua K bP.fd bR
section
variable {P:Program} {w:World} {K:Frag} {mg:Str->Option Value} {base:Heap}
seal PySem.wpAny
structure Zo0(T:Tx K mg)(H:Hp):Prop where
 _law_come:H T.bQ=some (.tbl (Xl [(426,23,("_law_come" :Str) ++ ".<locals>." ++ "<lambda>")]))
 _law_none:H T.aW=some (.tbl (Xl [(431,27,("_law_none" :Str) ++ ".<locals>." ++ "<lambda>"),(433,27,("_law_none" :Str) ++ ".<locals>." ++ "<lambda>"),(435,27,("_law_none" :Str) ++ ".<locals>." ++ "<lambda>"),(436,23,("_law_none" :Str) ++ ".<locals>." ++ "<lambda>")]))
 _law_turn:H T.bR=some (.tbl (Xl [(443,23,("_law_turn" :Str) ++ ".<locals>." ++ "<lambda>")]))
theorem Zo0.mono{T:Tx K mg}{H H':Hp}(e:Same H H')(h:Zo0 T H):Zo0 T H':=⟨e _ _ h._law_come,e _ _ h._law_none,e _ _ h._law_turn⟩
abbrev Tx.tabs(T:Tx K mg):List (Addr×Array Value):=[(T.bQ,(Xl [(426,23,("_law_come" :Str) ++ ".<locals>." ++ "<lambda>")])),(T.aW,(Xl [(431,27,("_law_none" :Str) ++ ".<locals>." ++ "<lambda>"),(433,27,("_law_none" :Str) ++ ".<locals>." ++ "<lambda>"),(435,27,("_law_none" :Str) ++ ".<locals>." ++ "<lambda>"),(436,23,("_law_none" :Str) ++ ".<locals>." ++ "<lambda>")])),(T.bR,(Xl [(443,23,("_law_turn" :Str) ++ ".<locals>." ++ "<lambda>")]))]
theorem Zo0.of{T:Tx K mg}{H:Hp}(h:∀p∈T.tabs,H p.1=some (.tbl p.2)):Zo0 T H:=⟨h (T.bQ,(Xl [(426,23,("_law_come" :Str) ++ ".<locals>." ++ "<lambda>")])) (by simp),h (T.aW,(Xl [(431,27,("_law_none" :Str) ++ ".<locals>." ++ "<lambda>"),(433,27,("_law_none" :Str) ++ ".<locals>." ++ "<lambda>"),(435,27,("_law_none" :Str) ++ ".<locals>." ++ "<lambda>"),(436,23,("_law_none" :Str) ++ ".<locals>." ++ "<lambda>")])) (by simp),h (T.bR,(Xl [(443,23,("_law_turn" :Str) ++ ".<locals>." ++ "<lambda>")])) (by simp)⟩
open YM
def Zp0:Sp:=fun vs H Q _=>∃c k:Int,vs=[.int c,.int k]/\Q (.int (Ze9 c k)) H
def Zte(K:Frag):Sp:=fun vs H Q _=>∃(a:Addr) (ns:List Int) (k:Nat),vs=[.ref a,.int k]/\SqL K H a (ns.map V.int)/\Q (.int (Zdi ns k)) H
theorem Ztq(T:Tx K mg):Zw P w K mg base CX0 1 T.al.f T.al.fd ["_law_cell", "_law_k"] Zp0:=by
 refine T.al.F.okW Ze2 fun a9 A outer s H vs Q E hr h=>?_
 ·obtain ⟨c,k,rfl,q⟩:=h;intro X;refine WSs.step (Zv (i:=2) Ze2.nd (Zl Yc (Zl Zg3 (Zl Wj (pv 0) (Zl Zg3 Ze (pv 1))) Ze) Ze)) ?_;refine (exR rfl (exR rfl (exQ rfl rfl ⟨.inl ⟨by decide,by decide⟩,.inl (exQ rfl rfl (exQ rfl rfl ⟨.inr ⟨by decide,by decide⟩,_,_,rfl,rfl,(by show (0:Int)<2147483647;decide),?_⟩))⟩)));refine WSs.last (Zt (Zl Yc (Zl Zg3 (pv 2) (Zl Wj (Zl Wj (pv 2) (Zl Zg3 Ze (pv 1))) Ze)) Ze)) ?_;refine (exR rfl (exR rfl (exR rfl (exQ rfl rfl ⟨.inl ⟨by decide,by decide⟩,.inl (exQ rfl rfl (.inl (exQ rfl rfl (exQ rfl rfl ⟨.inl ?_,_,_,rfl,rfl,(by show (0:Int)<2147483629;decide),q⟩))))⟩))));have h1:=Int.emod_nonneg ((c+7919 * k) * 48271) (show (2147483647:Int)≠0 by decide);have h2:=Int.emod_lt_of_pos ((c+7919 * k) * 48271) (show (0:Int)<2147483647 by decide)
  constructor <;>lia
theorem Za3(T:Tx K mg){k:Nat}(h:1<=k:=by decide):Zw P w K mg base CX0 k T.al.f T.al.fd ["_law_cell", "_law_k"] Zp0:=(Ztq T).mono h
theorem Zt5(T:Tx K mg):Zw P w K mg base CX0 2 T.ag.f T.ag.fd ["_law_script", "_law_k"] (Zte K):=by
 refine T.ag.F.okW Zht fun a9 A outer s H vs Q E hr h=>?_
 ·obtain ⟨a,ns,k,rfl,hS,q⟩:=h;intro X;refine WSs.step (Z0 (Zm Zk3 (pv 1) (Zq (r:=W1 K) W6 (by rfl) T.bx PySem.boot_len (Zb (pv 0) Za)) (Zu _)) Zr Zn) ?_;refine (exR rfl (exR rfl (.inl ⟨a,_,rfl,.inl hS,_,_,rfl,rfl,_,rfl,Yo (fun d5=>?_) (fun d5=>?_)⟩)))
  ·have d5:=of_decide_eq_true d5;rw [List.length_map] at d5;have hk:k<ns.length:=by lia
   have e:ns[k]? =some ns[k]:=by simp [hk]
   refine WSs.last (Zt (Xv (Za3 T) hr rfl T.bT T.al.F.kp T.al.b .nil Yg (Zb (Z1 (K:=K) rfl (pv 0) (pv 1)) (Zb (pv 1) Za)))) (exR rfl (exR rfl (.inl ⟨a,_,_,V.int ns[k],rfl,rfl,hS,Y1 (by rw [List.getElem?_map,e];rfl),_,rfl,ns[k],k,rfl,?_⟩)));unfold Zdi at q;rw [e] at q;exact q
  ·have d5:¬((k:Int)<((ns.map V.int).length:Int)):=fun z=>d5 (decide_eq_true z)
   rw [List.length_map] at d5;have e:ns[k]? =none:=List.getElem?_eq_none (by lia);unfold Zdi at q;rw [e] at q;exact WSs.last (Zt Ze) q
theorem X2(T:Tx K mg){k:Nat}(h:2<=k:=by decide):Zw P w K mg base CX0 k T.ag.f T.ag.fd ["_law_script", "_law_k"] (Zte K):=(Zt5 T).mono h
def Zyc:Sp:=fun vs H Q _=>∃k:Str,vs=[.str k]/\∀p H',Same H H'->H p=none->H' p=some (.lst ((Ym k).map V.str))->Q (.ref p) H'
theorem Zgd(T:Tx K mg):Zw P w K mg base CX0 1 T.cj.f T.cj.fd ["_law_kind"] Zyc:=by
 refine T.cj.F.okW Zmi fun a9 A outer s H vs Q E hr h=>?_
 ·obtain ⟨k,rfl,q⟩:=h;intro X;refine WSs.step (Z0 (Zm (r:=Wa K) (Wd hr) (pv 0) Zf (Zu _)) Zr Zn) (exR rfl (.inl ⟨rfl,_,rfl,Yo (fun hc=>?_) (fun hc=>?_)⟩))
  ·have hc:k = "points" :=by simpa using hc
   subst hc;exact WSs.last (Zt (Zo (Zb Zf (Zb Zf (Zb Zf Za))))) ⟨szA,fun p H1 s1 n1 e1=>q p H1 s1 n1 e1⟩
  have h1:¬k = "points" :=by simpa using hc
  refine WSs.step (Z0 (Zm (r:=Wa K) (Wd hr) (pv 0) Zf (Zu _)) Zr Zn) (exR rfl (.inl ⟨rfl,_,rfl,Yo (fun hc=>?_) (fun hc=>?_)⟩))
  ·have hc:k = "cross" :=by simpa using hc
   subst hc;exact WSs.last (Zt (Zo (Zb Zf (Zb Zf (Zb Zf (Zb Zf Za)))))) ⟨szA,fun p H1 s1 n1 e1=>q p H1 s1 n1 e1⟩
  have h2:¬k = "cross" :=by simpa using hc
  refine WSs.step (Z0 (Zm (r:=Wa K) (Wd hr) (pv 0) Zf (Zu _)) Zr Zn) (exR rfl (.inl ⟨rfl,_,rfl,Yo (fun hc=>?_) (fun hc=>?_)⟩))
  ·have hc:k = "plain" :=by simpa using hc
   subst hc;exact WSs.last (Zt (Zo (Zb Zf (Zb Zf Za)))) ⟨szA,fun p H1 s1 n1 e1=>q p H1 s1 n1 e1⟩
  have h3:¬k = "plain" :=by simpa using hc
  exact WSs.last (Zt (Zo (Zb Zf Za))) ⟨szA,fun p H1 s1 n1 e1=>q p H1 s1 n1 (by unfold Ym;rw [if_neg h1,if_neg h2,if_neg h3];exact e1)⟩
theorem Ziw{n:Nat}{i:Int}{l:List Nat}(hl:l.length=n)(h0:0<=i)(h1:i<n):atI l i=some (l.getD i.toNat 0):=by
 have e:i=((i.toNat:Nat):Int):=by lia
 have hi:i.toNat<l.length:=by lia
 rw [e];refine Y1 ?_;rw [List.getD_eq_getElem?_getD,Int.toNat_natCast,List.getElem?_eq_getElem hi]
 rfl
def nmF(c:Int):Int:=c%2028+2028 * (c / 2028%2)
def Zsq:Sp:=fun vs H Q _=>∃(kind:Str) (c:Int) (k:Nat),vs=[.str kind,.int c,.int k]/\0<kind.length/\kind.length<=100/\0<=c/\k<100/\Q (.str (Yl kind (nmF c) k)) H
theorem Zdu(T:Tx K mg):Zw P w K mg base CX0 1 T.bA.f T.bA.fd ["_law_kind", "_law_cell", "_law_k"] Zsq:=by
 refine T.bA.F.okW Zau fun a9 A outer s H vs Q E hr h=>?_
 ·obtain ⟨kind,c,k,rfl,hk0,U9,hc,hk,q⟩:=h;intro X;refine WSs.step (Zv (i:=3) Zau.nd Zf) ?_;have fl:=Zfy k hk;refine WSs.step (Z0 (Zm (r:=Wa K) (Wd hr) (Zl Yc (pv 1) Ze) Ze (Zu _)) Zr Zn) (exR rfl (exQ rfl rfl ⟨(by show (0:Int)<3;decide),.inl ⟨rfl,_,rfl,Yo (fun hc3=>?_) (fun hc3=>?_)⟩⟩))
  ·have hc3:c%3=0:=by simpa using hc3
   unfold Yl at q;rw [if_pos (show nmF c%3=0 by unfold nmF;lia)] at q;refine WSs.last (Zt (Zl Wj (Z1 (K:=K) rfl (pv 0) Ze) (Xh Za2 (by rfl) T.di PyProof.Rows.boot_str (Zb (pv 2) Za)))) (exR rfl (.inr (.inr ⟨kind,0,kind.cps.toList.getD 0 0,rfl,rfl,sz (by lia),?_,_,rfl,(k:Int),rfl,Zmc hk,.inr (.inl (exQ rfl rfl ⟨sz ?_,q⟩))⟩)))
   ·have:(0:Int)<kind.cps.toList.length:=by rw [Array.length_toList];exact Int.ofNat_lt.mpr hk0
    exact Ziw (n:=kind.cps.toList.length) rfl (by decide) this
   ·show 1+(Zg6 k).length<=1000;lia
  have hc3:¬c%3=0:=by simpa using hc3
  have a0:=Int.emod_nonneg (c / 3) (show (26:Int)≠0 by decide);have a1:=Int.emod_lt_of_pos (c / 3) (show (0:Int)<26 by decide);have b0:=Int.emod_nonneg (c / 78) (show (26:Int)≠0 by decide);have b1:=Int.emod_lt_of_pos (c / 78) (show (0:Int)<26 by decide);have z0:=Int.emod_nonneg (c / 2028) (show (2:Int)≠0 by decide);have z1:=Int.emod_lt_of_pos (c / 2028) (show (0:Int)<2 by decide);obtain ⟨zn,hzn⟩:∃zn:Nat,c / 2028%2=(zn:Int):=⟨(c / 2028%2).toNat,by lia⟩
  unfold Yl at q;rw [if_neg (show ¬nmF c%3=0 by unfold nmF;lia),show nmF c / 2028%3=(zn:Int) by unfold nmF;lia,Int.toNat_natCast,show nmF c / 3%26=c / 3%26 by unfold nmF;lia,show nmF c / 78%26=c / 78%26 by unfold nmF;lia] at q;refine WSs.step (Zv (i:=4) Zau.nd (Zl Wj (Z1 (K:=K) rfl (pv 3) (Zl Yc (Zl Z9 (pv 1) Ze) Ze)) (Z1 (K:=K) rfl (pv 3) (Zl Yc (Zl Z9 (pv 1) Ze) Ze)))) (exR rfl (exR rfl (exQ rfl rfl ⟨⟨by decide,by decide⟩,_,_,rfl,rfl,(by show (0:Int)<26;decide),.inr (.inr ⟨_,_,Zcw (c / 3%26),rfl,rfl,sz (by rw [Zim];decide),(by rw [Zmm];exact Ziw (n:=26) rfl a0 a1),?_⟩)⟩)));refine (exR rfl (exR rfl (exQ rfl rfl ⟨⟨by decide,by decide⟩,_,_,rfl,rfl,(by show (0:Int)<26;decide),.inr (.inr ⟨_,_,Zcw (c / 78%26),rfl,rfl,sz (by rw [Zim];decide),(by rw [Zmm];exact Ziw (n:=26) rfl b0 b1),.inr (.inl (exQ rfl rfl ⟨sz (by show 1+1<=1000;decide),?_⟩))⟩)⟩)));have rl:(Zf5 "0" zn).length<=2:=by
   have:zn<3:=by lia
   have hd:∀m,m<3->(Zf5 "0" m).length<=2:=by trivial
   exact hd zn this
  have ll:(⟨#[Zcw (c / 3%26)]⟩++⟨#[Zcw (c / 78%26)]⟩:Str).length=2:=by rw [PySem.Str.length_append];rfl
  refine WSs.last (Zt (Zl Wj (Zl Wj (pv 4) (Zl Zp1 Zf (Zl Yc (Zl Z9 (pv 1) Ze) Ze))) (Xh Za2 (by rfl) T.di PyProof.Rows.boot_str (Zb (pv 2) Za)))) (exR rfl (exR rfl (exQ rfl rfl ⟨⟨by decide,by decide⟩,_,_,rfl,rfl,(by show (0:Int)<2;decide), "0",zn,rfl,by rw [<-hzn],by show 1 * zn<=1000;lia,by lia,.inr (.inl (exQ rfl rfl ⟨sz (by rw [ll];lia),_,rfl,(k:Int),rfl,Zmc hk,.inr (.inl (exQ rfl rfl ⟨sz ?_,q⟩))⟩))⟩)));show _+(Zg6 k).length<=1000;rw [PySem.Str.length_append,ll];lia
def Zs(H:Hp)(t:Addr)(q:Zc):Prop:=H t=some (.tup [.str q.1,.str q.2])
def X3(H:Hp)(t:Addr)(j:Zc×Zc):Prop:=∃a b,H t=some (.tup [.ref a,.ref b])/\Zs H a j.1/\Zs H b j.2
def Zp(H:Hp)(l:Addr)(ps:List Zc):Prop:=∃ts:List Addr,H l=some (.lst (ts.map V.ref))/\Paired (Zs H) ts ps
def Yi(H:Hp)(l:Addr)(js:List (Zc×Zc)):Prop:=∃ts:List Addr,H l=some (.lst (ts.map V.ref))/\Paired (X3 H) ts js
theorem Zs.mono{H H':Hp}{t:Addr}{q:Zc}(e:Same H H')(h:Zs H t q):Zs H' t q:=e.at h
theorem X3.mono{H H':Hp}{t:Addr}{j:Zc×Zc}(e:Same H H')(h:X3 H t j):X3 H' t j:=let ⟨a,b,h1,h2,h3⟩:=h;⟨a,b,e.at h1,h2.mono e,h3.mono e⟩
theorem Zp.mono{H H':Hp}{l:Addr}{ps:List Zc}(e:Same H H')(h:Zp H l ps):Zp H' l ps:=let ⟨ts,h1,h2⟩:=h;⟨ts,e.at h1,Paired.mapP h2 fun _ _ r=>r.mono e⟩
theorem Yi.mono{H H':Hp}{l:Addr}{js:List (Zc×Zc)}(e:Same H H')(h:Yi H l js):Yi H' l js:=let ⟨ts,h1,h2⟩:=h;⟨ts,e.at h1,Paired.mapP h2 fun _ _ r=>r.mono e⟩
def Zvo:Sp:=fun vs H Q _=>∃(c:Int) (nl:Addr) (n1 n2 n3 n4:Str),vs=[.int c,.ref nl]/\H nl=some (.lst [.str n1,.str n2,.str n3,.str n4]) /\
 ∀(t:Addr) (H':Hp) (pl jl ie oe:Addr) (ps:List Zc) (js:List (Zc×Zc)) (e1 e2:Zc),Same H H'->H' t=some (.tup [.ref pl,.ref jl,.ref ie,.ref oe])->Zp H' pl ps->Yi H' jl js->Zs H' ie e1->Zs H' oe e2->Wq n1 n2 n3 n4 ps js e1 e2->Q (.ref t) H'
theorem Zmw{n:Int}{u v:V}:∃w,atI [u,v] (n%2)=some w/\((n%2=0/\w=u)\/(n%2=1/\w=v)):=by
 have h0:=Int.emod_nonneg n (show (2:Int)≠0 by decide);have h1:=Int.emod_lt_of_pos n (show (0:Int)<2 by decide);generalize n%2=m at h0 h1;have:m=0\/m=1:=by lia
 rcases this with rfl|rfl
 ·exact ⟨u,rfl,.inl ⟨rfl,rfl⟩⟩
 ·exact ⟨v,rfl,.inr ⟨rfl,rfl⟩⟩
theorem Zuj{l D:Addr}{xs:List Str}{x:Str}{H1:Hp}{Q:VK}{σ:St}(hl:H1 l=some (.lst (xs.map V.str)))(hn:xs.length<=100)(hD:H1 D=none)(q:∀H',Same H1 H'->H' D=some (.lst ((xs.filter fun e=>decide (e≠x)).map V.str))->Q (.ref D) H'){fr:St->St}(u9:fr σ=[none,some (.str x)]){tf:TT}(htf:tf=Zsk (tOp (Zgb K) (Zic 0) (Zic 1))) :
  Zfd (Itl K l) fr (Zdt 0) tf (Zic 0) Q σ H1 D:=by
 refine Wb (xs:=xs.map V.str) (fun i ys H'=>ys=((xs.take i).filter fun e=>decide (e≠x)).map V.str/\H' D=some (.lst ys)/\Same H1 H') ⟨rfl,Zi,Same.new hD⟩ ?_ ?_ ?_
 ·rintro i ys H' _ ⟨_,_,sm⟩;exact SqL.of (sm.at hl)
 ·rintro k v ys H' hk ⟨rfl,u6,sm⟩;rw [List.getElem?_map] at hk;obtain ⟨y,hy,rfl⟩:=Option.map_eq_some_iff.mp hk;unfold Zco;rw [u9,htf];refine ⟨Zat.set rfl,_,rfl,_,rfl,.inl ⟨rfl,_,rfl,Yo (fun hc=>?_) (fun hc=>?_)⟩⟩
  ·have hc:y≠x:=by simpa using hc
   refine (exR rfl ⟨u6,?_,?_,Zi,fun b o e=>?_⟩)
   ·rw [List.length_map];have:=List.length_filter_le (fun e:Str=>decide (e≠x)) (xs.take k);rw [List.length_take] at this;exact Zx (by lia)
   ·rw [List.take_add_one,hy,List.filter_append,List.map_append,show (some y).toList=[y] from rfl,List.filter_cons,if_pos (decide_eq_true hc)]
    rfl
   ·rw [Zd (Zg e hD)];exact sm.at e
  ·have hc:¬y≠x:=by simpa using hc
   refine ⟨?_,u6,sm⟩;rw [List.take_add_one,hy,List.filter_append,show (some y).toList=[y] from rfl,List.filter_cons,if_neg (by simpa using hc),List.filter_nil,List.append_nil]
 ·rintro ys H6 ⟨rfl,E5,s6⟩;rw [List.length_map,List.take_length] at E5;exact q H6 s6 E5
theorem Zkb(T:Tx K mg):Zw P w K mg base CX0 1 T.bV.f T.bV.fd ["_law_cell", "_law_names"] Zvo:=by
 refine T.bV.F.okW Zy fun a9 A outer s H vs Q E hr h=>?_
 ·obtain ⟨c,nl,n1,n2,n3,n4,rfl,hnl,q⟩:=h;intro X;refine WSs.step (Ztd (pv 1) (Zxs rfl (Z7 (Xn (i:=2) Zy.nd) (Z7 (Xn (i:=3) Zy.nd) (Z7 (Xn (i:=4) Zy.nd) (Z7 (Xn (i:=5) Zy.nd) X8)))))) (exR rfl ⟨nl,_,rfl,SqL.of hnl,rfl,_,_,rfl,_,_,rfl,_,_,rfl,_,_,rfl,rfl,?_⟩);refine WSs.step (Zv (i:=6) Zy.nd (Zl Yc (pv 0) Ze)) (exR rfl (exQ rfl rfl ⟨(by show (0:Int)<8;decide),?_⟩));refine WSs.step (Z0 (Zm Zk3 (pv 6) Ze (Zu _)) Zr Zn) (exR rfl (exQ rfl rfl (exR rfl (Yo (fun _=>?_) (fun _=>?_)))))
  ·refine WSs.step (Zv (i:=7) Zy.nd (Z1 (K:=K) rfl (Zo (Zb (Zo (Zb Zf (Zb Zf Za))) (Zb (Zo (Zb Zf (Zb Zf Za))) Za))) (Zl Yc (Zl Z9 (pv 0) Ze) Ze))) ⟨szA,fun la H1 s1 _ e1=>⟨szA,fun lb H2 s2 _ e2=>⟨szA,fun ll H3 s3 _ e3=>(exR rfl (exQ rfl rfl ⟨⟨by decide,by decide⟩,_,_,rfl,rfl,(by show (0:Int)<2;decide),?_⟩))⟩⟩⟩;obtain ⟨l7,a,b,y7,h7,M8⟩:∃l7 a b,atI [V.ref la,.ref lb] (c / 8%2)=some (.ref l7)/\H3 l7=some (.lst [.str a,.str b])/\(a,b)∈[(("a" :Str),("b" :Str)),("b", "a")]:=by
    obtain ⟨w,hw,h | h⟩:=Zmw (n:=c / 8) (u:=V.ref la) (v:=V.ref lb)
    ·exact ⟨la, "a", "b",by rw [hw,h.2],s3.at (s2.at e1),by simp⟩
    ·exact ⟨lb, "b", "a",by rw [hw,h.2],s3.at e2,by simp⟩
   refine .inl ⟨ll,_,_,.ref l7,rfl,rfl,SqL.of e3,y7,?_⟩;have s03:=s1.trans (s2.trans s3);refine WSs.last (Zt (Zj (Zb (Zo (Zb (Zj (Zb Zf (Zb (pv 2) Za))) Za)) (Zb (Zo Za) (Zb (Zj (Zb (pv 2) (Zb (Z1 (K:=K) rfl (pv 7) Ze) Za))) (Zb (Zj (Zb (pv 2) (Zb (Z1 (K:=K) rfl (pv 7) Ze) Za))) Za)))))) (exR rfl ⟨szA,fun t1 H4 s4 _ e4=>⟨szA,fun pl H5 s5 _ e5=>⟨szA,fun jl H6 s6 _ e6=>(exR rfl (exR rfl (.inl ⟨l7,_,_,.str a,rfl,rfl,SqL.of (s6.at (s5.at (s4.at h7))),rfl,szA,fun ie H7 s7 _ e7=>(exR rfl (exR rfl (.inl ⟨l7,_,_,.str b,rfl,rfl,SqL.of (s7.at (s6.at (s5.at (s4.at h7)))),rfl,szA,fun oe H8 s8 _ e8=>⟨szA,fun t H9 s9 _ e9=>?_⟩⟩)))⟩)))⟩⟩⟩);exact q t H9 pl jl ie oe _ _ _ _ (s03.trans (s4.trans (s5.trans (s6.trans (s7.trans (s8.trans s9)))))) e9 ⟨[t1],s9.at (s8.at (s7.at (s6.at e5))),.cons (s9.at (s8.at (s7.at (s6.at (s5.at e4))))) .nil⟩ ⟨[],s9.at (s8.at (s7.at e6)),.nil⟩ (s9.at (s8.at e7)) (s9.at e8) (.plain a b M8)
  refine WSs.step (Z0 (Zm Zk3 (pv 6) Ze (Zu _)) Zr Zn) (exR rfl (exQ rfl rfl (exR rfl (Yo (fun _=>?_) (fun _=>?_)))))
  ·refine WSs.step (Zv (i:=8) Zy.nd (Z1 (K:=K) rfl (Zo (Zb (Zo (Zb Zf (Zb Zf Za))) (Zb (Zo (Zb Zf (Zb Zf Za))) Za))) (Zl Yc (Zl Z9 (pv 0) Ze) Ze))) ⟨szA,fun la H1 s1 _ e1=>⟨szA,fun lb H2 s2 _ e2=>⟨szA,fun ll H3 s3 _ e3=>(exR rfl (exQ rfl rfl ⟨⟨by decide,by decide⟩,_,_,rfl,rfl,(by show (0:Int)<2;decide),?_⟩))⟩⟩⟩;obtain ⟨l7,a,b,y7,h7,M8⟩:∃l7 a b,atI [V.ref la,.ref lb] (c / 8%2)=some (.ref l7)/\H3 l7=some (.lst [.str a,.str b])/\(a,b)∈[(("left" :Str),("right" :Str)),("right", "left")]:=by
    obtain ⟨w,hw,h | h⟩:=Zmw (n:=c / 8) (u:=V.ref la) (v:=V.ref lb)
    ·exact ⟨la, "left", "right",by rw [hw,h.2],s3.at (s2.at e1),by simp⟩
    ·exact ⟨lb, "right", "left",by rw [hw,h.2],s3.at e2,by simp⟩
   refine .inl ⟨ll,_,_,.ref l7,rfl,rfl,SqL.of e3,y7,?_⟩;have s03:=s1.trans (s2.trans s3);refine WSs.step (Zv (i:=9) Zy.nd (Zo (Zb (Zj (Zb (Zj (Zb (pv 2) (Zb Zf Za))) (Zb (Zj (Zb (pv 3) (Zb Zf Za))) Za))) (Zb (Zj (Zb (Zj (Zb (pv 2) (Zb Zf Za))) (Zb (Zj (Zb (pv 4) (Zb Zf Za))) Za))) Za)))) (exR rfl ⟨szA,fun a1 H4 s4 _ f1=>(exR rfl ⟨szA,fun a2 H5 s5 _ f2=>⟨szA,fun j1 H6 s6 _ f3=>(exR rfl ⟨szA,fun a3 H7 s7 _ f4=>(exR rfl ⟨szA,fun a4 H8 s8 _ f5=>⟨szA,fun j2 H9 s9 _ f6=>⟨szA,fun jA H10 v8 _ f7=>?_⟩⟩⟩)⟩)⟩⟩)⟩);have J1:X3 H10 j1 ((n1, "left"),(n2, "a")):=⟨a1,a2,v8.at (s9.at (s8.at (s7.at f3))),v8.at (s9.at (s8.at (s7.at (s6.at (s5.at f1))))),v8.at (s9.at (s8.at (s7.at (s6.at f2))))⟩
   have J2:X3 H10 j2 ((n1, "right"),(n3, "a")):=⟨a3,a4,v8.at f6,v8.at (s9.at (s8.at f4)),v8.at (s9.at f5)⟩
   have s0A:=s03.trans (s4.trans (s5.trans (s6.trans (s7.trans (s8.trans (s9.trans v8))))));have h7:=(s4.trans (s5.trans (s6.trans (s7.trans (s8.trans (s9.trans v8)))))).at h7;clear s1 s2 s3 s4 s5 s6 s7 s8 s9 v8 f1 f2 f3 f4 f5 f6 e1 e2 e3 s03;refine WSs.step (Zv (i:=9) Zy.nd (Zl Wj (pv 9) (Zo (Zb (Zj (Zb (Zj (Zb (pv 3) (Zb Zf Za))) (Zb (Zj (Zb (pv 5) (Zb (Z1 (K:=K) rfl (pv 8) Ze) Za))) Za))) (Zb (Zj (Zb (Zj (Zb (pv 5) (Zb (Z1 (K:=K) rfl (pv 8) Ze) Za))) (Zb (Zj (Zb (pv 4) (Zb Zf Za))) Za))) Za))))) (exR rfl (exR rfl ⟨szA,fun b1 H11 w4 _ f1=>(exR rfl (exR rfl (.inl ⟨l7,_,_,.str a,rfl,rfl,SqL.of (w4.at h7),rfl,szA,fun b2 H12 A3 _ f2=>⟨szA,fun j3 H13 k7 _ f3=>(exR rfl (exR rfl (.inl ⟨l7,_,_,.str b,rfl,rfl,SqL.of (k7.at (A3.at (w4.at h7))),rfl,szA,fun b3 H14 k8 _ f4=>(exR rfl ⟨szA,fun b4 H15 B2 _ f5=>⟨szA,fun j4 H16 u0 _ f6=>⟨szA,fun jB H17 B3 _ f8=>.inr (.inr ⟨jA,jB,_,_,rfl,rfl,(w4.trans (A3.trans (k7.trans (k8.trans (B2.trans (u0.trans B3)))))).at f7,f8,szA,fun jl H18 K9 _ f9=>?_⟩)⟩⟩⟩)⟩)))⟩⟩)))⟩));have sAB:=w4.trans (A3.trans (k7.trans (k8.trans (B2.trans (u0.trans (B3.trans K9))))));have J3:X3 H18 j3 ((n2, "b"),(n4,a)):=⟨b1,b2,(k8.trans (B2.trans (u0.trans (B3.trans K9)))).at f3,(A3.trans (k7.trans (k8.trans (B2.trans (u0.trans (B3.trans K9)))))).at f1,(k7.trans (k8.trans (B2.trans (u0.trans (B3.trans K9))))).at f2⟩
   have J4:X3 H18 j4 ((n4,b),(n3, "b")):=⟨b3,b4,(B3.trans K9).at f6,(B2.trans (u0.trans (B3.trans K9))).at f4,(u0.trans (B3.trans K9)).at f5⟩
   have t9:Yi H18 jl [((n1, "left"),(n2, "a")),((n1, "right"),(n3, "a")),((n2, "b"),(n4,a)),((n4,b),(n3, "b"))]:=⟨[j1,j2,j3,j4],f9,.cons (J1.mono sAB) (.cons (J2.mono sAB) (.cons J3 (.cons J4 .nil)))⟩
   have s0B:=s0A.trans sAB;clear J1 J2 J3 J4 w4 A3 k7 k8 B2 u0 B3 K9 sAB s0A f1 f2 f3 f4 f5 f6 f7 f8 f9 h7;refine WSs.step (Zv (i:=10) Zy.nd (Zo (Zb (Zj (Zb Zf (Zb (pv 2) Za))) (Zb (Zj (Zb Zf (Zb (pv 3) Za))) (Zb (Zj (Zb Zf (Zb (pv 4) Za))) (Zb (Zj (Zb Zf (Zb (pv 5) Za))) Za)))))) (exR rfl ⟨szA,fun c1 G1 s1 _ f1=>(exR rfl ⟨szA,fun c2 G2 s2 _ f2=>(exR rfl ⟨szA,fun c3 G3 s3 _ f3=>(exR rfl ⟨szA,fun c4 G4 s4 _ f4=>⟨szA,fun pl G5 s5 _ f5=>?_⟩⟩)⟩)⟩)⟩);have i7:Zp G5 pl [("points",n1),("plain",n2),("plain",n3),("points",n4)]:=⟨[c1,c2,c3,c4],f5,.cons (s5.at (s4.at (s3.at (s2.at f1)))) (.cons (s5.at (s4.at (s3.at f2))) (.cons (s5.at (s4.at f3)) (.cons (s5.at f4) .nil)))⟩
   have sG:=s1.trans (s2.trans (s3.trans (s4.trans s5)));refine WSs.last (Zt (Zj (Zb (pv 10) (Zb (pv 9) (Zb (Zj (Zb (pv 2) (Zb Zf Za))) (Zb (Zj (Zb (pv 5) (Zb Zf Za))) Za)))))) (exR rfl (exR rfl (exR rfl ⟨szA,fun ie G6 s6 _ f6=>(exR rfl ⟨szA,fun oe G7 s7 _ f7=>⟨szA,fun t G8 s8 _ f8=>?_⟩⟩)⟩)));have M9:=s6.trans (s7.trans s8);exact q t G8 pl jl ie oe _ _ _ _ (s0B.trans (sG.trans M9)) f8 (i7.mono M9) (t9.mono (sG.trans M9)) ((s7.trans s8).at f6) (s8.at f7) (.loop a b M8)
  refine WSs.step (Z0 (Zm Zk3 (pv 6) Ze (Zu _)) Zr Zn) (exR rfl (exQ rfl rfl (exR rfl (Yo (fun _=>?_) (fun _=>?_)))))
  ·refine WSs.step (Zv (i:=7) Zy.nd (Zo (Zb Zf (Zb Zf (Zb Zf Za))))) ⟨szA,fun le H1 s1 _ e1=>?_⟩;refine WSs.step (Zv (i:=11) Zy.nd (Zl Yc (Zl Z9 (pv 0) Ze) Ze)) (exR rfl (exQ rfl rfl ⟨⟨by decide,by decide⟩,_,_,rfl,rfl,(by show (0:Int)<3;decide),?_⟩));obtain ⟨x,r0,r1,y7,Q0,hpm⟩:∃x r0 r1:Str,atI [V.str "stem",.str "left",.str "right"] (2-c / 8%3)=some (.str x)/\(([("stem" :Str), "left", "right"].filter fun e=>decide (e≠x))=[r0,r1])/\[x,r0,r1].Perm ["stem", "left", "right"]:=by
    have h0:=Int.emod_nonneg (c / 8) (show (3:Int)≠0 by decide);have h1:=Int.emod_lt_of_pos (c / 8) (show (0:Int)<3 by decide);generalize c / 8%3=m at h0 h1;have:m=0\/m=1\/m=2:=by lia
    rcases this with rfl|rfl|rfl
    ·exact ⟨"right", "stem", "left",rfl,by trivial,by trivial⟩
    ·exact ⟨"left", "stem", "right",rfl,by trivial,by trivial⟩
    ·exact ⟨"stem", "left", "right",rfl,by trivial,by trivial⟩
   refine WSs.step (Zv (i:=12) Zy.nd (Z1 (K:=K) rfl (pv 7) (Zl Zso Ze (pv 11)))) (exR rfl (exR rfl (exQ rfl rfl (.inl ⟨le,_,_,.str x,rfl,rfl,SqL.of e1,y7,?_⟩))));refine WSs.step (Zv (i:=9) Zy.nd (Zo (Zb (Zj (Zb (Zj (Zb (pv 2) (Zb (pv 12) Za))) (Zb (Zj (Zb (pv 3) (Zb Zf Za))) Za))) (Zb (Zj (Zb (Zj (Zb (pv 3) (Zb Zf Za))) (Zb (Zj (Zb (pv 4) (Zb Zf Za))) Za))) Za)))) (exR rfl (exR rfl ⟨szA,fun a1 H2 s2 _ f1=>(exR rfl ⟨szA,fun a2 H3 s3 _ f2=>⟨szA,fun j1 H4 s4 _ f3=>(exR rfl ⟨szA,fun a3 H5 s5 _ f4=>(exR rfl ⟨szA,fun a4 H6 s6 _ f5=>⟨szA,fun j2 H7 s7 _ f6=>⟨szA,fun jl H8 s8 _ f7=>?_⟩⟩⟩)⟩)⟩⟩)⟩));have t9:Yi H8 jl [((n1,x),(n2, "b")),((n2, "a"),(n3, "a"))]:=⟨[j1,j2],f7,.cons ⟨a1,a2,(s5.trans (s6.trans (s7.trans s8))).at f3,(s3.trans (s4.trans (s5.trans (s6.trans (s7.trans s8))))).at f1,(s4.trans (s5.trans (s6.trans (s7.trans s8)))).at f2⟩ (.cons ⟨a3,a4,s8.at f6,(s6.trans (s7.trans s8)).at f4,(s7.trans s8).at f5⟩ .nil)⟩
   have s28:=s2.trans (s3.trans (s4.trans (s5.trans (s6.trans (s7.trans s8)))));have s08:=s1.trans s28;have e1:=s28.at e1;clear s1 s2 s3 s4 s5 s6 s7 s8 f1 f2 f3 f4 f5 f6 f7 s28;refine WSs.step (Zad (i:=13) (N':=["_law_end", "_law_aside"]) Zy.nd rfl (Or.inl rfl) rfl (Ya.std 1 [12] rfl (by trivial) (by trivial) rfl ⟨rfl,trivial⟩ rfl rfl ⟨(exR rfl ⟨rfl,rfl⟩),trivial⟩) (Y0 (pv 7)) (fun _ _ _ _=>(Zbo (i:=0) (by show (["_law_end", "_law_aside"]:List Str).Nodup;decide +kernel))) (fun _ _ _ _=>(Zd4 (Zm (r:=Zgb K) (Zh2 hr) (pv 0) (pv 1) (Zu _)))) (fun _ _ _ _=>(pv 0))) (exR rfl ⟨le,rfl,⟨_,SqL.of e1⟩,fun lr hlr=>?_⟩);refine Zuj (xs:=["stem", "left", "right"]) (x:=x) e1 (by decide) hlr (fun H9 s9 e9=>?qq) ?aa ?bb
   case aa=>rfl
   case bb=>rfl
   rw [Q0] at e9;obtain ⟨kd,K0,S4⟩:∃kd:Str,atI [V.str "stop",.str "gate"] (c / 24%2)=some (.str kd)/\kd∈[("stop" :Str), "gate"]:=by
    obtain ⟨w,hw,h | h⟩:=Zmw (n:=c / 24) (u:=V.str "stop") (v:=V.str "gate")
    ·exact ⟨"stop",by rw [hw,h.2],by simp⟩
    ·exact ⟨"gate",by rw [hw,h.2],by simp⟩
   refine WSs.step (Zv (i:=10) Zy.nd (Zo (Zb (Zj (Zb Zf (Zb (pv 2) Za))) (Zb (Zj (Zb Zf (Zb (pv 3) Za))) (Zb (Zj (Zb (Z1 (K:=K) rfl (Zo (Zb Zf (Zb Zf Za))) (Zl Yc (Zl Z9 (pv 0) Ze) Ze)) (Zb (pv 4) Za))) Za))))) (exR rfl ⟨szA,fun c1 G1 s1 _ f1=>(exR rfl ⟨szA,fun c2 G2 s2 _ f2=>⟨szA,fun lk G3 s3 _ f3=>(exR rfl (exQ rfl rfl ⟨⟨by decide,by decide⟩,_,_,rfl,rfl,(by show (0:Int)<2;decide),.inl ⟨lk,_,_,.str kd,rfl,rfl,SqL.of f3,K0,_,rfl,szA,fun c3 G4 s4 _ f4=>⟨szA,fun pl G5 s5 _ f5=>?_⟩⟩⟩))⟩⟩)⟩);have i7:Zp G5 pl [("points",n1),("plain",n2),(kd,n3)]:=⟨[c1,c2,c3],f5,.cons (s5.at (s4.at (s3.at (s2.at f1)))) (.cons (s5.at (s4.at (s3.at f2))) (.cons (s5.at f4) .nil))⟩
   have sG:=s1.trans (s2.trans (s3.trans (s4.trans s5)));obtain ⟨a,b,ha,hb,M8⟩:∃a b:Str,atI [V.str r0,.str r1] (c / 48%2)=some (.str a)/\atI [V.str r0,.str r1] (1-c / 48%2)=some (.str b)/\[x,a,b].Perm ["stem", "left", "right"]:=by
    have h0:=Int.emod_nonneg (c / 48) (show (2:Int)≠0 by decide);have h1:=Int.emod_lt_of_pos (c / 48) (show (0:Int)<2 by decide);generalize c / 48%2=m at h0 h1;have:m=0\/m=1:=by lia
    rcases this with rfl|rfl
    ·exact ⟨r0,r1,rfl,rfl,hpm⟩
    ·exact ⟨r1,r0,rfl,rfl,((List.Perm.swap r0 r1 []).cons x).trans hpm⟩
   refine WSs.last (Zt (Zj (Zb (pv 10) (Zb (pv 9) (Zb (Zj (Zb (pv 2) (Zb (Z1 (K:=K) rfl (pv 13) (Zl Yc (Zl Z9 (pv 0) Ze) Ze)) Za))) (Zb (Zj (Zb (pv 2) (Zb (Z1 (K:=K) rfl (pv 13) (Zl Zso Ze (Zl Yc (Zl Z9 (pv 0) Ze) Ze))) Za))) Za)))))) (exR rfl (exR rfl (exR rfl (exR rfl (exR rfl (exQ rfl rfl ⟨⟨by decide,by decide⟩,_,_,rfl,rfl,(by show (0:Int)<2;decide),.inl ⟨lr,_,_,.str a,rfl,rfl,SqL.of (sG.at e9),ha,szA,fun ie G6 s6 _ f6=>?_⟩⟩))))));refine (exR rfl (exR rfl (exR rfl (exQ rfl rfl ⟨⟨by decide,by decide⟩,_,_,rfl,rfl,(by show (0:Int)<2;decide),_,_,rfl,rfl,.inl ⟨lr,_,_,.str b,rfl,rfl,SqL.of (s6.at (sG.at e9)),hb,szA,fun oe G7 s7 _ f7=>⟨szA,fun t G8 s8 _ f8=>?_⟩⟩⟩))));have M9:=s6.trans (s7.trans s8);exact q t G8 pl jl ie oe _ _ _ _ (s08.trans (s9.trans (sG.trans M9))) f8 (i7.mono M9) (t9.mono (s9.trans (sG.trans M9))) ((s7.trans s8).at f6) (s8.at f7) (.siding x a b kd M8 S4)
  refine WSs.step (Zv (i:=9) Zy.nd (Zo (Zb (Zj (Zb (Zj (Zb (pv 2) (Zb Zf Za))) (Zb (Zj (Zb (pv 3) (Zb Zf Za))) Za))) (Zb (Zj (Zb (Zj (Zb (pv 4) (Zb Zf Za))) (Zb (Zj (Zb (pv 2) (Zb Zf Za))) Za))) Za)))) (exR rfl ⟨szA,fun a1 H2 s2 _ f1=>(exR rfl ⟨szA,fun a2 H3 s3 _ f2=>⟨szA,fun j1 H4 s4 _ f3=>(exR rfl ⟨szA,fun a3 H5 s5 _ f4=>(exR rfl ⟨szA,fun a4 H6 s6 _ f5=>⟨szA,fun j2 H7 s7 _ f6=>⟨szA,fun jl H8 s8 _ f7=>?_⟩⟩⟩)⟩)⟩⟩)⟩);have t9:Yi H8 jl [((n1, "c"),(n2, "a")),((n3, "a"),(n1, "d"))]:=⟨[j1,j2],f7,.cons ⟨a1,a2,(s5.trans (s6.trans (s7.trans s8))).at f3,(s3.trans (s4.trans (s5.trans (s6.trans (s7.trans s8))))).at f1,(s4.trans (s5.trans (s6.trans (s7.trans s8)))).at f2⟩ (.cons ⟨a3,a4,s8.at f6,(s6.trans (s7.trans s8)).at f4,(s7.trans s8).at f5⟩ .nil)⟩
  have s08:=s2.trans (s3.trans (s4.trans (s5.trans (s6.trans (s7.trans s8)))));clear s2 s3 s4 s5 s6 s7 s8 f1 f2 f3 f4 f5 f6 f7;obtain ⟨kd,K0,S4⟩:∃kd:Str,atI [V.str "gate",.str "stop"] (c / 8%2)=some (.str kd)/\kd∈[("gate" :Str), "stop"]:=by
   obtain ⟨w,hw,h | h⟩:=Zmw (n:=c / 8) (u:=V.str "gate") (v:=V.str "stop")
   ·exact ⟨"gate",by rw [hw,h.2],by simp⟩
   ·exact ⟨"stop",by rw [hw,h.2],by simp⟩
  refine WSs.step (Zv (i:=10) Zy.nd (Zo (Zb (Zj (Zb Zf (Zb (pv 2) Za))) (Zb (Zj (Zb Zf (Zb (pv 3) Za))) (Zb (Zj (Zb (Z1 (K:=K) rfl (Zo (Zb Zf (Zb Zf Za))) (Zl Yc (Zl Z9 (pv 0) Ze) Ze)) (Zb (pv 4) Za))) Za))))) (exR rfl ⟨szA,fun c1 G1 s1 _ f1=>(exR rfl ⟨szA,fun c2 G2 s2 _ f2=>⟨szA,fun lk G3 s3 _ f3=>(exR rfl (exQ rfl rfl ⟨⟨by decide,by decide⟩,_,_,rfl,rfl,(by show (0:Int)<2;decide),.inl ⟨lk,_,_,.str kd,rfl,rfl,SqL.of f3,K0,_,rfl,szA,fun c3 G4 s4 _ f4=>⟨szA,fun pl G5 s5 _ f5=>?_⟩⟩⟩))⟩⟩)⟩);have i7:Zp G5 pl [("cross",n1),("gate",n2),(kd,n3)]:=⟨[c1,c2,c3],f5,.cons (s5.at (s4.at (s3.at (s2.at f1)))) (.cons (s5.at (s4.at (s3.at f2))) (.cons (s5.at f4) .nil))⟩
  have sG:=s1.trans (s2.trans (s3.trans (s4.trans s5)));refine WSs.last (Zt (Zj (Zb (pv 10) (Zb (pv 9) (Zb (Zj (Zb (pv 2) (Zb Zf Za))) (Zb (Zj (Zb (pv 2) (Zb Zf Za))) Za)))))) (exR rfl (exR rfl (exR rfl ⟨szA,fun ie G6 s6 _ f6=>(exR rfl ⟨szA,fun oe G7 s7 _ f7=>⟨szA,fun t G8 s8 _ f8=>?_⟩⟩)⟩)));have M9:=s6.trans (s7.trans s8);exact q t G8 pl jl ie oe _ _ _ _ (s08.trans (sG.trans M9)) f8 (i7.mono M9) (t9.mono (sG.trans M9)) ((s7.trans s8).at f6) (s8.at f7) (.cross kd S4)
end
end K52
end
section
namespace K52
open PySem L2 NM YM
section
variable {P:Program} {w:World} {K:Frag} {mg:Str->Option Value} {base:Heap}
seal PySem.wpAny
theorem Zfz(xs:List V)(k:Nat):Zib xs (some (k:Int)) none=xs.drop k:=by
 unfold Zib;rw [HT.sIx_nat,HT.sIx_none]
 by_cases h:k<=xs.length
 ·rw [Nat.min_eq_left h,List.take_of_length_le (by rw [List.length_drop];exact Nat.le_refl _)]
 ·rw [Nat.min_eq_right (by lia),List.drop_length,List.take_nil,List.drop_of_length_le (by lia)]
theorem Zoz(xs:List V)(k:Nat):Zib xs none (some (k:Int))=xs.take k:=by
 unfold Zib;rw [HT.sIx_nat,HT.sIx_none,List.drop_zero,Nat.sub_zero]
 by_cases h:k<=xs.length
 ·rw [Nat.min_eq_left h]
 ·rw [Nat.min_eq_right (by lia),List.take_length,List.take_of_length_le (by lia)]
theorem Zp.app{H:Hp}{l:Addr}{ts us:List Addr}{ps qs:List Zc}(h1:Paired (Zs H) ts ps)(h2:Paired (Zs H) us qs)(e:H l=some (.lst (ts.map V.ref++us.map V.ref))):Zp H l (ps++qs):=⟨ts++us,by rw [List.map_append];exact e,Paired.append h1 h2⟩
theorem Yi.app{H:Hp}{l:Addr}{ts us:List Addr}{ps qs:List (Zc×Zc)}(h1:Paired (X3 H) ts ps)(h2:Paired (X3 H) us qs)(e:H l=some (.lst (ts.map V.ref++us.map V.ref))):Yi H l (ps++qs):=⟨ts++us,by rw [List.map_append];exact e,Paired.append h1 h2⟩
def Zwv(K:Frag):Sp:=fun vs H Q _=>∃(cl:Addr) (cs:List Int),vs=[.ref cl]/\SqL K H cl (cs.map V.int)/\(∀c∈cs,0<=c) /\
 ∀(t:Addr) (H':Hp) (pl jl:Addr) (ps:List Zc) (js:List (Zc×Zc)),Same H H'->H' t=some (.tup [.ref pl,.ref jl])->Zp H' pl ps->Yi H' jl js->H pl=none->H jl=none->Net ps js []->ps.length<=38->(∀p∈ps,p=((("gate" :Str),("g" :Str)):Zc)\/p=((("gate" :Str),("h" :Str)):Zc)\/Zno p.2 36)->Q (.ref t) H'
theorem Zmo(T:Tx K mg):Zw P w K mg base CX0 2 T.ck.f T.ck.fd ["_law_cells_here"] (Zwv K):=by
 refine T.ck.F.okW Yr fun a9 A outer s H vs Q E hr h=>?_
 ·obtain ⟨cl,cs,rfl,p7,D9,q⟩:=h;intro X;refine WSs.step (Zv (i:=1) Yr.nd (Zo (Zb (Zj (Zb Zf (Zb Zf Za))) Za))) ⟨szA,fun t1 H1 s1 _ e1=>⟨szA,fun pl0 H2 s2 n2 e2=>?_⟩⟩;refine WSs.step (Zv (i:=2) Yr.nd (Zo Za)) ⟨szA,fun jl0 H3 s3 n3 e3=>?_⟩;refine WSs.step (Zv (i:=3) Yr.nd (Zj (Zb Zf (Zb Zf Za)))) ⟨szA,fun e0 H4 s4 n4 e4=>?_⟩;have s04:=s1.trans (s2.trans (s3.trans s4));have hp0:Zp H4 pl0 [("gate", "g")]:=⟨[t1],s4.at (s3.at e2),.cons (s4.at (s3.at (s2.at e1))) .nil⟩
  have hj0:Yi H4 jl0 []:=⟨[],s4.at e3,.nil⟩
  have f0:H pl0=none:=s1.free n2;have f1:H jl0=none:=s1.free (s2.free n3);clear s1 s2 s3 s4 n2 n3 n4 e1 e2 e3;refine WSs.step (We PassesOwn.never rfl (Zif rfl T.cw (Zb (Zcv (r:=Zpd K) Zq9 (pv 0) Zes (Zdg Ze)) Za)) (Zd6 rfl (Z7 (Xn (i:=4) Yr.nd) (Z7 (Xn (i:=5) Yr.nd) X8))) Zr) (exR rfl (exR rfl (.inr (.inl ⟨cl,_,rfl,s04.seq p7,fun c9 H5 s5 n5 e5=>⟨c9,rfl,⟨_,SqL.of e5⟩,?_⟩⟩))));rw [show (some (9:Int))=some ((9:Nat):Int) from rfl,Zoz,<-List.map_take] at e5;have s05:=s04.trans s5;let I1:=fun (i:Nat) (σ:St) (H':Hp)=>Same H5 H'/\∃pl jl e o4 o5 o6 o7 o8 ps js E6,σ=[some (.ref cl),some (.ref pl),some (.ref jl),some (.ref e),o4,o5,o6,o7,o8]/\Zp H' pl ps/\Yi H' jl js/\Zs H' e E6/\Zdj i ps js E6/\H pl=none/\H jl=none
  refine Zge (xs:=(cs.take 9).map V.int) I1
   ⟨Same.refl _,pl0,jl0,e0,none,none,none,none,none,_,_,_,rfl,hp0.mono s5,hj0.mono s5,s5.at e4,Zdj.start,f0,f1⟩ ?_ ?_ ?_
  ·rintro i σ H' _ ⟨sm,_⟩;exact SqL.of (sm.at e5)
  ·rintro i v σ H6 hi ⟨s6,pl,jl,e,o4,o5,o6,o7,o8,ps,js,E6,rfl,i7,t9,hpe,hok,fp,fj⟩ tp H7 s7 n7 e7;rw [List.getElem?_map] at hi;obtain ⟨c,hc,rfl⟩:=Option.map_eq_some_iff.mp hi;have hi9:i<9:=by
    have:=(List.getElem?_eq_some_iff.mp hc).1;rw [List.length_take] at this;lia
   have hc0:0<=c:=D9 c (List.mem_of_mem_take (List.mem_of_getElem? hc));refine ⟨tp,_,rfl,SqT.of e7,rfl,_,_,rfl,_,_,rfl,rfl,?_⟩;have N0:=s6.trans s7;have i7:=i7.mono s7;have t9:=t9.mono s7;have hpe:=hpe.mono s7;obtain ⟨nm,V0⟩:∃nm:Nat->Str,nm=fun j=>Yl ((["p", "q", "r", "t"]:List Str).getD j "p") (nmF (c / 96+5 * (j:Int))) (4 * i+j):=⟨_,rfl⟩
   refine WSs.step (Zv (i:=6) Yr.nd (Zo Za)) ⟨szA,fun D H75 s75 hD e75=>?_⟩;let I2:=fun (j:Nat) (σ:St) (H':Hp)=>(∃o7,σ=[some (.ref cl),some (.ref pl),some (.ref jl),some (.ref e),some (.int (i:Int)),some (.int c),some (.ref D),o7,o8])/\H' D=some (.lst (((List.range j).map nm).map V.str))/\Same H7 H'
   refine WSs.step (We PassesOwn.never rfl (Zqs rfl T.eu (Zb Ze Za)) (Xn (i:=7) Yr.nd) Zr) (exR rfl ⟨by decide,by decide,Zlk (lo:=0) (n:=4) I2 ⟨⟨_,rfl⟩,e75,s75⟩ ?_ ?_⟩)
   ·rintro j σ H8 hj ⟨⟨o7,rfl⟩,T8,s8⟩;obtain ⟨kd,K0⟩:∃kd,kd=(["p", "q", "r", "t"]:List Str).getD j "p" :=⟨_,rfl⟩
    have hj4:j=0\/j=1\/j=2\/j=3:=by lia
    obtain ⟨ch,y7,J7⟩:∃ch,atI (Str.cps "pqrt").toList ((0:Int)+(j:Int))=some ch/\(⟨#[ch]⟩:Str)=kd:=by
     rw [K0];rcases hj4 with rfl|rfl|rfl|rfl <;>exact ⟨_,rfl,rfl⟩
    have U9:kd.length=1:=by
     rw [<-J7]
     rfl
    refine WSs.last (Z4 (Zcm PySem.F.plainAttrs_list PySem.F.slot_list_append PySem.F.type_list_append Xs (pv 6) (Zb (Yj (Zdu T) hr T.cM (Zb (Z1 (K:=K) rfl Zf (pv 7)) (Zb (Zl Wj (Zl Z9 (pv 5) Ze) (Zl Zg3 Ze (pv 7))) (Zb (Zl Wj (Zl Zg3 Ze (pv 4)) (pv 7)) Za)))) Za))) (exR rfl ⟨.inl ⟨rfl,_,SqL.of T8⟩,_,rfl,.inr (.inr ⟨_,_,ch,rfl,rfl,sz (by trivial),y7,_,rfl,_,_,rfl,rfl,⟨by decide,by decide⟩,_,rfl,_,_,rfl,rfl,.inl ⟨by decide,by decide⟩,.inl (exQ rfl rfl (exR rfl (exQ rfl rfl ⟨.inl ⟨by decide,by decide⟩,_,rfl,.inl (exQ rfl rfl ⟨kd,c / 96+5 * (j:Int),4 * i+j,?_,by lia,by lia,?_,by lia,D,_,_,rfl,rfl,T8,?_,⟨_,rfl⟩,?_,fun b o z=>?_⟩)⟩)))⟩)⟩)
    ·show [V.str ⟨#[ch]⟩,V.int (c / 96+5 * (0+(j:Int))),V.int (4 * (i:Int)+(0+(j:Int)))]=_;rw [J7,show (0:Int)+(j:Int)=j by lia,show 4 * (i:Int)+(j:Int)=((4 * i+j:Nat):Int) by lia]
    ·have:=Int.ediv_nonneg hc0 (show (0:Int)<=96 by decide);lia
    ·rw [List.length_map,List.length_map,List.length_range];exact Zx (by lia)
    ·rw [Zi,List.range_succ,List.map_append,List.map_append,V0,K0]
     rfl
    ·rw [Zd (Zg z hD)];exact s8.at z
   ·rintro σ H8 ⟨⟨o7,rfl⟩,T8,s8⟩;have i7:=i7.mono s8;have t9:=t9.mono s8;have hpe:=hpe.mono s8;refine WSs.step (Zv (i:=8) Yr.nd (Yj (Zkb T) hr T.ee (Zb (pv 5) (Zb (pv 6) Za)))) (exR rfl (exR rfl ⟨c,D,nm 0,nm 1,nm 2,nm 3,rfl,T8,fun t H9 bp bj ie oe qs ks a b s9 e9 hbp hbj hie hoe B=>?_⟩));subst V0;have C9:=hok.more (by lia) (by trivial) (by trivial) (by trivial) (by trivial) B;obtain ⟨ts,ht,i8⟩:=i7.mono s9;obtain ⟨us,hu,y8⟩:=hbp;obtain ⟨js1,hj1,N1⟩:=t9.mono s9;obtain ⟨js2,hj2,hjs2⟩:=hbj;have lp:=hok.pl;have lj:=hok.jl;have lb:=B.len;have c1:=Paired.length i8;have c2:=Paired.length y8;have c3:=Paired.length N1;have c4:=Paired.length hjs2;refine WSs.step (Zv (i:=1) Yr.nd (Zl Wj (pv 1) (Z1 (K:=K) rfl (pv 8) Ze))) (exR rfl (exR rfl (ixV e9 rfl (.inr (.inr ⟨pl,bp,_,_,rfl,rfl,ht,hu,?_,fun pl' H10 v8 n10 gN=>?_⟩)))))
    ·rw [List.length_map,List.length_map];exact sz (by lia)
    refine WSs.step (Zv (i:=2) Yr.nd (Zl Wj (Zl Wj (pv 2) (Z1 (K:=K) rfl (pv 8) Ze)) (Zo (Zb (Zj (Zb (pv 3) (Zb (Z1 (K:=K) rfl (pv 8) Ze) Za))) Za)))) (exR rfl (exR rfl (ixV (v8.at e9) rfl (.inr (.inr ⟨jl,bj,_,_,rfl,rfl,v8.at hj1,v8.at hj2,?_,fun jm H11 w4 n11 gB=>(exR rfl (exR rfl (ixV (w4.at (v8.at e9)) rfl ⟨szA,fun tj H12 A3 n12 gO=>⟨szA,fun l2 H13 k7 n13 gj=>.inr (.inr ⟨jm,l2,_,_,rfl,rfl,(A3.trans k7).at gB,gj,?_,fun U0 H14 k8 n14 P6=>?_⟩)⟩⟩)))⟩)))))
    ·rw [List.length_map,List.length_map];exact sz (by lia)
    ·rw [List.length_append,List.length_map,List.length_map];exact sz (by simp;lia)
    have s104:=w4.trans (A3.trans (k7.trans k8));have S5:=v8.trans s104;refine WSs.last (Zv (i:=3) Yr.nd (Z1 (K:=K) rfl (pv 8) Ze)) (exR rfl (ixV (S5.at e9) rfl ⟨N0.trans (s8.trans (s9.trans S5)),pl',U0,oe,_,_,_,_,_,_,_,_,rfl,?_,?_,hoe.mono S5,C9,?_,?_⟩))
    ·exact Zp.app (ts:=ts) (us:=us) (Paired.mapP i8 fun _ _ r=>r.mono S5) (Paired.mapP y8 fun _ _ r=>r.mono S5) (s104.at gN)
    ·have x0:Paired (X3 H14) (js1++js2) (js++ks):=Paired.append (Paired.mapP N1 fun _ _ r=>r.mono S5) (Paired.mapP hjs2 fun _ _ r=>r.mono S5);refine Yi.app (ts:=js1++js2) (us:=[tj]) x0 (.cons ⟨e,ie,(k7.trans k8).at gO,(hpe.mono s9).mono S5,hie.mono S5⟩ .nil) ?_;rw [List.map_append];exact P6
    ·exact s05.free (N0.free (s8.free (s9.free n10)))
    ·exact s05.free (N0.free (s8.free (s9.free ((v8.trans (w4.trans (A3.trans k7))).free n14))))
  ·rintro σ H6 ⟨s6,pl,jl,e,o4,o5,o6,o7,o8,ps,js,E6,rfl,i7,t9,hpe,hok,fp,fj⟩;rw [List.length_map,List.length_take] at hok;have hm:min 9 cs.length<=9:=Nat.min_le_left ..;have hdone:=hok.done (by lia);obtain ⟨ts,ht,i8⟩:=i7;obtain ⟨js1,hj1,N1⟩:=t9;have lp:=hok.pl;have lj:=hok.jl;have c1:=Paired.length i8;have c3:=Paired.length N1;refine WSs.last (Zt (Zj (Zb (Zl Wj (pv 1) (Zo (Zb (Zj (Zb Zf (Zb Zf Za))) Za))) (Zb (Zl Wj (pv 2) (Zo (Zb (Zj (Zb (pv 3) (Zb (Zj (Zb Zf (Zb Zf Za))) Za))) Za))) Za)))) (exR rfl ⟨szA,fun t1 H7 s7 _ e7=>⟨szA,fun l1 H8 s8 _ e8=>.inr (.inr ⟨pl,l1,_,_,rfl,rfl,s8.at (s7.at ht),e8,?_,fun pl' H9 s9 n9 e9=>(exR rfl (exR rfl ⟨szA,fun t2 H10 v8 _ gN=>⟨szA,fun t3 H11 w4 _ gB=>⟨szA,fun l2 H12 A3 _ gO=>.inr (.inr ⟨jl,l2,_,_,rfl,rfl,(s7.trans (s8.trans (s9.trans (v8.trans (w4.trans A3))))).at hj1,gO,?_,fun U0 H13 k7 n13 gj=>⟨szA,fun t H14 k8 _ P6=>?_⟩⟩)⟩⟩⟩))⟩)⟩⟩)
   ·rw [List.length_map];exact sz (by simp;lia)
   ·rw [List.length_map];exact sz (by simp;lia)
   have s612:=s7.trans (s8.trans (s9.trans (v8.trans (w4.trans A3))));have S6:=s612.trans (k7.trans k8);have s914:=v8.trans (w4.trans (A3.trans (k7.trans k8)));refine q t H14 pl' U0 _ _ (s05.trans (s6.trans S6)) P6 ?_ ?_ (s05.free (s6.free (s7.free (s8.free n9)))) (s05.free (s6.free (s612.free n13))) hdone ?_ ?_
   ·exact Zp.app (ts:=ts) (us:=[t1]) (Paired.mapP i8 fun _ _ r=>r.mono S6) (.cons ((s8.trans (s9.trans s914)).at e7) .nil) (s914.at e9)
   ·exact Yi.app (ts:=js1) (us:=[t3]) (Paired.mapP N1 fun _ _ r=>r.mono S6) (.cons ⟨e,t2,(A3.trans (k7.trans k8)).at gB,hpe.mono S6,(w4.trans (A3.trans (k7.trans k8))).at gN⟩ .nil) (k8.at gj)
   ·rw [List.length_append];simp;lia
   ·intro p hp;rcases List.mem_append.mp hp with z|z
    ·rcases hok.nm p z with y|⟨kd,c,k,h1,h2,h3⟩
     ·exact .inl y
     ·exact .inr (.inr ⟨kd,c,k,h1,by lia,h3⟩)
    ·simp at z;subst z;exact .inr (.inl rfl)
def Zux(K:Frag):Sp:=fun vs H Q _=>∃(a:Addr) (ns:List Int) (i j:Nat),vs=[.ref a,.int i,.int j]/\SqL K H a (ns.map V.int)/\ns.length<=63/\i<=1000/\j<=1000 /\
 ∀(p:Addr) (H':Hp) (cs:List Int),Same H H'->H p=none->H' p=some (.lst (cs.map V.int))->(∀c∈cs,0<=c/\c<2147483629)->cs.length<=63->Q (.ref p) H'
theorem Zkc(T:Tx K mg):Zw P w K mg base CX0 2 T.bU.f T.bU.fd ["_law_script", "_law_at", "_law_end"] (Zux K):=by
 refine T.bU.F.okW Zkm fun a9 A outer s H vs Q E hr h=>?_
 ·obtain ⟨a,ns,i,j,rfl,hS,hn,hi,hj,q⟩:=h;intro X;have hmin:(if ((ns.map V.int).length:Int)<(j:Int) then ((ns.map V.int).length:Int) else (j:Int))=((min j ns.length:Nat):Int):=by
   rw [List.length_map];split <;>lia
  refine WSs.last (Zt (Wt (N':=["_law_k", "_law_script"]) rfl (Ya.std 1 [0] rfl (by trivial) (by trivial) rfl ⟨rfl,trivial⟩ rfl rfl ⟨(exR rfl ⟨rfl,rfl⟩),trivial⟩) (Zky rfl T.eu (Zb (pv 1) (Zb (Zq (Zrt rfl) (by rfl) T.gE PyProof.Rows.boot_min (Zb (pv 2) (Zb (Zq (r:=W1 K) W6 (by rfl) T.bx PySem.boot_len (Zb (pv 0) Za)) Za))) Za))) (fun _ _ _ _=>(Zbo (i:=0) (by show (["_law_k", "_law_script"]:List Str).Nodup;decide +kernel))) (fun _ _ _ _=>Zda) (fun _ _ _ _=>(Xv (Za3 T) hr rfl T.bT T.al.F.kp T.al.b .nil Yg (Zb (Z1 (K:=K) rfl (pv 1) (pv 0)) (Zb (pv 0) Za)))))) (exR rfl (exR rfl (exR rfl (.inl ⟨a,_,rfl,.inl hS,_,_,rfl,_,_,rfl,?_,fun D hD=>?_⟩))))
  ·rw [hmin];lia
  rw [hmin];obtain ⟨m,hm⟩:∃m:Nat,(((min j ns.length:Nat):Int)-(i:Int)).toNat=m:=⟨_,rfl⟩
  rw [hm];refine Zpc (lo:=(i:Int)) (n:=m) (fun k ys H'=>(∃cs:List Int,ys=cs.map V.int/\cs.length=k/\∀c∈cs,0<=c/\c<2147483629)/\H' D=some (.lst ys)/\Same H H') ⟨⟨[],rfl,rfl,by simp⟩,Zi,Same.new hD⟩ ?_ ?_
  ·rintro k ys H2 hk ⟨⟨cs,rfl,p7,D9⟩,C3,s2⟩;unfold Zco;have d5:i+k<ns.length:=by lia
   refine ⟨Zat.set rfl,_,rfl,_,rfl,.inl ⟨a,_,_,.int (ns.getD (i+k) 0),rfl,rfl,s2.seq hS,?_,_,rfl,_,_,rfl,C3,?_,⟨cs++[Ze9 (ns.getD (i+k) 0) ((i:Int)+(k:Int))],?_,?_,?_⟩,Zi,fun b o e=>?_⟩⟩
   ·rw [show (i:Int)+(k:Int)=((i+k:Nat):Int) by lia];refine Y1 ?_;rw [List.getElem?_map,List.getElem?_eq_getElem d5,List.getD_eq_getElem?_getD,List.getElem?_eq_getElem d5]
    rfl
   ·rw [List.length_map];exact Zx (by lia)
   ·rw [List.map_append];rfl
   ·rw [List.length_append];simp;exact p7
   ·intro c hc;rcases List.mem_append.mp hc with z|z
    ·exact D9 c z
    ·simp at z;rw [z];exact ⟨Zsc _ _,Zsw _ _⟩
   ·rw [Zd (Zg e hD)];exact s2.at e
  ·rintro ys H2 ⟨⟨cs,rfl,p7,D9⟩,C3,s2⟩;exact q D H2 cs s2 hD C3 D9 (by lia)
theorem X6{H:Hp}{c:Addr}{o:HO}{xs:List V}{ts:List Addr}{ps:List Zc}(h:Paired (Zs H) ts ps)(hc:H c=some (.lst xs)):Paired (Zs (upd H c o)) ts ps :=
 Paired.mapP h fun t q r=>by
  unfold Zs at r ⊢;rw [Zd fun z=>by rw [z,hc] at r;cases r];exact r
theorem X3.off{H:Hp}{c t:Addr}{o:HO}{xs:List V}{j:Zc×Zc}(h:X3 H t j)(hc:H c=some (.lst xs)):X3 (upd H c o) t j:=by
 obtain ⟨a,b,h1,h2,h3⟩:=h;unfold Zs at h2 h3;have ne:∀{t:Addr} {ys:List V},H t=some (.tup ys)->t≠c:=fun h z=>by rw [z,hc] at h;cases h
 exact ⟨a,b,by rw [Zd (ne h1)];exact h1,by unfold Zs;rw [Zd (ne h2)];exact h2,by unfold Zs;rw [Zd (ne h3)];exact h3⟩
theorem Zaa{H:Hp}{c:Addr}{o:HO}{xs:List V}{ts:List Addr}{js:List (Zc×Zc)}(h:Paired (X3 H) ts js)(hc:H c=some (.lst xs)):Paired (X3 (upd H c o)) ts js:=Paired.mapP h fun _ _ r=>r.off hc
def Ztn:Sp:=fun vs H Q _=>∃(pl jl rl:Addr) (c:Int) (ps:List Zc) (js:List (Zc×Zc)) (Z3:List Zc),vs=[.ref pl,.ref jl,.ref rl,.int c]/\Zp H pl ps/\Yi H jl js/\Zp H rl Z3/\pl≠jl/\rl≠pl/\rl≠jl/\ps.length<=100/\js.length<=200/\Z3.length<=90 /\
 ∀(H':Hp) (y4:List Zc) (A4:List (Zc×Zc)),(∀b o,b≠pl->b≠jl->H b=some o->H' b=some o)->Zp H' pl (ps++y4)->Yi H' jl (js++A4)->Zfo Z3 Z3.length y4 A4->Q .non H'
theorem Zjq(T:Tx K mg):Zw P w K mg base CX0 2 T.bK.f T.bK.fd ["_law_parts", "_law_joins", "_law_rest", "_law_cell"] Ztn:=by
 refine T.bK.F.okW Wp fun a9 A outer s H vs Q E hr h=>?_
 ·obtain ⟨pl,jl,rl,c,ps,js,Z3,rfl,i7,t9,⟨rs,V1,N2⟩,n1,n2,n3,lp,lj,lr,q⟩:=h;intro X;have lrs:=Paired.length N2;let I3:=fun (i:Nat) (σ:St) (H':Hp)=>(∃o4 o5 o6,σ=[some (.ref pl),some (.ref jl),some (.ref rl),some (.int c),o4,o5,o6])/\(∀b o,b≠pl->b≠jl->H b=some o->H' b=some o)/\∃y4 A4,Zp H' pl (ps++y4)/\Yi H' jl (js++A4)/\Zfo Z3 i y4 A4
  refine WSs.last (We PassesOwn.never rfl (Zif rfl T.cw (Zb (pv 2) Za)) (Zd6 rfl (Z7 (Xn (i:=4) Wp.nd) (Z7 (Xn (i:=5) Wp.nd) X8))) Zr) ⟨_,rfl,rl,rfl,⟨_,SqL.of V1⟩,Zge (xs:=rs.map V.ref) I3
   ⟨⟨none,none,none,rfl⟩,fun _ _ _ _ z=>z,[],[],by rw [List.append_nil];exact i7,by rw [List.append_nil];exact t9,[],rfl,by simp,rfl,rfl⟩ ?_ ?_ ?_⟩
  ·rintro i σ H' _ ⟨_,km,_⟩;exact SqL.of (km _ _ n2 n3 V1)
  ·rintro i v σ H2 hi ⟨⟨o4,o5,o6,rfl⟩,km,y4,A4,⟨ts,ht,i8⟩,⟨us,hu,y8⟩,p7⟩ tp H3 s3 n3' e3;rw [List.getElem?_map] at hi;obtain ⟨te,L8,rfl⟩:=Option.map_eq_some_iff.mp hi;obtain ⟨y,hy,hye⟩:=Paired.get N2 L8;have L5:i<rs.length:=(List.getElem?_eq_some_iff.mp L8).1;obtain ⟨ks,U9,hks,hnp,hnj⟩:=id p7;have c1:=Paired.length i8;have c2:=Paired.length y8;rw [List.length_append,hnp,List.length_map,List.length_range] at c1;rw [List.length_append,hnj,List.length_map,List.length_range] at c2;have hye2:Zs H2 te y:=by
    unfold Zs at hye ⊢;refine km _ _ (fun z=>?_) (fun z=>?_) hye
    ·obtain ⟨_,h1,_⟩:=i7;rw [z,h1] at hye;cases hye
    ·obtain ⟨_,h1,_⟩:=t9;rw [z,h1] at hye;cases hye
   refine ⟨tp,_,rfl,SqT.of e3,rfl,_,_,rfl,_,_,rfl,rfl,?_⟩;have fl:=Zfy i (by lia);refine WSs.step (Zv (i:=6) Wp.nd (Zl Wj Zf (Xh Za2 (by rfl) T.di PyProof.Rows.boot_str (Zb (pv 4) Za)))) (exR rfl ⟨(i:Int),rfl,Zmc (by lia),.inr (.inl (exQ rfl rfl ⟨sz (by show 1+(Zg6 i).length<=1000;lia),?_⟩))⟩);obtain ⟨kd,K0,S4⟩:∃kd:Str,atI [V.str "gate",.str "stop",.str "gate"] (Ze9 c (i:Int)%3)=some (.str kd)/\(kd = "gate" \/kd = "stop"):=by
    have h0:=Int.emod_nonneg (Ze9 c (i:Int)) (show (3:Int)≠0 by decide);have h1:=Int.emod_lt_of_pos (Ze9 c (i:Int)) (show (0:Int)<3 by decide);generalize Ze9 c (i:Int)%3=m at h0 h1;have:m=0\/m=1\/m=2:=by lia
    rcases this with rfl|rfl|rfl
    ·exact ⟨"gate",rfl,.inl rfl⟩
    ·exact ⟨"stop",rfl,.inr rfl⟩
    ·exact ⟨"gate",rfl,.inl rfl⟩
   refine WSs.step (Z4 (Zcm PySem.F.plainAttrs_list PySem.F.slot_list_append PySem.F.type_list_append Xs (pv 0) (Zb (Zj (Zb (Z1 (K:=K) rfl (Zo (Zb Zf (Zb Zf (Zb Zf Za)))) (Zl Yc (Xv (Za3 T) hr rfl T.bT T.al.F.kp T.al.b .nil Yg (Zb (pv 3) (Zb (pv 4) Za))) Ze)) (Zb (pv 6) Za))) Za))) (exR rfl ⟨.inl ⟨rfl,_,SqL.of (s3.at ht)⟩,szA,fun lk H4 s4 n4 e4=>(exR rfl (exR rfl ⟨c,(i:Int),rfl,_,_,rfl,rfl,(by show (0:Int)<3;decide),.inl ⟨lk,_,_,.str kd,rfl,rfl,SqL.of e4,K0,_,rfl,szA,fun t5 H5 s5 n5 e5=>⟨pl,_,_,rfl,rfl,s5.at (s4.at (s3.at ht)),?_,?_⟩⟩⟩))⟩)
   ·rw [List.length_map];exact Zx (by lia)
   have K1:=s3.trans (s4.trans s5);have hpl5:=K1.at ht;have hts5:Paired (Zs H5) ts (ps++y4):=Paired.mapP i8 fun _ _ r=>r.mono K1
   have hus5:Paired (X3 H5) us (js++A4):=Paired.mapP y8 fun _ _ r=>r.mono K1
   have p6:Paired (Zs (upd H5 pl (.lst (ts.map V.ref++[.ref t5])))) (ts++[t5]) ((ps++y4)++[(kd,Wf i)]):=X6 (Paired.append hts5 (.cons e5 .nil)) hpl5;have j6:=Zaa (o:=.lst (ts.map V.ref++[.ref t5])) hus5 hpl5;have hu6:upd H5 pl (.lst (ts.map V.ref++[.ref t5])) jl=some (.lst (us.map V.ref)):=(Zd (Ne.symm n1)).trans (K1.at hu);have k6:∀b o,b≠pl->b≠jl->H b=some o->upd H5 pl (.lst (ts.map V.ref++[.ref t5])) b=some o:=fun b o b1 b2 z=>(Zd b1).trans (K1.at (km b o b1 b2 z))
   have y6:Zs (upd H5 pl (.lst (ts.map V.ref++[.ref t5]))) te y:=by
    have z:=hye2.mono K1;unfold Zs at z ⊢;exact (Zd fun w=>by rw [w,hpl5] at z;cases z).trans z
   have e6:upd H5 pl (.lst (ts.map V.ref++[.ref t5])) pl=some (.lst ((ts++[t5]).map V.ref)):=by rw [Zi,List.map_append];rfl
   generalize (upd H5 pl (.lst (ts.map V.ref++[.ref t5])))=H6 at p6 j6 hu6 k6 y6 e6;refine WSs.last (Z4 (Zcm PySem.F.plainAttrs_list PySem.F.slot_list_append PySem.F.type_list_append Xs (pv 1) (Zb (Zj (Zb (pv 5) (Zb (Zj (Zb (pv 6) (Zb Zf Za))) Za))) Za))) (exR rfl ⟨.inl ⟨rfl,_,SqL.of hu6⟩,_,rfl,_,rfl,szA,fun t7 H7 s7 n7 e7=>⟨szA,fun t8 H8 s8 n8 e8=>⟨jl,_,_,rfl,rfl,s8.at (s7.at hu6),?_,⟨_,_,_,rfl⟩,fun b o b1 b2 z=>?_,y4++[(kd,Wf i)],A4++[(y,(Wf i,("a" :Str)))],⟨ts++[t5],?_,?_⟩,⟨us++[t8],?_,?_⟩,p7.more S4 hy⟩⟩⟩)
   ·rw [List.length_map];exact Zx (by lia)
   ·exact (Zd b2).trans (s8.at (s7.at (k6 b o b1 b2 z)))
   ·exact (Zd n1).trans (s8.at (s7.at e6))
   ·rw [<-List.append_assoc];exact X6 (Paired.mapP p6 fun _ _ r=>r.mono (s7.trans s8)) (s8.at (s7.at hu6))
   ·rw [Zi,List.map_append];rfl
   ·rw [<-List.append_assoc];exact Zaa (Paired.append (Paired.mapP j6 fun _ _ r=>r.mono (s7.trans s8)) (.cons ⟨te,t7,e8,y6.mono (s7.trans s8),s8.at e7⟩ .nil)) (s8.at (s7.at hu6))
  ·rintro σ H2 ⟨⟨o4,o5,o6,rfl⟩,km,y4,A4,h1,h2,p7⟩;rw [List.length_map,lrs] at p7;exact q H2 y4 A4 km h1 h2 p7
def trP(q:Zc):Tr:=.tup [.str q.1,.str q.2]
theorem Zn7{H:Hp}{ts:List Addr}{ps:List Zc}(h:Paired (Zs H) ts ps):Paired (Im K H 1) (ps.map trP) (ts.map V.ref):=by
 induction h with
 | nil=>exact .nil
 | cons r _ ih=>exact .cons (Im.tup (SqT.of r) (.cons (.str _) (.cons (.str _) .nil))) ih
theorem Zp.im{H:Hp}{l:Addr}{ps:List Zc}(h:Zp H l ps):Im K H 2 (.lst (ps.map trP)) (.ref l):=let ⟨_,h1,h2⟩:=h;Im.lst (SqL.of h1) (Zn7 h2)
theorem Zip{l D:Addr}{xs:List Str}{x:Str}{H1:Hp}{Q:VK}{σ:St}(hl:H1 l=some (.lst (xs.map V.str)))(hn:xs.length<=100)(hD:H1 D=none)(q:∀H',Same H1 H'->Zp H' D (xs.map fun e=>(x,e))->Q (.ref D) H'){fr:St->St}(u9:fr σ=[none,some (.str x)]){te:TE}(L8:te=Zv4 (Zjr (Zic 1) (Zjr (Zic 0) Zsj))) :
  Zfd (Itl K l) fr (Zdt 0) Zy2 te Q σ H1 D:=by
 refine Wb (xs:=xs.map V.str) (fun i ys H'=>(∃ts:List Addr,ys=ts.map V.ref/\Paired (Zs H') ts ((xs.take i).map fun e=>(x,e)))/\H' D=some (.lst ys)/\Same H1 H') ⟨⟨[],rfl,.nil⟩,Zi,Same.new hD⟩ ?_ ?_ ?_
 ·rintro i ys H' _ ⟨_,_,sm⟩;exact SqL.of (sm.at hl)
 ·rintro k v ys H' hk ⟨⟨ts,rfl,i8⟩,u6,sm⟩;rw [List.getElem?_map] at hk;obtain ⟨y,hy,rfl⟩:=Option.map_eq_some_iff.mp hk;unfold Zco;rw [u9,L8];have g8:ts.length<=100:=by
   have:=Paired.length i8;rw [List.length_map,List.length_take] at this;lia
  refine ⟨Zat.set rfl,_,rfl,_,rfl,szA,fun t H2 s2 n2 e2=>⟨s2.at u6,by rw [List.length_map];exact Zx (by lia),⟨ts++[t],by rw [List.map_append];rfl,?_⟩,Zi,fun b o e=>?_⟩⟩
  ·rw [List.take_add_one,hy,List.map_append];exact X6 (Paired.append (Paired.mapP i8 fun _ _ r=>r.mono s2) (.cons e2 .nil)) (s2.at u6)
  ·rw [Zd (Zg e hD)];exact s2.at (sm.at e)
 ·rintro ys H6 ⟨⟨ts,rfl,i8⟩,E5,s6⟩;rw [List.length_map,List.take_length] at i8;exact q H6 s6 ⟨ts,E5,i8⟩
theorem Zs.offL{H:Hp}{c t:Addr}{o:HO}{xs:List V}{q:Zc}(h:Zs H t q)(hc:H c=some (.lst xs)):Zs (upd H c o) t q:=by
 unfold Zs at h ⊢;exact (Zd fun z=>by rw [z,hc] at h;cases h).trans h
theorem Zp.offL{H:Hp}{c l:Addr}{o:HO}{xs:List V}{ps:List Zc}(h:Zp H l ps)(hc:H c=some (.lst xs))(ne:l≠c):Zp (upd H c o) l ps:=let ⟨ts,h1,h2⟩:=h;⟨ts,(Zd ne).trans h1,X6 h2 hc⟩
theorem Zp.erased{H:Hp}{l:Addr}{ts:List Addr}{ps:List Zc}(h1:H l=some (.lst (ts.map V.ref)))(h2:Paired (Zs H) ts ps)(k:Nat):Zp (upd H l (.lst ((ts.map V.ref).eraseIdx k))) l (ps.eraseIdx k):=⟨ts.eraseIdx k,by rw [Zi,Zkq],X6 (Zgp h2 k) h1⟩
theorem Zpk{k n:Nat}(h:k<n):seqIndex? (k:Int) n=some k:=by
 unfold seqIndex?;have h1:¬(k:Int)<0:=by lia
 simp only [h1,if_false];rw [if_pos (by simp;lia)];simp
theorem Wh{a:Int}{n:Nat}(h:0<n):∃k:Nat,a%(n:Int)=(k:Int)/\k<n:=by
 have h0:=Int.emod_nonneg a (show (n:Int)≠0 by lia);have h1:=Int.emod_lt_of_pos a (show (0:Int)<n by lia);exact ⟨(a%(n:Int)).toNat,by lia,by lia⟩
theorem Zny{α β:Type}{R:α->β->Prop}{l₁:List α}{l₂:List β}(h:Paired R l₁ l₂)(n:Nat):Paired R (l₁.drop n) (l₂.drop n):=by
 induction n generalizing l₁ l₂ with
 | zero=>exact h
 | succ n ih =>
  cases h with
  | nil=>exact .nil
  | cons _ t=>exact ih t
theorem Zk2{l D:Addr}{ts:List Addr}{qs:List Zc}{keep:Zc->Bool}{w:Option V}{H1:Hp}{Q:VK}{σ:St}(hl:H1 l=some (.lst (ts.map V.ref)))(i8:Paired (Zs H1) ts qs)(hn:qs.length<=100)(hD:H1 D=none)(q:∀H',Same H1 H'->Zp H' D (qs.filter keep)->Q (.ref D) H'){fr:St->St}(u9:fr σ=[none,w]){tf:TT}(htf:∀(t:Addr) (x:Zc) (H':Hp) (R:Bool->Hp->Prop),Same H1 H'->Zs H' t x->x∈qs->R (keep x) H'->tf [some (.ref t),w] H' R) :
  Zfd (Itl K l) fr (Zdt 0) tf (Zic 0) Q σ H1 D:=by
 have hln:=Paired.length i8;refine Wb (xs:=ts.map V.ref) (fun i ys H'=>(∃Q1:List Addr,ys=Q1.map V.ref/\Paired (Zs H1) Q1 ((qs.take i).filter keep))/\H' D=some (.lst ys)/\Same H1 H') ⟨⟨[],rfl,.nil⟩,Zi,Same.new hD⟩ ?_ ?_ ?_
 ·rintro i ys H' _ ⟨_,_,sm⟩;exact SqL.of (sm.at hl)
 ·rintro k v ys H' hk ⟨⟨Q1,rfl,K8⟩,u6,sm⟩;rw [List.getElem?_map] at hk;obtain ⟨t,ht,rfl⟩:=Option.map_eq_some_iff.mp hk;obtain ⟨x,hx,r2⟩:=Paired.get i8 ht;unfold Zco;rw [u9];have g8:Q1.length<=100:=by
   rw [Paired.length K8];have:=List.length_filter_le keep (qs.take k);rw [List.length_take] at this;lia
  refine ⟨Zat.set rfl,htf t x H' _ sm (r2.mono sm) (List.mem_of_getElem? hx) (Yo (fun hc=>?_) (fun hc=>?_))⟩
  ·refine (exR rfl ⟨u6,by rw [List.length_map];exact Zx (by lia),⟨Q1++[t],by rw [List.map_append];rfl,?_⟩,Zi,fun b o e=>?_⟩)
   ·rw [List.take_add_one,hx,List.filter_append];refine Paired.append K8 ?_;rw [show (some x).toList=[x] from rfl,List.filter_cons,if_pos hc];exact .cons r2 .nil
   ·rw [Zd (Zg e hD)];exact sm.at e
  ·refine ⟨⟨Q1,rfl,?_⟩,u6,sm⟩;rw [List.take_add_one,hx,List.filter_append,show (some x).toList=[x] from rfl,List.filter_cons,if_neg hc,List.filter_nil,List.append_nil];exact K8
 ·rintro ys H6 ⟨⟨Q1,rfl,K8⟩,E5,s6⟩;rw [List.length_map,hln,List.take_length] at K8;exact q H6 s6 ⟨Q1,E5,Paired.mapP K8 fun _ _ r=>r.mono s6⟩
def Zun(K:Frag):Sp:=fun vs H Q _=>∃(cl:Addr) (cs:List Int),vs=[.ref cl]/\SqL K H cl (cs.map V.int)/\(∀c∈cs,0<=c)/\cs.length<=63 /\
 ∀(t:Addr) (H':Hp) (pl jl:Addr) (ps:List Zc) (js:List (Zc×Zc)) (n:Nat),Same H H'->H' t=some (.tup [.ref pl,.ref jl])->Zp H' pl ps->Yi H' jl js->H pl=none->H jl=none->Net ps js []->ps.length<=39->(∀p∈ps,nmD p.2 63\/∃j,j<90/\p.2=Wf j)->Q (.ref t) H'
theorem Zka(T:Tx K mg):Zw P w K mg base CX0 3 T.bW.f T.bW.fd ["_law_cells_here"] (Zun K):=by
 refine T.bW.F.okW Yd fun a9 A outer s H vs Q E hr h=>?_
 ·obtain ⟨cl,cs,rfl,p7,D9,hcn,q⟩:=h;intro X;refine WSs.step (Zv (i:=1) Yd.nd (Zo Za)) ⟨szA,fun pl H1 s1 n1 e1=>?_⟩;refine WSs.step (Zv (i:=2) Yd.nd (Zo Za)) ⟨szA,fun jl H2 s2 n2 e2=>?_⟩;refine WSs.step (Zv (i:=3) Yd.nd (Zo Za)) ⟨szA,fun rl0 H3 s3 n3 e3=>?_⟩;have s03:=s1.trans (s2.trans s3);have fp:H pl=none:=n1;have fj:H jl=none:=s1.free n2;have fr0:H rl0=none:=s1.free (s2.free n3);have npj:pl≠jl:=Zg e1 n2;have nrp:rl0≠pl:=Ne.symm (Zg (s2.at e1) n3);have nrj:rl0≠jl:=Ne.symm (Zg e2 n3);have hp0:Zp H3 pl []:=⟨[],s3.at (s2.at e1),.nil⟩
  have hj0:Yi H3 jl []:=⟨[],s3.at e2,.nil⟩
  have hr0:Zp H3 rl0 []:=⟨[],e3,.nil⟩
  clear s1 s2 s3 n1 n2 n3 e1 e2 e3;let I4:=fun (i:Nat) (σ:St) (H':Hp)=>Same H H'/\∃rl o4 o5 o6 o7 o8 o9 V2 o11 ps js Z3,σ=[some (.ref cl),some (.ref pl),some (.ref jl),some (.ref rl),o4,o5,o6,o7,o8,o9,V2,o11]/\Zp H' pl ps/\Yi H' jl js/\Zp H' rl Z3/\Xg i (2 * i) ps js Z3/\H rl=none/\rl≠pl/\rl≠jl
  refine WSs.step (We PassesOwn.never rfl (Zif rfl T.cw (Zb (pv 0) Za)) (Zd6 rfl (Z7 (Xn (i:=4) Yd.nd) (Z7 (Xn (i:=5) Yd.nd) X8))) Zr) ⟨_,rfl,cl,rfl,⟨_,s03.seq p7⟩,Zge (xs:=cs.map V.int) I4
   ⟨s03,rl0,none,none,none,none,none,none,none,none,_,_,_,rfl,hp0,hj0,hr0,Xg.start,fr0,nrp,nrj⟩ ?_ ?_ ?_⟩
  ·rintro i σ H' _ ⟨sm,_⟩;exact sm.seq p7
  ·rintro i v σ H4 hi ⟨s4,rl,o4,o5,o6,o7,o8,o9,V2,o11,ps,js,Z3,rfl,i7,t9,V1,hok,frl,N3,N4⟩ tp H5 s5 n5 e5;rw [List.getElem?_map] at hi;obtain ⟨c,hc,rfl⟩:=Option.map_eq_some_iff.mp hi;have hi63:i<63:=by
    have:=(List.getElem?_eq_some_iff.mp hc).1;lia
   have hc0:0<=c:=D9 c (List.mem_of_getElem? hc);refine ⟨tp,_,rfl,SqT.of e5,rfl,_,_,rfl,_,_,rfl,rfl,?_⟩;obtain ⟨kd,K0,S4⟩:∃kd:Str,atI [V.str "plain",.str "plain",.str "plain",.str "points",.str "points",.str "cross",.str "gate",.str "stop"] (c%8)=some (.str kd)/\kd∈Ww:=by
    have h0:=Int.emod_nonneg c (show (8:Int)≠0 by decide);have h1:=Int.emod_lt_of_pos c (show (0:Int)<8 by decide);generalize c%8=m at h0 h1;have:m=0\/m=1\/m=2\/m=3\/m=4\/m=5\/m=6\/m=7:=by lia
    rcases this with rfl|rfl|rfl|rfl|rfl|rfl|rfl|rfl <;>exact ⟨_,rfl,by simp [Ww]⟩
   obtain ⟨g1,g2,g3,g4,g5,g6⟩:=Zie kd S4;refine WSs.step (Zv (i:=6) Yd.nd (Z1 (K:=K) rfl (Zo (Zb Zf (Zb Zf (Zb Zf (Zb Zf (Zb Zf (Zb Zf (Zb Zf (Zb Zf Za))))))))) (Zl Yc (pv 5) Ze))) ⟨szA,fun lk H6 s6 n6 e6=>(exR rfl (exQ rfl rfl ⟨(by show (0:Int)<8;decide),.inl ⟨lk,_,_,.str kd,rfl,rfl,SqL.of e6,K0,?_⟩⟩))⟩;refine WSs.step (Zv (i:=7) Yd.nd (Yj (Zgd T) hr T.de (Zb (pv 6) Za))) (exR rfl ⟨kd,rfl,fun le H7 s7 n7 e7=>?_⟩);have s47:=s5.trans (s6.trans s7);have N0:=s4.trans s47;have nl1:pl≠le:=let ⟨_,z,_⟩:=i7;Zg ((s5.trans s6).at z) n7;have nl2:jl≠le:=let ⟨_,z,_⟩:=t9;Zg ((s5.trans s6).at z) n7;have i7:=i7.mono s47;have t9:=t9.mono s47;have V1:=V1.mono s47;obtain ⟨ts,ht,i8⟩:=i7;obtain ⟨rs,hr',N2⟩:=V1;have c1:=Paired.length i8;have c2:=Paired.length N2;refine WSs.step (Z0 (Zm Zls (Zl Wj (Zl Wj (Zq (r:=W1 K) W6 (by rfl) T.bx PySem.boot_len (Zb (pv 1) Za)) (Zq (r:=W1 K) W6 (by rfl) T.bx PySem.boot_len (Zb (pv 3) Za))) (Zq (r:=W1 K) W6 (by rfl) T.bx PySem.boot_len (Zb (pv 7) Za))) Ze (Zu _)) Zr Zn) (exR rfl (.inl ⟨pl,_,rfl,.inl (SqL.of ht),_,rfl,.inl ⟨rl,_,rfl,.inl (SqL.of hr'),.inl (exQ rfl rfl (exR rfl (.inl ⟨le,_,rfl,.inl (SqL.of e7),.inl (exQ rfl rfl (exQ rfl rfl (exR rfl (Yo (fun hgt=>?_) (fun hgt=>?_)))))⟩)))⟩⟩))
   ·exact WSs.last Zm9 ⟨N0,rl,_,_,_,_,_,_,_,_,ps,js,Z3,rfl,⟨ts,ht,i8⟩,t9,⟨rs,hr',N2⟩,hok.mono (by lia) (by lia),frl,N3,N4⟩
   have hgt:ps.length+Z3.length+(Ym kd).length<=38:=by
    have z:¬(((ts.map V.ref).length:Int)+((rs.map V.ref).length:Int)+(((Ym kd).map V.str).length:Int) >38):=fun z=>hgt (decide_eq_true z)
    rw [List.length_map,List.length_map,List.length_map] at z;lia
   obtain ⟨n,hn⟩:∃n,n=Yl kd (nmF (c / 8)) i:=⟨_,rfl⟩
   refine WSs.step (Zv (i:=8) Yd.nd (Yj (Zdu T) hr T.cM (Zb (pv 6) (Zb (Zl Z9 (pv 5) Ze) (Zb (pv 4) Za))))) (exR rfl (exR rfl (exQ rfl rfl ⟨⟨by decide,by decide⟩,_,rfl,kd,c / 8,i,rfl,g3,by lia,Int.ediv_nonneg hc0 (by decide),by lia,?_⟩)));rw [<-hn];refine WSs.step (Z4 (Zcm PySem.F.plainAttrs_list PySem.F.slot_list_append PySem.F.type_list_append Xs (pv 1) (Zb (Zj (Zb (pv 6) (Zb (pv 8) Za))) Za))) (exR rfl ⟨.inl ⟨rfl,_,SqL.of ht⟩,_,rfl,_,rfl,szA,fun t8 H8 s8 n8 e8=>⟨pl,_,_,rfl,rfl,s8.at ht,?_,?_⟩⟩)
   ·rw [List.length_map];exact Zx (by lia)
   have ok8:=hok.add (c:=nmF (c / 8)) (by lia) S4 hgt;rw [<-hn] at ok8;obtain ⟨us,hu,y8⟩:=t9.mono s8;have p9:Zp (upd H8 pl (.lst (ts.map V.ref++[.ref t8]))) pl (ps++[(kd,n)]):=⟨ts++[t8],by rw [Zi,List.map_append];rfl,X6 (Paired.append (Paired.mapP i8 fun _ _ r=>r.mono s8) (.cons e8 .nil)) (s8.at ht)⟩
   have j9:Yi (upd H8 pl (.lst (ts.map V.ref++[.ref t8]))) jl js:=⟨us,(Zd (Ne.symm npj)).trans hu,Zaa y8 (s8.at ht)⟩
   have r9:Zp (upd H8 pl (.lst (ts.map V.ref++[.ref t8]))) rl Z3:=⟨rs,(Zd N3).trans (s8.at hr'),X6 (Paired.mapP N2 fun _ _ r=>r.mono s8) (s8.at ht)⟩
   have e9:upd H8 pl (.lst (ts.map V.ref++[.ref t8])) le=_:=(Zd (Ne.symm nl1)).trans (s8.at e7);have s09:Same H (upd H8 pl (.lst (ts.map V.ref++[.ref t8]))):=fun b o z=>(Zd (Zg z fp)).trans (s8.at (N0.at z))
   generalize (upd H8 pl (.lst (ts.map V.ref++[.ref t8])))=H9 at p9 j9 r9 e9 s09;have C9:=hok;clear i8 N2 ht hr' hu y8 s8 s47 N0 t9 hok n8 e8;refine WSs.step (Zad (i:=9) (N':=["_law_end", "_law_name"]) Yd.nd rfl (Or.inl rfl) rfl (Ya.std 1 [8] rfl (by trivial) (by trivial) rfl ⟨rfl,trivial⟩ rfl rfl ⟨(exR rfl ⟨rfl,rfl⟩),trivial⟩) (Y0 (pv 7)) (fun _ _ _ _=>(Zbo (i:=0) (by show (["_law_end", "_law_name"]:List Str).Nodup;decide +kernel))) (fun _ _ _ _=>Zda) (fun _ _ _ _=>(Zj (Zb (pv 1) (Zb (pv 0) Za))))) (exR rfl ⟨le,rfl,⟨_,SqL.of e9⟩,fun lf M4=>?_⟩);refine Zip (xs:=Ym kd) (x:=n) e9 (by lia) M4 (fun H10 v8 f10=>?qq) ?aa ?bb
   case aa=>rfl
   case bb=>rfl
   have p10:=p9.mono v8;have j10:=j9.mono v8;have r10:=r9.mono v8;have s010:=s09.trans v8;have flf:H lf=none:=s09.free M4;have nfp:lf≠pl:=let ⟨_,z,_⟩:=p9;Ne.symm (Zg z M4);have nfj:lf≠jl:=let ⟨_,z,_⟩:=j9;Ne.symm (Zg z M4);have nfr:lf≠rl:=let ⟨_,z,_⟩:=r9;Ne.symm (Zg z M4);clear p9 j9 r9 s09 e9 v8;let I5:=fun (σ:St) (H':Hp)=>Same H H'/\∃rest' fresh' Q4,σ=[some (.ref cl),some (.ref pl),some (.ref jl),some (.ref rl),some (.int i),some (.int c),some (.str kd),some (.ref le),some (.str n),some (.ref lf),V2,o11]/\Zp H' pl (ps++[(kd,n)])/\Yi H' jl Q4/\Zp H' rl rest'/\Zp H' lf fresh'/\Xg (i+1) (2 * i+1) (ps++[(kd,n)]) Q4 (rest'++fresh')
   refine WSs.cut I5 ?_ ?_
   ·refine WS.of (Z0 (Zm (r:=Zgb K) (Zh2 hr) (pv 3) (Zo Za) (Zu _)) Zr Zn) (exR rfl ⟨szA,fun l0 H11 w4 n11 gB=>.inr (.inl ⟨2,.lst (Z3.map trP),.lst [],by decide,.inr ⟨_,_,rfl,rfl⟩,Zp.im (r10.mono w4),Im.lst (SqL.of gB) .nil,_,rfl,Yo (fun u4=>?_) (fun u4=>?_)⟩)⟩)
    ·have u4:0<Z3.length:=by
      cases Z3 with
      | nil=>simp at u4
      | cons=>simp
     obtain ⟨L9,Q3,hrs1⟩:=r10.mono w4;obtain ⟨N5,hf1,S7⟩:=f10.mono w4;obtain ⟨us1,hu1,hus1⟩:=j10.mono w4;have cr:=Paired.length hrs1;have cf:=Paired.length S7;have cu:=Paired.length hus1;rw [List.length_map] at cf;have hjl1:=C9.jl;obtain ⟨k1,hk1,S8⟩:=Wh (a:=c / 24) (n:=(L9.map V.ref).length) (by rw [List.length_map];lia);obtain ⟨k2,hk2,S9⟩:=Wh (a:=c / 100) (n:=(N5.map V.ref).length) (by rw [List.length_map];lia);obtain ⟨ta,hta⟩:∃ta,L9[k1]? =some ta:=⟨_,List.getElem?_eq_getElem (by rw [List.length_map] at S8;exact S8)⟩
     obtain ⟨tb,P5⟩:∃tb,N5[k2]? =some tb:=⟨_,List.getElem?_eq_getElem (by rw [List.length_map] at S9;exact S9)⟩
     obtain ⟨qa,hqa,hqat⟩:=Paired.get hrs1 hta;obtain ⟨qb,hqb,hqbt⟩:=Paired.get S7 P5;refine WSs.last (Z4 (Zcm PySem.F.plainAttrs_list PySem.F.slot_list_append PySem.F.type_list_append Xs (pv 2) (Zb (Zj (Zb (Zcm PySem.F.plainAttrs_list PySem.F.slot_list_pop PySem.F.type_list_pop Znd (pv 3) (Zb (Zl Yc (Zl Z9 (pv 5) Ze) (Zq (r:=W1 K) W6 (by rfl) T.bx PySem.boot_len (Zb (pv 3) Za))) Za)) (Zb (Zcm PySem.F.plainAttrs_list PySem.F.slot_list_pop PySem.F.type_list_pop Znd (pv 9) (Zb (Zl Yc (Zl Z9 (pv 5) Ze) (Zq (r:=W1 K) W6 (by rfl) T.bx PySem.boot_len (Zb (pv 9) Za))) Za)) Za))) Za))) (exR rfl ⟨.inl ⟨rfl,_,SqL.of hu1⟩,_,rfl,.inl ⟨rfl,_,SqL.of Q3⟩,_,rfl,_,_,rfl,rfl,⟨by decide,by decide⟩,_,rfl,.inl ⟨rl,_,rfl,.inl (SqL.of Q3),_,_,rfl,rfl,by lia,rl,_,_,k1,.ref ta,rfl,rfl,Q3,by lia,by rw [List.length_map] at S8;lia,by rw [hk1];exact Zpk S8,by rw [List.getElem?_map,hta];rfl,?_⟩⟩);have r12:=Zp.erased Q3 hrs1 k1;have f12:=Zp.offL (o:=.lst ((L9.map V.ref).eraseIdx k1)) ⟨N5,hf1,S7⟩ Q3 nfr;have p12:=(p10.mono w4).offL (o:=.lst ((L9.map V.ref).eraseIdx k1)) Q3 (Ne.symm N3);have hu12:upd H11 rl (.lst ((L9.map V.ref).eraseIdx k1)) jl=_:=(Zd (Ne.symm N4)).trans hu1;have V3:=Zaa (o:=.lst ((L9.map V.ref).eraseIdx k1)) hus1 Q3;have v0:upd H11 rl (.lst ((L9.map V.ref).eraseIdx k1)) lf=_:=(Zd nfr).trans hf1;have V4:=X6 (o:=.lst ((L9.map V.ref).eraseIdx k1)) S7 Q3;have a12:=hqat.offL (o:=.lst ((L9.map V.ref).eraseIdx k1)) Q3;have b12:=hqbt.offL (o:=.lst ((L9.map V.ref).eraseIdx k1)) Q3;have A3:Same H (upd H11 rl (.lst ((L9.map V.ref).eraseIdx k1))):=fun b o z=>(Zd (Zg z frl)).trans (w4.at (s010.at z))
     generalize (upd H11 rl (.lst ((L9.map V.ref).eraseIdx k1)))=H12 at r12 f12 p12 hu12 V3 v0 V4 a12 b12 A3;refine (exR rfl ⟨.inl ⟨rfl,_,SqL.of v0⟩,_,rfl,_,_,rfl,rfl,⟨by decide,by decide⟩,_,rfl,.inl ⟨lf,_,rfl,.inl (SqL.of v0),_,_,rfl,rfl,by lia,lf,_,_,k2,.ref tb,rfl,rfl,v0,by lia,by rw [List.length_map] at S9;lia,by rw [hk2];exact Zpk S9,by rw [List.getElem?_map,P5];rfl,?_⟩⟩);have f13:=Zp.erased v0 V4 k2;have r13:=r12.offL (o:=.lst ((N5.map V.ref).eraseIdx k2)) v0 (Ne.symm nfr);have p13:=p12.offL (o:=.lst ((N5.map V.ref).eraseIdx k2)) v0 (Ne.symm nfp);have hu13:upd H12 lf (.lst ((N5.map V.ref).eraseIdx k2)) jl=_:=(Zd (Ne.symm nfj)).trans hu12;have V5:=Zaa (o:=.lst ((N5.map V.ref).eraseIdx k2)) V3 v0;have a13:=a12.offL (o:=.lst ((N5.map V.ref).eraseIdx k2)) v0;have b13:=b12.offL (o:=.lst ((N5.map V.ref).eraseIdx k2)) v0;have k7:Same H (upd H12 lf (.lst ((N5.map V.ref).eraseIdx k2))):=fun b o z=>(Zd (Zg z flf)).trans (A3.at z)
     generalize (upd H12 lf (.lst ((N5.map V.ref).eraseIdx k2)))=H13 at f13 r13 p13 hu13 V5 a13 b13 k7;refine ⟨szA,fun tj H14 k8 n14 P6=>⟨jl,_,_,rfl,rfl,k8.at hu13,?_,?_⟩⟩
     ·rw [List.length_map];exact Zx (by lia)
     have T0:=k8.at hu13;have hqn:qb.1=n:=by
      rw [List.getElem?_map] at hqb;obtain ⟨x,_,rfl⟩:=Option.map_eq_some_iff.mp hqb
      rfl
     have hqo:qa.1≠qb.1:=by
      rw [hqn,hn];have h1:=Zea (C9.net.perm.subset (List.mem_append_right _ (List.mem_of_getElem? hqa)));exact fun z=>C9.new (by lia) S4 (z ▸ h1)
     refine ⟨fun b o z=>(Zd (Zg z fj)).trans (k8.at (k7.at z)),Z3.eraseIdx k1,_,js++[(qa,qb)],rfl,(p13.mono k8).offL T0 npj,⟨us1++[tj],?_,?_⟩,(r13.mono k8).offL T0 N4,(f13.mono k8).offL T0 nfj,ok8.join (Ztl hqa hqb) hqo⟩
     ·rw [Zi,List.map_append];rfl
     ·exact Zaa (Paired.append (Paired.mapP V5 fun _ _ r=>r.mono k8) (.cons ⟨ta,tb,P6,a13.mono k8,b13.mono k8⟩ .nil)) T0
    ·exact ⟨s010.trans w4,Z3,_,js,rfl,p10.mono w4,j10.mono w4,r10.mono w4,f10.mono w4,ok8.mono (Nat.le_refl _) (by lia)⟩
   rintro σ H12 ⟨s012,V6,N6,js2,rfl,p12,j12,⟨rs2,hr12,hrs2⟩,⟨fs2,v0,hfs2⟩,E7⟩;have sm12:=E7.sum;have cr:=Paired.length hrs2;have cf:=Paired.length hfs2;rw [List.length_append,List.length_append] at sm12;refine WSs.step (Zv (i:=3) Yd.nd (Zl Wj (pv 3) (pv 9))) (exR rfl (exR rfl (.inr (.inr ⟨rl,lf,_,_,rfl,rfl,hr12,v0,?_,fun rm H13 k7 n13 gj=>?_⟩))))
   ·rw [List.length_map,List.length_map];exact sz (by lia)
   have r13:Zp H13 rm (V6++N6):=Zp.app (Paired.mapP hrs2 fun _ _ r=>r.mono k7) (Paired.mapP hfs2 fun _ _ r=>r.mono k7) gj;have p13:=p12.mono k7;have j13:=j12.mono k7;have s013:=s012.trans k7;have frm:H rm=none:=s012.free n13;have nmp:rm≠pl:=let ⟨_,z,_⟩:=p12;Ne.symm (Zg z n13);have nmj:rm≠jl:=let ⟨_,z,_⟩:=j12;Ne.symm (Zg z n13);clear hr12 v0 hrs2 hfs2 p12 j12 s012 k7 p10 j10 r10 f10 s010 gj;obtain ⟨op,hop⟩:∃op,op=V6++N6:=⟨_,rfl⟩
   rw [<-hop] at r13 E7;have hopl:op.length<=39:=by rw [hop,List.length_append];lia
   clear hop sm12 cr cf;obtain ⟨rs,hrm,N2⟩:=r13;have crs:=Paired.length N2;refine WSs.step (Zad (i:=10) (N':=["_law_end", "_law_rest"]) Yd.nd rfl (Or.inl rfl) rfl (Ya.std 1 [3] rfl (by trivial) (by trivial) rfl ⟨rfl,trivial⟩ rfl rfl ⟨(exR rfl ⟨rfl,rfl⟩),trivial⟩) (Y0 (Zcv (r:=Zpd K) Zq9 (pv 3) (Zdg Ze) Zes)) (fun _ _ _ _=>(Zbo (i:=0) (by show (["_law_end", "_law_rest"]:List Str).Nodup;decide +kernel))) (fun _ _ _ _=>(Zd4 (Zm (r:=Zgb K) (Zh2 hr) (Z1 (K:=K) rfl (pv 0) Ze) (Z1 (K:=K) rfl (Z1 (K:=K) rfl (pv 1) Ze) Ze) (Zu _)))) (fun _ _ _ _=>(pv 0))) (exR rfl (exR rfl (.inr (.inl ⟨rm,_,rfl,SqL.of hrm,fun l1 H14 k8 n14 P6=>⟨l1,rfl,⟨_,SqL.of P6⟩,fun D hD=>?_⟩⟩))));rw [show (some (1:Int))=some ((1:Nat):Int) from rfl,Zfz,<-List.map_drop] at P6;have G9:Paired (Zs H14) rs op:=Paired.mapP N2 fun _ _ r=>r.mono k8
   have N7:=k8.at hrm;obtain ⟨q0,hq0⟩:∃q0,q0=op.getD 0 ("", ""):=⟨_,rfl⟩
   refine Zk2 (keep:=fun x=>decide (x.1≠q0.1)) (w:=some (.ref rm)) P6 (Zny G9 1) (by rw [List.length_drop];lia) hD (fun H15 B2 f15=>?q2) ?a2 ?b2
   case a2=>rfl
   case b2 =>
    intro t x H' R sm hx hm hR;cases G9 with
    | nil=>simp at hm
    | cons r0 _ =>
     subst hq0;refine (exR rfl (.inr (.inl ⟨t,_,_,_,rfl,rfl,SqT.of hx,rfl,_,rfl,.inl ⟨rm,_,_,_,rfl,rfl,SqL.of (sm.at N7),(show atI _ ((0:Nat):Int)=_ from Y1 rfl),.inr (.inl ⟨_,_,_,_,rfl,rfl,SqT.of (sm.at r0),rfl,.inl ⟨rfl,_,rfl,?_⟩⟩)⟩⟩)));simpa using hR
   obtain ⟨K2,V7⟩:∃K2,K2=(op.drop 1).filter fun x=>decide (x.1≠q0.1):=⟨_,rfl⟩
   rw [<-V7] at f15;have p15:=(p13.mono k8).mono B2;have j15:=(j13.mono k8).mono B2;have N8:=B2.at N7;have N9:Paired (Zs H15) rs op:=Paired.mapP G9 fun _ _ r=>r.mono B2
   have s015:=s013.trans (k8.trans B2);clear p13 j13 s013 k8 B2 N7 G9 hrm N2 P6;refine WSs.last (Z0 (PW.pt (Zd9 (Zm (r:=Zgb K) (Zh2 hr) (pv 10) (Zo Za) (Zu _)) (Zbp (Zm (r:=Wa K) (Wd hr) (Zl Yc (Zl Z9 (pv 5) Ze) Ze) Ze (Zu _))))) Zr Zn) (exR rfl ⟨szA,fun l0 H16 u0 n16 e16=>.inr (.inl ⟨2,.lst (K2.map trP),.lst [],by decide,.inr ⟨_,_,rfl,rfl⟩,Zp.im (f15.mono u0),Im.lst (SqL.of e16) .nil,_,rfl,Yo (fun u4=>?_) (fun u4=>?_)⟩)⟩)
   ·refine (exR rfl (exQ rfl rfl ⟨⟨by decide,by decide⟩,_,_,rfl,rfl,(by show (0:Int)<3;decide),.inl ⟨rfl,_,rfl,Yo (fun _=>?_) (fun _=>?_)⟩⟩))
    ·obtain ⟨ns,hnl,R1⟩:=f15.mono u0;have cn:=Paired.length R1;have hnl0:0<K2.length:=by
      cases K2 with
      | nil=>simp at u4
      | cons=>simp
     obtain ⟨k3,hk3,hk3l⟩:=Wh (a:=c / 1500) (n:=(ns.map V.ref).length) (by rw [List.length_map];lia);obtain ⟨to,hto⟩:∃to,ns[k3]? =some to:=⟨_,List.getElem?_eq_getElem (by rw [List.length_map] at hk3l;exact hk3l)⟩
     obtain ⟨q3,hq3,hq3t⟩:=Paired.get R1 hto;have hq3m:q3∈K2:=List.mem_of_getElem? hq3;refine WSs.step (Zv (i:=11) Yd.nd (Z1 (K:=K) rfl (pv 10) (Zl Yc (Zl Z9 (pv 5) Ze) (Zq (r:=W1 K) W6 (by rfl) T.bx PySem.boot_len (Zb (pv 10) Za))))) (exR rfl (exR rfl (exQ rfl rfl ⟨⟨by decide,by decide⟩,_,rfl,.inl ⟨D,_,rfl,.inl (SqL.of hnl),_,_,rfl,rfl,by lia,.inl ⟨D,_,_,.ref to,rfl,rfl,SqL.of hnl,by rw [hk3];exact Y1 (by rw [List.getElem?_map,hto];rfl),?_⟩⟩⟩)));obtain ⟨us,hu,y8⟩:=j15.mono u0;have cu:=Paired.length y8;have hju:=E7.jl;have V8:=u0.at N8;have hrs16:Paired (Zs H16) rs op:=Paired.mapP N9 fun _ _ r=>r.mono u0
     rw [V7] at hq3m;obtain ⟨hqd,hqk⟩:=List.mem_filter.mp hq3m;have hqk:q3.1≠q0.1:=of_decide_eq_true hqk;obtain ⟨t0,rs',tl,rfl,rfl,r0,hrt⟩:∃t0 rs' tl,rs=t0 ::rs'/\op=q0 ::tl/\Zs H16 t0 q0/\Paired (Zs H16) rs' tl:=by
      cases hrs16 with
      | nil=>simp at hqd
      | cons r0 rt=>exact ⟨_,_,_,rfl,by rw [hq0];rfl,by rw [hq0];exact r0,rt⟩
     have hqd:q3∈tl:=hqd;refine WSs.step (Z4 (Zcm PySem.F.plainAttrs_list PySem.F.slot_list_append PySem.F.type_list_append Xs (pv 2) (Zb (Zj (Zb (pv 11) (Zb (Z1 (K:=K) rfl (pv 3) Ze) Za))) Za))) (exR rfl ⟨.inl ⟨rfl,_,SqL.of hu⟩,_,rfl,_,rfl,.inl ⟨rm,_,_,.ref t0,rfl,rfl,SqL.of V8,(show atI _ ((0:Nat):Int)=_ from Y1 rfl),szA,fun tj H17 B3 n17 e17=>⟨jl,_,_,rfl,rfl,B3.at hu,?_,?_⟩⟩⟩)
     ·rw [List.length_map];exact Zx (by lia)
     have T1:=B3.at hu;have j18:Yi (upd H17 jl (.lst (us.map V.ref++[.ref tj]))) jl (js2++[(q3,q0)]):=⟨us++[tj],by rw [Zi,List.map_append];rfl,Zaa (Paired.append (Paired.mapP y8 fun _ _ r=>r.mono B3) (.cons ⟨to,t0,e17,hq3t.mono B3,r0.mono B3⟩ .nil)) T1⟩
     have p18:=((p15.mono u0).mono B3).offL (o:=.lst (us.map V.ref++[.ref tj])) T1 npj;have V9:upd H17 jl (.lst (us.map V.ref++[.ref tj])) rm=_:=(Zd nmj).trans (B3.at V8);have hrt18:=X6 (o:=.lst (us.map V.ref++[.ref tj])) (Paired.mapP hrt fun _ _ r=>r.mono B3) T1;have q18:=(hq3t.mono B3).offL (o:=.lst (us.map V.ref++[.ref tj])) T1;have K9:Same H (upd H17 jl (.lst (us.map V.ref++[.ref tj]))):=fun b o z=>(Zd (Zg z fj)).trans (B3.at (u0.at (s015.at z)))
     generalize (upd H17 jl (.lst (us.map V.ref++[.ref tj])))=H18 at j18 p18 V9 hrt18 q18 K9;refine WSs.last (Zv (i:=3) Yd.nd (Wt (N':=["_law_end", "_law_other"]) rfl (Ya.std 1 [11] rfl (by trivial) (by trivial) rfl ⟨rfl,trivial⟩ rfl rfl ⟨(exR rfl ⟨rfl,rfl⟩),trivial⟩) (Y0 (Zcv (r:=Zpd K) Zq9 (pv 3) (Zdg Ze) Zes)) (fun _ _ _ _=>(Zbo (i:=0) (by show (["_law_end", "_law_other"]:List Str).Nodup;decide +kernel))) (fun _ _ _ _=>(Zd4 (Zm (r:=Zgb K) (Zh2 hr) (pv 0) (pv 1) (Zu _)))) (fun _ _ _ _=>(pv 0)))) (exR rfl (exR rfl (.inr (.inl ⟨rm,_,rfl,SqL.of V9,fun l2 H19 s19 n19 e19=>⟨l2,rfl,⟨_,SqL.of e19⟩,fun D2 C3=>?_⟩⟩))));rw [show (some (1:Int))=some ((1:Nat):Int) from rfl,Zfz,<-List.map_drop] at e19;have q19:=q18.mono s19;refine Zk2 (ts:=rs') (qs:=tl) (keep:=fun x=>decide (x≠q3)) (w:=some (.ref to)) e19 (Paired.mapP hrt18 fun _ _ r=>r.mono s19) (by simp at hopl;lia) C3 (fun H20 s20 f20=>?q4) ?a4 ?b4
     case a4=>rfl
     case b4 =>
      intro t x H' R sm hx hm hR;refine (exR rfl (exR rfl (.inr (.inl ⟨1,trP x,trP q3,by decide,.inl ⟨_,_,rfl,rfl⟩,Im.tup (SqT.of hx) (.cons (.str _) (.cons (.str _) .nil)),Im.tup (SqT.of (q19.mono sm)) (.cons (.str _) (.cons (.str _) .nil)),_,rfl,?_⟩))));have:(!decide (trP x=trP q3))=decide (x≠q3):=by
       rw [Bool.eq_iff_iff];simp [trP,Prod.ext_iff]
      rw [if_pos rfl,this];exact hR
     have O0:=s19.trans s20;exact ⟨K9.trans O0,D2,_,_,_,_,_,_,_,_,_,_,_,rfl,p18.mono O0,j18.mono O0,f20,(E7.join (Zrs E7.net.ond hqd) hqk).mono (by lia) (by lia),(K9.trans s19).free C3,(let ⟨_,z,_⟩:=p18;Ne.symm (Zg (s19.at z) C3)),(let ⟨_,z,_⟩:=j18;Ne.symm (Zg (s19.at z) C3))⟩
    ·exact ⟨s015.trans u0,rm,_,_,_,_,_,_,_,_,_,_,_,rfl,p15.mono u0,j15.mono u0,⟨rs,u0.at N8,Paired.mapP N9 fun _ _ r=>r.mono u0⟩,E7.mono (by lia) (by lia),frm,nmp,nmj⟩
   ·exact ⟨s015.trans u0,rm,_,_,_,_,_,_,_,_,_,_,_,rfl,p15.mono u0,j15.mono u0,⟨rs,u0.at N8,Paired.mapP N9 fun _ _ r=>r.mono u0⟩,E7.mono (by lia) (by lia),frm,nmp,nmj⟩
  ·rintro σ H4 ⟨s4,rl,o4,o5,o6,o7,o8,o9,V2,o11,ps,js,Z3,rfl,i7,t9,V1,hok,frl,N3,N4⟩;rw [List.length_map] at hok;have hsm:=hok.sum;have hjb:=hok.jl;refine WSs.step (Z4 (Yj (Zjq T) hr T.dN (Zb (pv 1) (Zb (pv 2) (Zb (pv 3) (Zb (Zq (Zty rfl) (by rfl) T.gF PyProof.Rows.boot_sum (Zb (pv 0) Za)) Za)))))) (exR rfl (exR rfl (exR rfl (exR rfl ⟨cl,cs,rfl,s4.seq p7,pl,jl,rl,Ztt cs,ps,js,Z3,rfl,i7,t9,V1,npj,N3,N4,by lia,by lia,by lia,fun H5 y4 A4 km hp5 hj5 hcl5=>?_⟩))));have hnet:=hok.done (by lia) hcl5;have hnl:y4.length=Z3.length:=by obtain ⟨ks,hk1,hk2,hk3,hk4⟩:=hcl5;rw [hk3,List.length_map,List.length_range]
   refine WSs.last (Zt (Zj (Zb (pv 1) (Zb (pv 2) Za)))) (exR rfl (exR rfl ⟨szA,fun t H6 s6 n6 e6=>q t H6 pl jl _ _ 0 (fun b o z=>s6.at (km b o (Zg z fp) (Zg z fj) (s4.at z))) e6 (hp5.mono s6) (hj5.mono s6) fp fj hnet ?_ ?_⟩))
   ·rw [List.length_append];lia
   ·intro p hp;rcases List.mem_append.mp hp with z|z
    ·obtain ⟨kd,h1,c,k,h2,h3⟩:=hok.nm p z;exact .inl ⟨kd,h1,c,k,by lia,h3⟩
    ·obtain ⟨ks,hk1,hk2,hk3,hk4⟩:=hcl5;rw [hk3] at z;obtain ⟨j,hj,rfl⟩:=List.mem_map.mp z;exact .inr ⟨j,by have:=List.mem_range.mp hj;lia,rfl⟩
def Zez(n k:Nat):Str:=("s" :Str)++Str.ofString (toString (n:Int))++(⟨#[Zdy.getD (k / 26) 0]⟩:Str)++(⟨#[Zdy.getD (k%26) 0]⟩:Str)
theorem Zpe:∀i<26,Zdy.getD i 0=97+i:=by decide
theorem Zg1(n k:Nat):(Zez n k).cps.toList=(("s" :Str)++Str.ofString (toString (n:Int))).cps.toList++[Zdy.getD (k / 26) 0]++[Zdy.getD (k%26) 0]:=by
 unfold Zez;rw [PySem.W.KT.app_list,PySem.W.KT.app_list]
theorem Zt0{n n' k k':Nat}(hk:k<600)(hk':k'<600)(h:Zez n k=Zez n' k'):k=k':=by
 have:=congrArg (fun s:Str=>s.cps.toList) h;simp only [Zg1] at this;obtain ⟨h1,h2⟩:=List.append_inj' this rfl;obtain ⟨_,h3⟩:=List.append_inj' h1 rfl;rw [List.cons.injEq] at h2 h3;rw [Zpe _ (by lia),Zpe _ (by lia)] at h2 h3;lia
def Zvz(H:Hp)(t:Addr)(q:Str×Str×Str):Prop:=H t=some (.tup [.str q.1,.str q.2.1,.str q.2.2])
def Zb5(H:Hp)(l:Addr)(sg:List (Str×Str×Str)):Prop:=∃ts:List Addr,H l=some (.lst (ts.map V.ref))/\Paired (Zvz H) ts sg
def Xq(ps:List Zc):List Zc:=ps.flatMap fun p=>if p.1∈[("plain" :Str), "gate", "stop"] then (Ym p.1).map (fun x=>(p.2,x)) else []
theorem Zo2(ps:List Zc)(p:Zc):Xq (ps++[p])=Xq ps++(if p.1∈[("plain" :Str), "gate", "stop"] then (Ym p.1).map (fun x=>(p.2,x)) else []):=by
 unfold Xq;rw [List.flatMap_append];simp
structure Zbq(es:List Zc)(i:Nat)(sg:List (Str×Str×Str)):Prop where
 at_:(sg.map fun q=>((q.2.1,q.2.2):Zc)).Sublist (es.take i)
 name:∀q∈sg,q.1=q.2.1\/∃n k,n<99/\k<i/\q.1=Zez n k
 nd:(sg.map Prod.fst).Nodup
 len:sg.length<=40
theorem Zbq.skip{es:List Zc}{i:Nat}{sg:List (Str×Str×Str)}(h:Zbq es i sg):Zbq es (i+1) sg:=by
 refine ⟨h.at_.trans ?_,fun q hq=>?_,h.nd,h.len⟩
 ·rw [List.take_add_one];exact List.sublist_append_left _ _
 ·rcases h.name q hq with z|⟨n,k,a,b,c⟩
  ·exact .inl z
  ·exact .inr ⟨n,k,a,by lia,c⟩
theorem Zbq.add{es:List Zc}{i:Nat}{sg:List (Str×Str×Str)}{e:Zc}{nm:Str}(h:Zbq es i sg)(he:es[i]? =some e)(hn:nm=e.1\/∃n,n<99/\nm=Zez n i)(j8:nm∉sg.map Prod.fst)(hl:sg.length<40):Zbq es (i+1) (sg++[(nm,e.1,e.2)]):=by
 refine ⟨?_,fun q hq=>?_,?_,by rw [List.length_append];simp;lia⟩
 ·rw [List.take_add_one,he,List.map_append];exact List.Sublist.append h.at_ (List.Sublist.refl _)
 ·rcases List.mem_append.mp hq with z|z
  ·exact h.skip.name q z
  ·rw [List.mem_singleton] at z;subst z;rcases hn with y|⟨n,a,b⟩
   ·exact .inl y
   ·exact .inr ⟨n,i,a,by lia,b⟩
 ·rw [List.map_append,List.nodup_append];refine ⟨h.nd,by simp,fun a ha b hb z=>?_⟩;simp at hb;exact j8 (by rw [<-hb,<-z];exact ha)
theorem Zbq.fresh{es:List Zc}{i n:Nat}{sg:List (Str×Str×Str)}(h:Zbq es i sg)(hi:i<600)(u4:∀n k e,e∈es->n<99->k<600->e.1≠Zez n k)(hn:n<99):Zez n i∉sg.map Prod.fst:=fun hm=>by
 obtain ⟨q,hq,e⟩:=List.mem_map.mp hm;rcases h.name q hq with z|⟨n',k,a,b,c⟩
 ·have:((q.2.1,q.2.2):Zc)∈es:=List.mem_of_mem_take (h.at_.subset (List.mem_map.mpr ⟨q,hq,rfl⟩));exact u4 n i _ this hn hi (z.symm.trans e)
 ·have:=Zt0 hi (by lia) (e.symm.trans c);lia
theorem Zb5.mono{H H':Hp}{l:Addr}{sg:List (Str×Str×Str)}(e:Same H H')(h:Zb5 H l sg):Zb5 H' l sg:=let ⟨ts,h1,h2⟩:=h;⟨ts,e.at h1,Paired.mapP h2 fun _ _ r=>e.at r⟩
def Zzn(K:Frag):Sp:=fun vs H Q _=>∃(pl:Addr) (c:Int) (ps:List Zc),vs=[.ref pl,.int c]/\Zp H pl ps/\ps.length<=45/\(∀n k e,e∈Xq ps->n<99->k<600->e.1≠Zez n k) /\
 ∀(l:Addr) (H':Hp) (sg:List (Str×Str×Str)),Same H H'->H l=none->Zb5 H' l sg->Zbq (Xq ps) (Xq ps).length sg->Q (.ref l) H'
theorem Zig(k:Str):(Ym k).length<=4:=by
 unfold Ym;split
 ·decide
 ·split
  ·decide
  ·split <;>decide
theorem Zf0:∀ps:List Zc,(Xq ps).length<=4 * ps.length
 | []=>by simp [Xq]
 | p ::ps=>by
  have:=Zf0 ps;have h2:=Zig p.1;rw [show Xq (p ::ps)=(if p.1∈[("plain" :Str), "gate", "stop"] then (Ym p.1).map (fun x=>((p.2,x):Zc)) else [])++Xq ps from rfl,List.length_append,List.length_cons];split
  ·rw [List.length_map];lia
  ·simp;lia
theorem Zp3:∀n<99,(Str.ofString (toString ((n:Nat):Int))).length<=2:=by trivial
theorem Zu5:∀n<99,(((n:Nat):Int).natAbs).log2<1920:=by trivial
theorem Zfp(T:Tx K mg):Zw P w K mg base CX0 2 T.aZ.f T.aZ.fd ["_law_parts", "_law_cell"] (Zzn K):=by
 refine T.aZ.F.okW Z2 fun a9 A outer s H vs Q E hr h=>?_
 ·obtain ⟨pl,c,ps,rfl,⟨ts,i8,hps⟩,i7,u4,q⟩:=h;intro X;have htl:ts.length=ps.length:=Paired.length hps;refine WSs.step (Zv (i:=2) Z2.nd Zf) ?_;refine WSs.step (Zv (i:=3) Z2.nd (Zo Za)) ⟨szA,fun l0 H1 s1 n1 e1=>?_⟩;let I6:=fun (i:Nat) (σ:St) (H':Hp)=>∃le,(∃o4 o5 o6,σ=[some (.ref pl),some (.int c),some (.str "abcdefghijklmnopqrstuvwxyz"),some (.ref le),o4,o5,o6,none,none,none,none])/\Same H H'/\Zp H' le (Xq (ps.take i))
  refine WSs.step (We PassesOwn.never rfl (Y0 (pv 0)) (Zd6 rfl (Z7 (Xn (i:=4) Z2.nd) (Z7 (Xn (i:=5) Z2.nd) X8))) Zr) (exR rfl ⟨pl,rfl,⟨_,SqL.of (s1.at i8)⟩,Zbg (xs:=ts.map V.ref) I6 ⟨l0,⟨none,none,none,rfl⟩,s1,[],e1,.nil⟩ ?_ ?_ ?_⟩)
  ·rintro i σ H' _ ⟨_,_,sm,_⟩;exact SqL.of (sm.at i8)
  ·rintro i v σ H2 hi ⟨le,⟨o4,o5,o6,rfl⟩,s2,us,B9,y8⟩;rw [List.getElem?_map] at hi;obtain ⟨t,ht,rfl⟩:=Option.map_eq_some_iff.mp hi;obtain ⟨p,hp,rp⟩:=Paired.get hps ht;have L5:i<ts.length:=(List.getElem?_eq_some_iff.mp ht).1;have hbl:=Zf0 (ps.take i);rw [List.length_take] at hbl;have hul:us.length=(Xq (ps.take i)).length:=Paired.length y8;have nxt:Xq (ps.take (i+1))=Xq (ps.take i)++(if p.1∈[("plain" :Str), "gate", "stop"] then (Ym p.1).map (fun x=>((p.2,x):Zc)) else []):=by
    rw [List.take_add_one,hp];exact Zo2 _ _
   refine ⟨t,_,rfl,SqT.of (s2.at rp),rfl,_,_,rfl,_,_,rfl,rfl,?_⟩;refine WSs.last (Z0 (Zm (r:=Zh3 K) (Zjb hr) (pv 4) (Zo (Zb Zf (Zb Zf (Zb Zf Za)))) (by with_unfolding_all rfl)) Zr Zn) (exR rfl ⟨szA,fun lk H3 s3 n3 e3=>.inl ⟨lk,_,rfl,.inl (SqL.of e3),rfl,rfl,_,rfl,?_⟩⟩);rw [if_neg Bool.false_ne_true,show inV (.str p.1) [.str "plain",.str "gate",.str "stop"]=decide (p.1∈[("plain" :Str), "gate", "stop"]) from Wv p.1 ["plain", "gate", "stop"]];refine Yo (fun hc=>?_) (fun hc=>⟨le,⟨_,_,_,rfl⟩,s2.trans s3,?_⟩)
   ·have hc:=of_decide_eq_true hc;rw [if_pos hc] at nxt;refine WSs.last (Zv (i:=3) Z2.nd (Zl Wj (pv 3) (Wt (N':=["_law_end", "_law_name"]) rfl (Ya.std 1 [5] rfl (by trivial) (by trivial) rfl ⟨rfl,trivial⟩ rfl rfl ⟨(exR rfl ⟨rfl,rfl⟩),trivial⟩) (Y0 (Yj (Zgd T) hr T.de (Zb (pv 4) Za))) (fun _ _ _ _=>(Zbo (i:=0) (by show (["_law_end", "_law_name"]:List Str).Nodup;decide +kernel))) (fun _ _ _ _=>Zda) (fun _ _ _ _=>(Zj (Zb (pv 1) (Zb (pv 0) Za))))))) (exR rfl (exR rfl ⟨p.1,rfl,fun lp H4 s4 n4 e4=>⟨lp,rfl,⟨_,SqL.of e4⟩,fun D hD=>?_⟩⟩));have hel:=Zig p.1;refine Zip (xs:=Ym p.1) (x:=p.2) e4 (by lia) hD (fun H5 s5 f5=>?qq) ?aa ?bb
    case aa=>rfl
    case bb=>rfl
    case qq =>
     obtain ⟨vs,hv,hvs⟩:=f5;have hvl:vs.length=(Ym p.1).length:=by rw [Paired.length hvs,List.length_map]
     have O1:=s3.trans (s4.trans s5);refine .inr (.inr ⟨le,D,_,_,rfl,rfl,O1.at B9,hv,by rw [List.length_map,List.length_map];exact sz (by lia),fun ln H6 s6 n6 e6=>⟨ln,⟨_,_,_,rfl⟩,s2.trans (O1.trans s6),?_⟩⟩);rw [nxt];exact ⟨us++vs,by rw [e6,List.map_append],Paired.append (Paired.mapP y8 fun _ _ r=>(O1.trans s6).at r) (Paired.mapP hvs fun _ _ r=>s6.at r)⟩
   ·have hc:¬p.1∈[("plain" :Str), "gate", "stop"]:=fun z=>hc (decide_eq_true z)
    rw [nxt,if_neg hc,List.append_nil];exact Zp.mono s3 ⟨us,B9,y8⟩
  rintro σ H2 ⟨le,⟨o4,o5,o6,rfl⟩,s2,hE⟩;rw [List.length_map,htl,List.take_length] at hE;obtain ⟨us,B9,y8⟩:=hE;have hbl:=Zf0 ps;have hul:us.length=(Xq ps).length:=Paired.length y8;obtain ⟨es,hes⟩:∃es,es=Xq ps:=⟨_,rfl⟩
  rw [<-hes] at y8 hul u4 q hbl;refine WSs.step (Zv (i:=7) Z2.nd (Zo Za)) ⟨szA,fun lf H3 s3 n3 e3=>?_⟩;let I7:=fun (i:Nat) (σ:St) (H':Hp)=>(∃o5 o6 o8 o9 V2,σ=[some (.ref pl),some (.int c),some (.str "abcdefghijklmnopqrstuvwxyz"),some (.ref le),o4,o5,o6,some (.ref lf),o8,o9,V2])/\Same H2 H'/\∃sg,Zb5 H' lf sg/\Zbq es i sg
  refine WSs.step (We PassesOwn.never rfl (Zif rfl T.cw (Zb (pv 3) Za)) (Zd6 rfl (Z7 (Xn (i:=8) Z2.nd) (Z7 (Xn (i:=6) Z2.nd) X8))) Zr) (exR rfl ⟨le,rfl,⟨_,SqL.of (s3.at B9)⟩,Zge (xs:=us.map V.ref) I7 ⟨⟨_,_,none,none,none,rfl⟩,s3,[],⟨[],e3,.nil⟩,⟨List.nil_sublist _,(fun _ z=>nomatch z),List.nodup_nil,Nat.zero_le _⟩⟩ ?_ ?_ ?_⟩)
  ·rintro i σ H' _ ⟨_,sm,_⟩;exact SqL.of (sm.at B9)
  ·rintro i x' σ H4 hi ⟨⟨o5',o6',o8,o9,V2,rfl⟩,s4,sg,hsg,ok⟩ p H5 s5 n5 e5;rw [List.getElem?_map] at hi;obtain ⟨te,L8,rfl⟩:=Option.map_eq_some_iff.mp hi;obtain ⟨e,he,re⟩:=Paired.get y8 L8;have L5:i<us.length:=(List.getElem?_eq_some_iff.mp L8).1;have hi600:i<600:=by lia
   refine ⟨p,_,rfl,SqT.of e5,rfl,_,_,rfl,_,_,rfl,rfl,?_⟩;have re5:Zs H5 te e:=s5.at (s4.at re);obtain ⟨gs,M4,M0⟩:=hsg.mono s5;have L1:gs.length=sg.length:=Paired.length M0;have K1:=s4.trans s5;refine WSs.step (Zv (i:=9) Z2.nd (Xv (Za3 T) hr rfl T.bT T.al.F.kp T.al.b .nil Yg (Zb (pv 1) (Zb (pv 8) Za)))) (exR rfl (exR rfl ⟨c,_,rfl,?_⟩));generalize Ze9 c ((i:Nat):Int)=dr;have skip:∃sg,Zb5 H5 lf sg/\Zbq es (i+1) sg:=⟨sg,⟨gs,M4,M0⟩,ok.skip⟩
   refine WSs.last (Z0 (PW.pt (Zd9 (Zm Zls (Zl Yc (pv 9) Ze) (Zl Yc (pv 1) Ze) (Zu _)) (Zbp (Zm Zk3 (Zq (r:=W1 K) W6 (by rfl) T.bx PySem.boot_len (Zb (pv 7) Za)) Ze (Zu _))))) Zr Zn) (exR rfl (exQ rfl rfl ⟨(by show (0:Int)<8;decide),_,rfl,_,_,rfl,rfl,(by show (0:Int)<7;decide),_,_,rfl,rfl,_,rfl,Yo (fun _=>(exR rfl (.inl ⟨lf,_,rfl,.inl (SqL.of M4),_,_,rfl,rfl,_,rfl,Yo (fun hl=>?_) (fun _=>⟨⟨_,_,_,_,_,rfl⟩,K1,skip⟩)⟩))) (fun _=>⟨⟨_,_,_,_,_,rfl⟩,K1,skip⟩)⟩));have hl:sg.length<40:=by
    have:=of_decide_eq_true hl;rw [List.length_map] at this;lia
   have m0:=Int.emod_nonneg (dr / 8) (show (99:Int)≠0 by decide);have m1:=Int.emod_lt_of_pos (dr / 8) (show (0:Int)<99 by decide);obtain ⟨n,hn⟩:∃n:Nat,dr / 8%99=(n:Int):=⟨(dr / 8%99).toNat,by lia⟩
   have T2:n<99:=by lia
   have Q0:=Zp3 n T2;have g8:(("s" :Str)++Str.ofString (toString (n:Int))).length<=3:=by rw [PySem.Str.length_append];show 1+_<=3;lia
   have a1:atI Zdy ((i:Int) / 26)=some (Zdy.getD (i / 26) 0):=by
    have:=Ziw (n:=26) (l:=Zdy) (i:=(i:Int) / 26) rfl (by lia) (by lia);rw [show ((i:Int) / 26).toNat=i / 26 by lia] at this;exact this
   have a2:atI Zdy ((i:Int)%26)=some (Zdy.getD (i%26) 0):=by
    have:=Ziw (n:=26) (l:=Zdy) (i:=(i:Int)%26) rfl (by lia) (by lia);rw [show ((i:Int)%26).toNat=i%26 by lia] at this;exact this
   refine WSs.step (Zv (i:=10) Z2.nd (Zl Wj (Z1 (K:=K) rfl (pv 2) (Zl Z9 (pv 8) Ze)) (Z1 (K:=K) rfl (pv 2) (Zl Yc (pv 8) Ze)))) (exR rfl (exR rfl (exQ rfl rfl ⟨⟨by decide,by decide⟩,.inr (.inr ⟨_,_,Zdy.getD (i / 26) 0,rfl,rfl,sz (by rw [Zim];decide),by rw [Zmm];exact a1,_,rfl,_,rfl,_,_,rfl,rfl,(by show (0:Int)<26;decide),.inr (.inr ⟨_,_,Zdy.getD (i%26) 0,rfl,rfl,sz (by rw [Zim];decide),by rw [Zmm];exact a2,.inr (.inl (exQ rfl rfl ⟨sz (by show 1+1<=1000;lia),?_⟩))⟩)⟩)⟩)));refine WSs.last (Z4 (Zcm PySem.F.plainAttrs_list PySem.F.slot_list_append PySem.F.type_list_append Xs (pv 7) (Zb (Zj (Zb (Zl Wj (Zl Wj Zf (Xh Za2 (by rfl) T.di PyProof.Rows.boot_str (Zb (Zl Yc (Zl Z9 (pv 9) Ze) Ze) Za))) (pv 10)) (Zb (Z1 (K:=K) rfl (pv 6) Ze) (Zb (Z1 (K:=K) rfl (pv 6) Ze) Za)))) Za))) (exR rfl ⟨.inl ⟨rfl,_,SqL.of M4⟩,_,rfl,_,_,rfl,rfl,⟨by decide,by decide⟩,_,_,rfl,rfl,(by show (0:Int)<99;decide),(n:Int),?_,Zu5 n T2,.inr (.inl (exQ rfl rfl ⟨sz (by show 1+_<=1000;lia),_,rfl,.inr (.inl (exQ rfl rfl ⟨sz (by show _+2<=1000;lia),_,rfl,.inr (.inl ⟨te,_,_,.str e.1,rfl,rfl,SqT.of re5,rfl,_,rfl,.inr (.inl ⟨te,_,_,.str e.2,rfl,rfl,SqT.of re5,rfl,szA,fun t H7 s7 n7 e7=>⟨lf,_,_,rfl,rfl,s7.at M4,by rw [List.length_map];exact Zx (by lia),⟨_,_,_,_,_,rfl⟩,fun b o z=>?_,sg++[(Zez n i,e.1,e.2)],⟨gs++[t],?_,?_⟩,ok.add he (.inr ⟨n,T2,rfl⟩) (ok.fresh hi600 u4 T2) hl⟩⟩)⟩)⟩))⟩))⟩)
   ·show [V.int (dr / 8%99)]=[V.int (n:Int)];rw [hn]
   ·rw [Zd (Zg z n3)];exact s7.at (K1.at z)
   ·rw [Zi,List.map_append];rfl
   ·have off:∀{b:Addr} {xs:List V},H7 b=some (.tup xs)->(upd H7 lf (.lst (gs.map V.ref++[V.ref t]))) b=some (.tup xs):=fun {b xs} z=>by
     rw [Zd fun y=>by rw [y,s7.at M4] at z;cases z];exact z
    exact Paired.append (Paired.mapP M0 fun _ _ r=>off (s7.at r)) (.cons (off e7) .nil)
  ·rintro σ H4 ⟨⟨o5',o6',o8,o9,V2,rfl⟩,s4,sg,hsg,ok⟩;refine WSs.last (Zt (pv 7)) (exR rfl (q lf H4 sg (s2.trans s4) (s2.free n3) hsg ?_));rw [List.length_map,hul] at ok;exact ok
def Zfe(s:Str):Nat:=s.cps.toList.getLastD 0
theorem Zk5{x y:Str}(h:0<y.length):Zfe (x++y)=Zfe y:=by
 unfold Zfe;rw [PySem.W.KT.app_list];have:y.cps.toList≠[]:=fun z=>by
  have:y.cps.toList.length=0:=by rw [z];rfl
  rw [Array.length_toList] at this;exact absurd h (by show ¬0<y.cps.size;lia)
 obtain ⟨ys,b,e⟩:=List.eq_nil_or_concat y.cps.toList |>.resolve_left this
 rw [e];simp
theorem Znv:∀k<100,Zfe (Zg6 k)<58:=by trivial
theorem Zlc{kd:Str}{c:Int}{k:Nat}(h:k<100):Zfe (Yl kd c k)<58:=by
 have h1:=Znv k h;have h2:=Zf9 k h;unfold Yl;split <;>rw [Zk5 h2] <;>exact h1
theorem Zn1{j:Nat}(h:j<100):Zfe (Wf j)<58:=by
 unfold Wf;rw [Zk5 (Zf9 j h)];exact Znv j h
theorem Zr2{n k:Nat}:97<=Zfe (Zez n k):=by
 unfold Zfe;rw [Zg1];have:=Zpe (k%26) (by lia);simp only [List.getLastD_concat];lia
theorem Zp4{n k:Nat}:2<=(Zez n k).cps.toList.length:=by
 rw [Zg1,List.length_append,List.length_append];simp
theorem Zt6{s:Str}{n k:Nat} (h:s = "g" \/s = "h" \/Zfe s<58):s≠Zez n k:=fun z=>by
 rcases h with rfl|rfl|h
 ·have:=@Zp4 n k;rw [<-z] at this;exact absurd this (by decide)
 ·have:=@Zp4 n k;rw [<-z] at this;exact absurd this (by decide)
 ·have:=@Zr2 n k;rw [<-z] at this;lia
theorem Ztu{ps:List Zc}{e:Zc}(h:e∈Xq ps):∃p∈ps,e.1=p.2:=by
 unfold Xq at h;obtain ⟨p,hp,he⟩:=List.mem_flatMap.mp h;refine ⟨p,hp,?_⟩;split at he
 ·obtain ⟨x,_,rfl⟩:=List.mem_map.mp he;rfl
 ·cases he
def nmY(s:Str):Prop:=s = "g" \/s = "h" \/Zno s 63\/∃j,j<90/\s=Wf j
theorem nmY.sig{s:Str}{n k:Nat}(h:nmY s):s≠Zez n k:=by
 refine Zt6 ?_;rcases h with h|h|⟨kd,c,j,_,hj,rfl⟩|⟨j,hj,rfl⟩
 ·exact .inl h
 ·exact .inr (.inl h)
 ·exact .inr (.inr (Zlc (by lia)))
 ·exact .inr (.inr (Zn1 (by lia)))
def nmK(p:Zc):Prop:=p=((("gate" :Str),("g" :Str)):Zc)\/p=((("gate" :Str),("h" :Str)):Zc)\/Zno p.2 63\/∃j,j<90/\p.2=Wf j
theorem nmK.nm{p:Zc}(h:nmK p):nmY p.2:=by
 rcases h with rfl|rfl|h|h
 ·exact .inl rfl
 ·exact .inr (.inl rfl)
 ·exact .inr (.inr (.inl h))
 ·exact .inr (.inr (.inr h))
structure Zjo(ps:List Zc)(js:List (Zc×Zc))(sg:List (Str×Str×Str)):Prop where
 net:Net ps js []
 len:ps.length<=39
 name:∀p∈ps,nmK p
 sigs:∃B4,B4.Perm ps/\Zbq (Xq B4) (Xq B4).length sg
theorem Net.perm'{ps B4:List Zc}{js Q4:List (Zc×Zc)}(h:Net ps js [])(hp:B4.Perm ps)(hj:Q4.Perm js):Net B4 Q4 []:=by
 obtain ⟨a,b,c,d⟩:=h;rw [List.append_nil] at a;refine ⟨?_,(hp.map _).nodup_iff.mpr b,fun j hm=>c j (hj.mem_iff.mp hm),fun p hm=>d p (hp.mem_iff.mp hm)⟩;rw [List.append_nil];exact ((hj.flatMap_right _).trans a).trans (hp.flatMap_right _).symm
theorem Zzs{s:Str}{n m:Nat}(h:Zno s n)(l:n<=m):Zno s m:=let ⟨kd,c,k,a,b,e⟩:=h;⟨kd,c,k,a,by lia,e⟩
theorem Zyu{s:Str}{n:Nat}(h:nmD s n):Zno s n:=by
 obtain ⟨kd,hk,c,k,a,e⟩:=h;refine ⟨kd,c,k,?_,a,e⟩;have:∀kd∈Ww,96<kd.cps.toList.getD 0 0/\kd.cps.toList.getD 0 0<123:=by trivial
 exact this kd hk
theorem Zt2{α β:Type}{R:α->β->Prop}{l1:List α}{l2:List β}(h:Paired R l1 l2):Paired R l1.reverse l2.reverse:=by
 induction h with
 | nil=>exact .nil
 | cons r _ ih=>rw [List.reverse_cons,List.reverse_cons];exact Paired.append ih (.cons r .nil)
theorem Zkx{α β:Type}{R:α->β->Prop}:∀(n:Nat) {l1:List α} {l2:List β},Paired R l1 l2->Paired R (l1.drop n) (l2.drop n)
 | 0,_,_,h=>h
 | _+1,_,_,.nil=>.nil
 | n+1,_,_,.cons _ t=>Zkx n t
theorem Zld{α β:Type}{R:α->β->Prop}:∀(n:Nat) {l1:List α} {l2:List β},Paired R l1 l2->Paired R (l1.take n) (l2.take n)
 | 0,_,_,_=>.nil
 | _+1,_,_,.nil=>.nil
 | n+1,_,_,.cons r t=>.cons r (Zld n t)
def Zw7(K:Frag):Sp:=fun vs H Q _=>∃(cl:Addr) (c:Int) (cs:List Int),vs=[.ref cl,.int c]/\SqL K H cl (cs.map V.int)/\(∀c∈cs,0<=c)/\cs.length<=63 /\
 ∀(t pl jl sl:Addr) (H':Hp) (ps:List Zc) (js:List (Zc×Zc)) (sg:List (Str×Str×Str)),Same H H'->H' t=some (.tup [.ref pl,.ref jl,.ref sl])->Zp H' pl ps->Yi H' jl js->Zb5 H' sl sg->Zjo ps js sg->Q (.ref t) H'
theorem Zhw(T:Tx K mg):Zw P w K mg base CX0 4 T.bC.f T.bC.fd ["_law_cells_here", "_law_cell"] (Zw7 K):=by
 refine T.bC.F.okW Y6 fun a9 A outer s H vs Q E hr h=>?_
 ·obtain ⟨cl,c,cs,rfl,hS,hc0,p7,q⟩:=h;intro X;refine WSs.step (Zv (i:=2) Y6.nd (Yj (Zmo T) hr T.eK (Zb (pv 0) Za))) (exR rfl ⟨cl,cs,rfl,hS,hc0,fun t H1 pl jl ps js s1 e1 hP hJ n1 n2 net len nm=>?_⟩);let I8:=fun (σ:St) (H':Hp)=>∃t pl jl ps js,σ=[some (.ref cl),some (.int c),some (.ref t),none,none,none]/\Same H H'/\H' t=some (.tup [.ref pl,.ref jl])/\Zp H' pl ps/\Yi H' jl js/\Net ps js []/\ps.length<=39/\∀p∈ps,nmK p
  refine WSs.cut I8 ?_ ?_
  ·refine WS.of (Z0 (Zm (r:=Wa K) (Wd hr) (Zl Yc (pv 1) Ze) Ze (Zu _)) Zr Zn) (exR rfl (exQ rfl rfl ⟨(by show (0:Int)<3;decide),.inl ⟨rfl,_,rfl,Yo (fun _=>?_) (fun _=>⟨t,pl,jl,ps,js,rfl,s1,e1,hP,hJ,net,by lia,fun p hp=>?_⟩)⟩⟩))
   ·refine WSs.last (Zv (i:=2) Y6.nd (Yj (Zka T) hr T.ef (Zb (pv 0) Za))) (exR rfl ⟨cl,cs,rfl,s1.seq hS,hc0,p7,fun t H2 pl jl ps js _ s2 e2 hP hJ _ _ net len nm=>⟨t,pl,jl,ps,js,rfl,s1.trans s2,e2,hP,hJ,net,len,fun p hp=>?_⟩⟩);rcases nm p hp with z|z
    ·exact .inr (.inr (.inl (Zyu z)))
    ·exact .inr (.inr (.inr z))
   ·rcases nm p hp with z|z|z
    ·exact .inl z
    ·exact .inr (.inl z)
    ·exact .inr (.inr (.inl (Zzs z (by decide))))
  clear e1 hP hJ n1 n2 net len nm s1;rintro σ H1 ⟨t,pl,jl,ps,js,rfl,s1,e1,hP,hJ,net,len,nm⟩;refine WSs.step (Ztd (pv 2) (Zd6 rfl (Z7 (Xn (i:=3) Y6.nd) (Z7 (Xn (i:=4) Y6.nd) X8)))) (exR rfl ⟨t,_,rfl,SqT.of e1,rfl,_,_,rfl,_,_,rfl,rfl,?_⟩);obtain ⟨us,hu,y8⟩:=id hP;have hul:us.length=ps.length:=Paired.length y8;obtain ⟨mx,hmx,hm1⟩:∃mx:Int,(if ((us.map V.ref).length:Int) >1 then ((us.map V.ref).length:Int) else 1)=mx/\0<mx:=by
   refine (exR rfl ?_);split <;>lia
  have a0:=Int.emod_nonneg (c / 3) (show mx≠0 by lia);obtain ⟨O2,y7⟩:∃k:Nat,c / 3%mx=(k:Int):=⟨(c / 3%mx).toNat,by lia⟩
  refine WSs.step (Zv (i:=5) Y6.nd (Zl Yc (Zl Z9 (pv 1) Ze) (Zq (Zq4 rfl) (by rfl) T.gD PyProof.Rows.boot_max (Zb Ze (Zb (Zq (r:=W1 K) W6 (by rfl) T.bx PySem.boot_len (Zb (pv 3) Za)) Za))))) (exR rfl (exQ rfl rfl ⟨⟨by decide,by decide⟩,_,rfl,.inl ⟨pl,_,rfl,.inl (SqL.of hu),_,_,rfl,_,_,rfl,rfl,?_,?_⟩⟩))
  ·show (0:Int)<(if ((us.map V.ref).length:Int) >1 then ((us.map V.ref).length:Int) else 1);rw [hmx];exact hm1
  show WSs _ _ _ [some (.ref cl),some (.int c),some (.ref t),some (.ref pl),some (.ref jl),some (.int (c / 3%(if ((us.map V.ref).length:Int) >1 then ((us.map V.ref).length:Int) else 1)))] H1;rw [hmx,y7];let I9:=fun (σ:St) (H':Hp)=>∃U0 Q4,σ=[some (.ref cl),some (.int c),some (.ref t),some (.ref pl),some (.ref U0),some (.int (O2:Int))]/\Same H1 H'/\Yi H' U0 Q4/\Q4.Perm js
  refine WSs.cut I9 ?_ ?_
  ·obtain ⟨ws,hw,hws⟩:=id hJ;refine WS.of (Z0 (Zm (r:=Wa K) (Wd hr) (Zl Yc (Zl Z9 (pv 1) Ze) Ze) Ze (Zu _)) Zr Zn) (exR rfl (exQ rfl rfl ⟨⟨by decide,by decide⟩,_,_,rfl,rfl,(by show (0:Int)<2;decide),.inl ⟨rfl,_,rfl,Yo (fun _=>?_) (fun _=>⟨jl,js,rfl,Same.refl _,hJ,List.Perm.refl _⟩)⟩⟩));refine WSs.last (Zv (i:=4) Y6.nd (Zye (ops:=fun l r=>[l,r]) (pv 4) (Zdg (Zr0 Zor Ze)) (fun _ _=>by with_unfolding_all rfl))) (exR rfl (exR rfl (exR rfl ⟨jl,_,rfl,rfl,SqL.of hw,fun jr H2 s2 n2 e2=>⟨jr,js.reverse,rfl,s2,⟨ws.reverse,by rw [e2,List.map_reverse],?_⟩,List.reverse_perm _⟩⟩)));exact Zt2 (Paired.mapP hws fun _ _ r=>r.mono s2)
  rintro σ H2 ⟨U0,Q4,rfl,s2,hJ',hjp⟩;refine WSs.last (Zt (Zj (Zb (Zl Wj (Zcv (r:=Zpd K) Zq9 (pv 3) (Zdg (pv 5)) Zes) (Zcv (r:=Zpd K) Zq9 (pv 3) Zes (Zdg (pv 5)))) (Zb (pv 4) (Zb (Yj (Zfp T) hr T.cS (Zb (pv 3) (Zb (Zl Z9 (pv 1) Ze) Za))) Za))))) (exR rfl (exR rfl (exR rfl (.inr (.inl ⟨pl,_,rfl,SqL.of (s2.at hu),fun la H3 s3 n3 e3=>(exR rfl (exR rfl (exR rfl (.inr (.inl ⟨pl,_,rfl,SqL.of (s3.at (s2.at hu)),fun lb H4 s4 n4 e4=>.inr (.inr ⟨la,lb,_,_,rfl,rfl,s4.at e3,e4,?_,fun lc H5 s5 n5 e5=>?_⟩)⟩)))))⟩)))))
  ·rw [Zfz,Zoz,List.length_drop,List.length_take,List.length_map];exact sz (by lia)
  have K1:=s3.trans (s4.trans s5);have B2:=s2.trans K1;refine (exR rfl (exR rfl (exR rfl (exQ rfl rfl ⟨⟨by decide,by decide⟩,pl,_,ps,rfl,hP.mono B2,by lia,fun n k e he _ _=>?_,fun sl H6 sg s6 n6 hG ok=>⟨szA,fun t' H7 s7 n7 e7=>?_⟩⟩))))
  ·obtain ⟨p,hp,e1⟩:=Ztu he;rw [e1];exact nmY.sig (nm p hp).nm
  rw [Zfz,Zoz,<-List.map_drop,<-List.map_take,<-List.map_append] at e5;have s57:=s6.trans s7;have rot:(ps.drop O2++ps.take O2).Perm ps:=by
   have:=List.perm_append_comm (l₁:=ps.drop O2) (l₂:=ps.take O2);rwa [List.take_append_drop] at this
  refine q t' lc U0 sl H7 (ps.drop O2++ps.take O2) Q4 sg (s1.trans (B2.trans s57)) e7 ⟨us.drop O2++us.take O2,s57.at e5,?_⟩ (hJ'.mono (K1.trans s57)) (hG.mono s7) ⟨Net.perm' net rot hjp,?_,fun p hp=>nm p (rot.mem_iff.mp hp),⟨ps,rot.symm,ok⟩⟩
  ·have:=Paired.mapP y8 fun _ _ r=>Zs.mono (B2.trans s57) r
   exact Paired.append (Zkx _ this) (Zld _ this)
  ·rw [rot.length_eq];exact len
def Zgj(c:Nat):Bool:=decide (97<=c) && decide (c<=122)
def anC(c:Nat):Bool:=Zgj c || (decide (48<=c) && decide (c<=57))
def Yz(s:Str):Prop:=1<=s.length/\s.length<=6/\Zgj (s.cps.toList.headD 0)=true/\s.cps.toList.all anC=true
theorem Zmd:∀k<100,(Zg6 k).cps.toList.all anC=true:=by trivial
theorem Zly:∀i<26,Zgj (Zdy.getD i 0)=true:=by decide
theorem Zx7{c:Nat}(h:Zgj c=true):anC c=true:=by unfold anC;rw [h];rfl
theorem Zbu{x y:Str}(hx:x.cps.toList.all anC=true)(hy:y.cps.toList.all anC=true):(x++y).cps.toList.all anC=true:=by
 rw [PySem.W.KT.app_list,List.all_append,hx,hy];rfl
theorem Zan{x y:Str}(h:0<x.length):(x++y).cps.toList.headD 0=x.cps.toList.headD 0:=by
 rw [PySem.W.KT.app_list];cases e:x.cps.toList with
 | nil =>
  have:x.cps.size=0:=by rw [<-Array.length_toList,e];rfl
  exact absurd h (by show ¬0<x.cps.size;lia)
 | cons a l=>rfl
theorem Zi4{c:Nat}(h:Zgj c=true):(⟨#[c]⟩:Str).cps.toList.all anC=true:=by
 show ([c]:List Nat).all anC=true;simp [Zx7 h]
theorem Zuo{j:Nat}(h:j<100):Yz (Wf j):=by
 have h1:=Zfy j h;have h2:=Zf9 j h;unfold Wf;refine ⟨?_,?_,?_,Zbu (by trivial) (Zmd j h)⟩
 ·rw [PySem.Str.length_append];lia
 ·rw [PySem.Str.length_append,show ("e" :Str).length=1 by trivial];lia
 ·rw [Zan (by trivial)];decide +kernel
theorem Zui{n k:Nat}(hn:n<99)(hk:k<600):Yz (Zez n k):=by
 have h1:=Zp3 n hn;have a1:=Zly (k / 26) (by lia);have a2:=Zly (k%26) (by lia);have hs:("s" :Str).length=1:=by trivial
 have h0:0<(("s" :Str)++Str.ofString (toString (n:Int))).length:=by rw [PySem.Str.length_append,hs];lia
 have hf:(Str.ofString (toString (n:Int))).cps.toList.all anC=true:=Zmd n (by lia);unfold Zez;refine ⟨?_,?_,?_,Zbu (Zbu (Zbu (by trivial) hf) (Zi4 a1)) (Zi4 a2)⟩
 ·rw [PySem.Str.length_append,PySem.Str.length_append];lia
 ·rw [PySem.Str.length_append,PySem.Str.length_append,PySem.Str.length_append,hs];show 1+_+1+1<=6;lia
 ·rw [Zan (by rw [PySem.Str.length_append];lia),Zan h0,Zan (by rw [hs];decide)];decide +kernel
theorem Zz9:Yz "g" :=⟨by trivial,by trivial,by trivial,by trivial⟩
theorem Yal:Yz "h" :=⟨by trivial,by trivial,by trivial,by trivial⟩
theorem Zhf{i:Int}(h0:0<=i)(h1:i<26):Zgj (Zcw i)=true:=Zly i.toNat (by lia)
theorem Zw6:∀m<3,(Zf5 "0" m).cps.toList.all anC=true:=by trivial
theorem Zqn{kd:Str}{c:Int}{k:Nat}(h0:96<kd.cps.toList.getD 0 0/\kd.cps.toList.getD 0 0<123)(hk:k<100):Yz (Yl kd c k):=by
 have l2:=Za4 (kind:=kd) (c:=c) hk;refine ⟨by lia,Zrk hk,?_,?_⟩
 ·unfold Yl;split
  ·rw [Zan (by show 0<1;decide)];show Zgj (kd.cps.toList.getD 0 0)=true;unfold Zgj;simp only [Bool.and_eq_true,decide_eq_true_eq];lia
  ·have a0:=Int.emod_nonneg (c / 3) (show (26:Int)≠0 by decide);have a1:=Int.emod_lt_of_pos (c / 3) (show (0:Int)<26 by decide);rw [Zan (by rw [PySem.Str.length_append,PySem.Str.length_append];show 0<1+1+_;lia),Zan (by rw [PySem.Str.length_append];show 0<1+1;decide),Zan (by show 0<1;decide)];exact Zhf a0 a1
 ·unfold Yl;split
  ·refine Zbu (Zi4 ?_) (Zmd k hk);unfold Zgj;simp only [Bool.and_eq_true,decide_eq_true_eq];lia
  ·have a0:=Int.emod_nonneg (c / 3) (show (26:Int)≠0 by decide);have a1:=Int.emod_lt_of_pos (c / 3) (show (0:Int)<26 by decide);have b0:=Int.emod_nonneg (c / 78) (show (26:Int)≠0 by decide);have b1:=Int.emod_lt_of_pos (c / 78) (show (0:Int)<26 by decide);have c0:=Int.emod_nonneg (c / 2028) (show (3:Int)≠0 by decide);have c1:=Int.emod_lt_of_pos (c / 2028) (show (0:Int)<3 by decide);exact Zbu (Zbu (Zbu (Zi4 (Zhf a0 a1)) (Zi4 (Zhf b0 b1))) (Zw6 _ (by lia))) (Zmd k hk)
theorem nmY.ok{s:Str}(h:nmY s):Yz s:=by
 rcases h with rfl|rfl|⟨kd,c,j,h0,hj,rfl⟩|⟨j,hj,rfl⟩
 ·exact Zz9
 ·exact Yal
 ·exact Zqn h0 (by lia)
 ·exact Zuo (by lia)
theorem Ziv{ps:List Zc}{e:Zc}(h:e∈Xq ps):∃p∈ps,e.1=p.2/\p.1∈[("plain" :Str), "gate", "stop"]/\e.2∈Ym p.1:=by
 unfold Xq at h;obtain ⟨p,hp,he⟩:=List.mem_flatMap.mp h
 by_cases z:p.1∈[("plain" :Str), "gate", "stop"]
 ·rw [if_pos z] at he;obtain ⟨x,hx,rfl⟩:=List.mem_map.mp he;exact ⟨p,hp,rfl,z,hx⟩
 ·rw [if_neg z] at he;cases he
theorem Zvk(k:Str):(Ym k).Nodup:=by
 unfold Ym;split
 ·decide
 ·split
  ·decide
  ·split <;>decide
theorem Zpt:∀{ps:List Zc},(ps.map Prod.snd).Nodup->(Xq ps).Nodup
 | [],_=>List.nodup_nil
 | p ::ps,h=>by
  rw [List.map_cons,List.nodup_cons] at h;have ih:=Zpt h.2;show ((if p.1∈[("plain" :Str), "gate", "stop"] then (Ym p.1).map (fun x=>((p.2,x):Zc)) else [])++Xq ps).Nodup;refine List.nodup_append.mpr ⟨?_,ih,fun a ha b hb e=>?_⟩
  ·split
   ·exact List.Pairwise.map _ (fun a b h z=>h (Prod.mk.inj z).2) (Zvk p.1)
   ·exact List.nodup_nil
  ·subst e;obtain ⟨p',hp',e1,_⟩:=Ziv hb;split at ha
   ·obtain ⟨x,_,rfl⟩:=List.mem_map.mp ha;exact h.1 (List.mem_map.mpr ⟨p',hp',e1.symm⟩)
   ·cases ha
structure Zk0(ps:List Zc)(sg:List (Str×Str×Str)):Prop where
 name:∀q∈sg,Yz q.1
 nd:(sg.map Prod.fst).Nodup
 one:(sg.map Prod.snd).Nodup
 at_:∀q∈sg,∃p∈ps,p.2=q.2.1/\p.1∈[("plain" :Str), "gate", "stop"]/\q.2.2∈Ym p.1
 len:sg.length<=40
theorem Zbq.sigs{ps:List Zc}{sg:List (Str×Str×Str)}(h:Zbq (Xq ps) (Xq ps).length sg)(nd:(ps.map Prod.snd).Nodup)(nm:∀p∈ps,nmY p.2)(hl:ps.length<=45):Zk0 ps sg:=by
 have sub:=h.at_;rw [List.take_length] at sub;have hb:=Zf0 ps;have mem:∀q∈sg,((q.2.1,q.2.2):Zc)∈Xq ps:=fun q hq=>sub.subset (List.mem_map.mpr ⟨q,hq,rfl⟩)
 refine ⟨fun q hq=>?_,h.nd,List.Nodup.sublist sub (Zpt nd),fun q hq=>?_,h.len⟩
 ·rcases h.name q hq with z|⟨n,k,a,b,c⟩
  ·obtain ⟨p,hp,e,_⟩:=Ziv (mem q hq);rw [z,show q.2.1=p.2 from e];exact nmY.ok (nm p hp)
  ·rw [c];exact Zui a (by lia)
 ·obtain ⟨p,hp,e,k,m⟩:=Ziv (mem q hq);exact ⟨p,hp,e.symm,k,m⟩
theorem Zk0.perm{ps B4:List Zc}{sg:List (Str×Str×Str)}(h:Zk0 B4 sg)(hp:B4.Perm ps):Zk0 ps sg :=
 ⟨h.name,h.nd,h.one,fun q hq=>let ⟨p,a,b⟩:=h.at_ q hq;⟨p,hp.mem_iff.mp a,b⟩,h.len⟩
theorem Zjo.sigsV{ps:List Zc}{js:List (Zc×Zc)}{sg:List (Str×Str×Str)}(h:Zjo ps js sg):Zk0 ps sg:=by
 obtain ⟨B4,hp,ok⟩:=h.sigs;exact (ok.sigs ((hp.map _).nodup_iff.mpr h.net.nd) (fun p hm=>(h.name p (hp.mem_iff.mp hm)).nm) (by rw [hp.length_eq];have:=h.len;lia)).perm hp
def Zfn(K:Frag):Sp:=fun vs H Q _=>∃(x C dx:Addr) (nm:Str),vs=[.ref x,.str nm]/\H x=some (.ins C dx [])/\Cls K C/\Y3 K C "name" /\Q .non (upd H x (.ins C dx [("name",.str nm)]))
theorem Xp(T:Tx K mg):Zw P w K mg base CX0 1 T.ah.f T.ah.fd ["self", "name"] (Zfn K):=by
 refine T.ah.F.okW Zgv fun a9 A outer s H vs Q E hr h=>?_
 ·obtain ⟨x,C,dx,nm,rfl,hx,c,n1,q⟩:=h;intro X;exact WSs.last (Zaq (pv 0) (pv 1) rfl) (exR rfl (exR rfl ⟨x,C,dx,[],rfl,hx,c,n1,by simp,q⟩))
def Zdw(H:Hp)(C x:Addr)(nm:Str):Prop:=∃dx,H x=some (.ins C dx [("name",.str nm)])
def mrP(C:Addr):List V->Hp->VK->Prop:=fun vs H Q=>∃nm:Str,vs=[.str nm]/\∀x H',Same H H'->H x=none->Zdw H' C x nm->Q (.ref x) H'
theorem mkP{C:Addr}(c:Cls K C) (n:Y3 K C "name"):∀vs H Q,mrP C vs H Q->∀x dx,H x=none->H dx=none->dx≠x->Zfn K (.ref x ::(vs++[])) (upd (upd H dx (.own x)) x (.ins C dx [])) (fun v H2=>v=.non/\Q (.ref x) H2) E0:=by
 rintro vs H Q ⟨nm,rfl,q⟩ x dx h1 h2 ne;refine ⟨x,C,dx,nm,rfl,Zi,c,n,rfl,q x _ (fun b o e=>?_) h1 ⟨dx,Zi⟩⟩;rw [Zd (Zg e h1),Zd (Zg e h1),Zd (Zg e h2)];exact e
abbrev Zn5(T:Tx K mg):List V->Hp->VK->Prop:=mrP T.bD
theorem Zrw(T:Tx K mg):∀vs H Q,Zn5 T vs H Q->∀x dx,H x=none->H dx=none->dx≠x->Zfn K (.ref x ::(vs++[])) (upd (upd H dx (.own x)) x (.ins T.bD dx [])) (fun v H2=>v=.non/\Q (.ref x) H2) E0:=mkP T.dq T.df
abbrev Zp2(T:Tx K mg):List V->Hp->VK->Prop:=mrP T.cq
theorem Zup(T:Tx K mg):∀vs H Q,Zp2 T vs H Q->∀x dx,H x=none->H dx=none->dx≠x->Zfn K (.ref x ::(vs++[])) (upd (upd H dx (.own x)) x (.ins T.cq dx [])) (fun v H2=>v=.non/\Q (.ref x) H2) E0:=mkP T.ej T.dA
abbrev Zpm(T:Tx K mg):List V->Hp->VK->Prop:=mrP T.bi
theorem Zt9(T:Tx K mg):∀vs H Q,Zpm T vs H Q->∀x dx,H x=none->H dx=none->dx≠x->Zfn K (.ref x ::(vs++[])) (upd (upd H dx (.own x)) x (.ins T.bi dx [])) (fun v H2=>v=.non/\Q (.ref x) H2) E0:=mkP T.em T.dB
abbrev Zli(T:Tx K mg):List V->Hp->VK->Prop:=mrP T.aE
theorem Zrp(T:Tx K mg):∀vs H Q,Zli T vs H Q->∀x dx,H x=none->H dx=none->dx≠x->Zfn K (.ref x ::(vs++[])) (upd (upd H dx (.own x)) x (.ins T.aE dx [])) (fun v H2=>v=.non/\Q (.ref x) H2) E0:=mkP T.cU T.cV
abbrev Zn2(T:Tx K mg):List V->Hp->VK->Prop:=mrP T.bE
theorem Zto(T:Tx K mg):∀vs H Q,Zn2 T vs H Q->∀x dx,H x=none->H dx=none->dx≠x->Zfn K (.ref x ::(vs++[])) (upd (upd H dx (.own x)) x (.ins T.bE dx [])) (fun v H2=>v=.non/\Q (.ref x) H2) E0:=mkP T.du T.dg
def X0(T:Tx K mg)(k:Str)(C:Addr):Prop:=(k = "points" /\C=T.aE)\/(k = "cross" /\C=T.bE)\/(k = "gate" /\C=T.bi)\/(k = "stop" /\C=T.cq)\/(k = "plain" /\(C=T.cJ\/C=T.bD))
def Zws(T:Tx K mg):Sp:=fun vs H Q _=>∃k nm:Str,vs=[.str k,.str nm]/\k∈Ww/\nm.length<=6/\∀(x C:Addr) (H':Hp),Same H H'->H x=none->X0 T k C->Zdw H' C x nm->Q (.ref x) H'
theorem Zl2(T:Tx K mg):Zw P w K mg base CX0 3 T.cm.f T.cm.fd ["_law_kind", "_law_name"] (Zws T):=by
 refine T.cm.F.okW Zmg fun a9 A outer s H vs Q E hr h=>?_
 ·obtain ⟨k,nm,rfl,hk,hl,q⟩:=h;intro X;let I10:=fun (σ:St) (H':Hp)=>σ=[some (.str k),some (.str nm)]/\H'=H/\k ≠ "points"
  refine WSs.cut I10 ?_ ?_
  ·refine WS.of (Z0 (Zm (r:=Wa K) (Wd hr) (pv 0) Zf (Zu _)) Zr Zn) (exR rfl (.inl ⟨rfl,_,rfl,Yo (fun hc=>?_) (fun hc=>⟨rfl,rfl,fun z=>hc (by rw [z];simp)⟩)⟩));have hc:k = "points" :=V.str.inj (of_decide_eq_true hc);exact WSs.last (Zt (Zah (Zli T) T.fJ (Xp T) hr.m rfl T.fo T.ah.b .nil Yg (Zrp T) (Zb (pv 1) Za))) (exR rfl ⟨nm,rfl,fun x H' s1 n1 o=>q x _ H' s1 n1 (.inl ⟨hc,rfl⟩) o⟩)
  rintro σ H1 ⟨rfl,hH1,nk0⟩;rw [hH1];let I11:=fun (σ:St) (H':Hp)=>σ=[some (.str k),some (.str nm)]/\H'=H/\k ≠ "cross"
  refine WSs.cut I11 ?_ ?_
  ·refine WS.of (Z0 (Zm (r:=Wa K) (Wd hr) (pv 0) Zf (Zu _)) Zr Zn) (exR rfl (.inl ⟨rfl,_,rfl,Yo (fun hc=>?_) (fun hc=>⟨rfl,rfl,fun z=>hc (by rw [z];simp)⟩)⟩));have hc:k = "cross" :=V.str.inj (of_decide_eq_true hc);exact WSs.last (Zt (Zah (Zn2 T) T.fY (Xp T) hr.m rfl T.gu T.ah.b .nil Yg (Zto T) (Zb (pv 1) Za))) (exR rfl ⟨nm,rfl,fun x H' s1 n1 o=>q x _ H' s1 n1 (.inr (.inl ⟨hc,rfl⟩)) o⟩)
  rintro σ H2 ⟨rfl,hH2,nk1⟩;rw [hH2];let I12:=fun (σ:St) (H':Hp)=>σ=[some (.str k),some (.str nm)]/\H'=H/\k ≠ "gate"
  refine WSs.cut I12 ?_ ?_
  ·refine WS.of (Z0 (Zm (r:=Wa K) (Wd hr) (pv 0) Zf (Zu _)) Zr Zn) (exR rfl (.inl ⟨rfl,_,rfl,Yo (fun hc=>?_) (fun hc=>⟨rfl,rfl,fun z=>hc (by rw [z];simp)⟩)⟩));have hc:k = "gate" :=V.str.inj (of_decide_eq_true hc);exact WSs.last (Zt (Zah (Zpm T) T.gq (Xp T) hr.m rfl T.gi T.ah.b .nil Yg (Zt9 T) (Zb (pv 1) Za))) (exR rfl ⟨nm,rfl,fun x H' s1 n1 o=>q x _ H' s1 n1 (.inr (.inr (.inl ⟨hc,rfl⟩))) o⟩)
  rintro σ H3 ⟨rfl,hH3,nk2⟩;rw [hH3];let I13:=fun (σ:St) (H':Hp)=>σ=[some (.str k),some (.str nm)]/\H'=H/\k ≠ "stop"
  refine WSs.cut I13 ?_ ?_
  ·refine WS.of (Z0 (Zm (r:=Wa K) (Wd hr) (pv 0) Zf (Zu _)) Zr Zn) (exR rfl (.inl ⟨rfl,_,rfl,Yo (fun hc=>?_) (fun hc=>⟨rfl,rfl,fun z=>hc (by rw [z];simp)⟩)⟩));have hc:k = "stop" :=V.str.inj (of_decide_eq_true hc);exact WSs.last (Zt (Zah (Zp2 T) T.gm (Xp T) hr.m rfl T.gC T.ah.b .nil Yg (Zup T) (Zb (pv 1) Za))) (exR rfl ⟨nm,rfl,fun x H' s1 n1 o=>q x _ H' s1 n1 (.inr (.inr (.inr (.inl ⟨hc,rfl⟩)))) o⟩)
  rintro σ H4 ⟨rfl,hH4,nk3⟩;rw [hH4];have hp:k = "plain" :=by
   unfold Ww at hk;simp only [List.mem_cons,List.mem_nil_iff,or_false] at hk;rcases hk with z|z|z|z|z
   ·exact z
   ·exact absurd z nk0
   ·exact absurd z nk1
   ·exact absurd z nk2
   ·exact absurd z nk3
  exact WSs.last (Zt (Zah (Zn5 T) T.fX (Xp T) hr.m rfl T.gk T.ah.b .nil Yg (Zrw T) (Zb (pv 1) Za))) (exR rfl ⟨nm,rfl,fun x H' s1 n1 o=>q x _ H' s1 n1 (.inr (.inr (.inr (.inr ⟨hp,.inr rfl⟩)))) o⟩)
section
variable {α β κ:Type} [DecidableEq κ] {f:α->κ} {R R':α->β->V->Prop} {kvs:List (κ×V)} {qs:List (α×β)}
def DP(f:α->κ)(R:α->β->V->Prop)(kvs:List (κ×V))(qs:List (α×β)):Prop:=Paired (fun (kv:κ×V) (q:α×β)=>kv.1=f q.1/\R q.1 q.2 kv.2) kvs qs
theorem DP.none(h:DP f R kvs qs)(inj:∀a b,f a=f b->a=b){a:α}(n:a∉qs.map Prod.fst):Yv kvs (f a)=none:=by
 unfold DP at h
 induction h with
 | nil=>rfl
 | cons r t ih =>
  rw [List.map_cons,List.mem_cons,not_or] at n;rw [Y7 (fun z=>n.1 (inj _ _ (r.1.symm.trans z)).symm)];exact ih n.2
theorem DP.get(h:DP f R kvs qs)(inj:∀a b,f a=f b->a=b)(nd:(qs.map Prod.fst).Nodup){a:α}{b:β}(m:(a,b)∈qs):∃v,Yv kvs (f a)=some v/\R a b v:=by
 unfold DP at h
 induction h with
 | nil=>cases m
 | @cons kv q _ _ r t ih =>
  rw [List.map_cons,List.nodup_cons] at nd;rcases List.mem_cons.mp m with z|z
  ·rw [<-z] at r;exact ⟨_,Xf r.1,r.2⟩
  ·have:a≠q.1:=fun e=>nd.1 (by rw [<-e];exact List.mem_map.mpr ⟨_,z,rfl⟩)
   rw [Y7 (fun e=>this (inj _ _ (r.1.symm.trans e)).symm)];exact ih nd.2 z
theorem DP.put(h:DP f R kvs qs){a:α}{b:β}{v:V}(n:Yv kvs (f a)=Option.none)(r:R a b v):DP f R (W2 kvs (f a) v) (qs++[(a,b)]):=by
 rw [Zsu v n];exact Paired.snoc h ⟨rfl,r⟩
theorem DP.len(h:DP f R kvs qs):kvs.length=qs.length:=Paired.length h
theorem DP.mapR(h:DP f R kvs qs)(m:∀a b v,R a b v->R' a b v):DP f R' kvs qs:=Paired.mapP h fun _ _ z=>⟨z.1,m _ _ _ z.2⟩
theorem DP.keys(h:DP f R kvs qs):kvs.map Prod.fst=qs.map fun q=>f q.1:=by
 unfold DP at h
 induction h with
 | nil=>rfl
 | cons r t ih=>rw [List.map_cons,List.map_cons,ih,r.1]
end
def Y9(e:Zc):List Key:=[.inr e.1,.inr e.2]
theorem Zcx(a b:Zc)(h:Y9 a=Y9 b):a=b:=by
 obtain ⟨a1,a2⟩:=a;obtain ⟨b1,b2⟩:=b;unfold Y9 at h;simp only [List.cons.injEq,Sum.inr.injEq,and_true] at h;rw [h.1,h.2]
def Z8(s:Str):Key:=.inr s
theorem Xd(a b:Str)(h:Z8 a=Z8 b):a=b:=Sum.inr.inj h
def qP(ps:List Zc):List (Str×Str):=ps.map fun p=>(p.2,p.1)
def qA(ps:List Zc):List (Zc×Str):=ps.flatMap fun p=>(Ym p.1).map fun e=>((p.2,e),p.1)
def qJ(js:List (Zc×Zc)):List (Zc×Zc):=js.flatMap fun j=>[(j.1,j.2),(j.2,j.1)]
def qS(sg:List (Str×Str×Str)):List (Str×Zc):=sg.map fun q=>(q.1,(q.2.1,q.2.2))
def qO(sg:List (Str×Str×Str)):List (Zc×Str):=sg.map fun q=>((q.2.1,q.2.2),q.1)
theorem Zml(ps:List Zc):(qP ps).map Prod.fst=ps.map Prod.snd:=by unfold qP;rw [List.map_map];rfl
theorem Zmu(ps:List Zc):(qA ps).map Prod.fst=Yy ps:=by
 unfold qA Yy;rw [List.map_flatMap];simp only [List.map_map]
 rfl
theorem Zft(js:List (Zc×Zc)):(qJ js).map Prod.fst=Xc js:=by
 unfold qJ Xc;rw [List.map_flatMap]
 rfl
theorem Zxn(sg:List (Str×Str×Str)):(qS sg).map Prod.fst=sg.map Prod.fst:=by unfold qS;rw [List.map_map];rfl
theorem Zxv(sg:List (Str×Str×Str)):(qO sg).map Prod.fst=sg.map Prod.snd:=by unfold qO;rw [List.map_map];rfl
def RP(T:Tx K mg)(H:Hp):Str->Str->V->Prop:=fun nm k v=>∃x C,v=.ref x/\X0 T k C/\Zdw H C x nm
def RA(T:Tx K mg)(H:Hp):Zc->Str->V->Prop:=fun e k v=>∃x C,v=.ref x/\X0 T k C/\Zdw H C x e.1
def RJ(H:Hp):Zc->Zc->V->Prop:=fun _ e v=>∃t,v=.ref t/\Zs H t e
def RS(H:Hp):Str->Zc->V->Prop:=fun _ e v=>∃t,v=.ref t/\Zs H t e
def RO:Zc->Str->V->Prop:=fun _ s v=>v=.str s
theorem Zdw.mono{H H':Hp}{C x:Addr}{nm:Str}(e:Same H H')(h:Zdw H C x nm):Zdw H' C x nm:=let ⟨dx,z⟩:=h;⟨dx,e.at z⟩
theorem RP.mono{T:Tx K mg}{H H':Hp}(e:Same H H')(a b:Str)(v:V)(h:RP T H a b v):RP T H' a b v:=let ⟨x,C,h1,h2,h3⟩:=h;⟨x,C,h1,h2,h3.mono e⟩
theorem RJ.mono{H H':Hp}(e:Same H H')(a b:Zc)(v:V)(h:RJ H a b v):RJ H' a b v:=let ⟨t,h1,h2⟩:=h;⟨t,h1,h2.mono e⟩
theorem RS.mono{H H':Hp}(e:Same H H')(a:Str)(b:Zc)(v:V)(h:RS H a b v):RS H' a b v:=let ⟨t,h1,h2⟩:=h;⟨t,h1,h2.mono e⟩
theorem Zpp{H:Hp}{t:Addr}{e:Zc}(h:Zs H t e):H t=some (.tup ((Y9 e).map kV)):=h
abbrev Zr5:Str := "abcdefghijklmnopqrstuvwxyz"
abbrev Zxk:Str := "0123456789"
theorem Zt7:∀c,c<128->(!(Builtin.Str.occurrences Zr5 ⟨#[c]⟩ 0 Zr5.length 1).isEmpty)=Zgj c:=by trivial
theorem Zz2:∀c,c<128->(!(Builtin.Str.occurrences (Zr5++Zxk) ⟨#[c]⟩ 0 (Zr5++Zxk).length 1).isEmpty)=anC c:=by trivial
theorem Zra:Zr5.length+Zxk.length<=sizeLine:=by rw [sizeLine_eq];decide +kernel
theorem Zv8{c:Nat}(h:anC c=true):c<128:=by
 unfold anC Zgj at h;simp at h;lia
def Zk7(x:Str):Bool:=(decide (1<=x.length) && decide (x.length<=6)) && (Zgj (x.cps.toList.headD 0) && x.cps.toList.all anC)
theorem Yz.b{x:Str}(h:Yz x):Zk7 x=true:=by
 obtain ⟨h1,h2,h3,h4⟩:=h;unfold Zk7;rw [decide_eq_true h1,decide_eq_true h2,h3,h4]
 rfl
theorem Yz.low{x:Str}(h:Yz x):∀c∈x.cps.toList,c<128:=fun c hc=>Zv8 (List.all_eq_true.mp h.2.2.2 c hc)
def Zjl(K:Frag)(H:Hp)(v:V)(b:Bool):Prop:=(∃x:Str,v=.str x/\(∀c∈x.cps.toList,c<128)/\x.length<=100/\Zk7 x=b)\/(b=false/\∃t,Xo K H v t/\kitOne K t (.type "str")=some false)
theorem Yz.asked{K:Frag}{H:Hp}{x:Str}(h:Yz x):Zjl K H (.str x) true:=.inl ⟨x,rfl,h.low,by have:=h.2.1;lia,h.b⟩
def Zr7(K:Frag):Sp:=fun vs H Q _=>∃(v:V) (b:Bool),vs=[v]/\Zjl K H v b/\∀H',Same H H'->Q (.bl b) H'
theorem Za7(T:Tx K mg):Zw P w K mg base CX0 1 T.cN.f T.cN.fd ["thing"] (Zr7 K):=by
 refine T.cN.F.okW Zop fun a9 A outer s H vs Q E hr h=>?_
 ·obtain ⟨v,b,rfl,hA,q⟩:=h;intro X;rcases hA with ⟨x,rfl,hasc,g8,hb⟩|⟨rfl,t,ty,k⟩
  ·have hx:x.cps.toList.length=x.length:=Array.length_toList;refine WSs.step (Z0 (Xb (Yx (Zq (r:=Zdc K) Yt (by rfl) T.af PyProof.Rows.boot_isinstance (Zb (pv 0) (Zb (Xw (v:=.ty "str") (by rfl) T.di PyProof.Rows.boot_str rfl) Za))))) Zr Zn) (exR rfl ⟨_,_,true,_,rfl,Xo.str x,.inl (exR rfl T.gQ),_,rfl,Yo (fun z=>absurd z (by decide)) (fun _=>?_)⟩);refine WSs.step (Z0 (PW.pt (Zbm (Zm (r:=Wa K) (Wd hr) (pv 0) Zf (Zu _)) (Zcb (Zm Zls (Zq (r:=W1 K) W6 (by rfl) T.bx PySem.boot_len (Zb (pv 0) Za)) (Wm (by rfl) T.dG) (Zu _))))) Zr Zn) (exR rfl (.inl ⟨rfl,_,rfl,Yo (fun z=>?_) (fun z0=>(exR rfl (.inr (.inl ⟨x,rfl,sz (by lia),_,_,rfl,rfl,_,rfl,Yo (fun z=>?_) (fun z1=>?_)⟩))))⟩))
   ·have e:x=("" :Str):=V.str.inj (of_decide_eq_true z);have:b=false:=by rw [<-hb,e];decide +kernel
    rw [this] at q;exact WSs.last (Zt Zcu) (q H (Same.refl _))
   ·have z:(6:Int)<(x.length:Int):=of_decide_eq_true z;have:b=false:=by
     rw [<-hb];unfold Zk7;rw [decide_eq_false (show ¬x.length<=6 by lia),Bool.and_false]
     rfl
    rw [this] at q;exact WSs.last (Zt Zcu) (q H (Same.refl _))
   have h6:¬(6:Int)<(x.length:Int):=fun z=>z1 (decide_eq_true z)
   have u4:x.cps.toList≠[]:=fun z=>z0 (decide_eq_true (by
    have:x=("" :Str):=PyProof.Rows.ext_toList (z.trans (by trivial));rw [this]))
   obtain ⟨c,cs,D9⟩:∃c cs,x.cps.toList=c ::cs:=by
    cases e:x.cps.toList with
    | nil=>exact absurd e u4
    | cons c cs=>exact ⟨c,cs,rfl⟩
   have hl1:1<=x.length:=by rw [<-hx,D9,List.length_cons];lia
   refine WSs.last (Zt (Zgw (X9 (r:=Zh3 K) (Zjb hr) (Z1 (K:=K) rfl (pv 0) Ze) (Zjw (by rfl) T.dY) (by with_unfolding_all rfl)) (Zmt (Zq (r:=Zzy K) (Zrn rfl) (by rfl) T.gG PyProof.Rows.boot_all (Zb (Wt (N':=["sign"]) rfl (Ya.std 1 [] rfl (by trivial) (by trivial) rfl trivial rfl rfl trivial) (Zyh (pv 0)) (fun _ _ _ _=>(Zbo (i:=0) (by show (["sign"]:List Str).Nodup;decide +kernel))) (fun _ _ _ _=>Zda) (fun _ _ _ _=>(X9 (r:=Zh3 K) (Zjb hr) (pv 0) (Zl Wj (Zjw (by rfl) T.dY) (Zjw (by rfl) T.fE)) (by with_unfolding_all rfl)))) Za))))) (exR rfl (.inr (.inr ⟨x,0,c,rfl,rfl,sz (by lia),by rw [D9];exact Y1 (j:=0) rfl,.inr (.inr (.inl (exQ rfl rfl (exR rfl ?_))))⟩)));rw [Zt7 c (hasc c (by rw [D9];exact List.mem_cons_self))];have hb2:b=(Zgj c && x.cps.toList.all anC):=by
    rw [<-hb];unfold Zk7;rw [decide_eq_true hl1,decide_eq_true (show x.length<=6 by lia),D9]
    rfl
   cases hL:Zgj c with
   | false =>
    refine Zeq ?_;rw [hb2,hL] at q;exact q H (Same.refl _)
   | true =>
    rw [hL,Bool.true_and] at hb2;refine Zd3 ⟨_,rfl,x,rfl,?_,fun D hD=>?_⟩
    ·rw [Array.all_eq_true'];exact fun c hc=>decide_eq_true (hasc c (Array.mem_toList_iff.mpr hc))
    refine Ztw (fun i ys H'=>ys=(x.cps.toList.take i).map (fun c=>V.bl (anC c))/\H' D=some (.lst ys)/\Same H H') ⟨rfl,Zi,fun b' o e=>by rw [Zd (Zg e hD)];exact e⟩ ?_ ?_
    ·rintro i c' ys H' hi ⟨rfl,u6,sm⟩;have hi':x.cps.toList[i]? =some c':=by simpa using hi
     have Q7:c'<128:=hasc c' (List.mem_of_getElem? hi');refine ⟨Zat.set rfl,_,rfl,.inr (.inl ⟨_,_,rfl,rfl,Zra,.inr (.inr (.inl ⟨_,_,rfl,rfl,u6,?_,?_⟩))⟩)⟩
     ·rw [List.length_map,List.length_take,sizeLine_eq];lia
     ·rw [Zz2 c' Q7];refine ⟨?_,Zi,fun b' o e=>?_⟩
      ·rw [List.take_add_one,hi'];simp
      ·rw [Zd (Zg e hD)];exact sm b' o e
    ·rintro ys H' ⟨rfl,u6,sm⟩;refine ⟨D,(x.cps.toList.map anC),rfl,?_,?_⟩
     ·have e:(List.map anC x.cps.toList).map V.bl=List.map (fun c=>V.bl (anC c)) (List.take x.cps.size x.cps.toList):=by
       rw [List.map_map,List.take_of_length_le (by simp)]
       rfl
      rw [e];exact SqL.of u6
     ·have e:(List.map anC x.cps.toList).all id=b:=by rw [List.all_map,hb2];rfl
      rw [e];exact q H' sm
  ·refine WSs.step (Z0 (Xb (Yx (Zq (r:=Zdc K) Yt (by rfl) T.af PyProof.Rows.boot_isinstance (Zb (pv 0) (Zb (Xw (v:=.ty "str") (by rfl) T.di PyProof.Rows.boot_str rfl) Za))))) Zr Zn) (exR rfl ⟨_,_,false,t,rfl,ty,.inl (exR rfl k),_,rfl,Yo (fun _=>?_) (fun z=>absurd rfl z)⟩);exact WSs.last (Zt Zcu) (q H (Same.refl _))
def Zwi:Sp:=fun vs H Q _=>∃(s:Str) (d:Addr) (kvs:List (Key×V)),vs=[.str s,.ref d]/\Yz s/\H d=some (.dK kvs)/\Yv kvs (Z8 s)=none/\∀H',Same H H'->Q .non H'
theorem Wy(T:Tx K mg):Zw P w K mg base CX0 2 T.au.f T.au.fd ["name", "known"] Zwi:=by
 refine T.au.F.okW Zd7 fun a9 A outer s H vs Q E hr h=>?_
 ·obtain ⟨x,d,kvs,rfl,hn,hd,hv,q⟩:=h;intro X;refine WSs.step (Z0 (Xb (Yx (Yj (Za7 T) hr T.cD (Zb (pv 0) Za)))) Zr Zn) (exR rfl ⟨_,true,rfl,hn.asked,fun H1 s1=>(exR rfl (Yo (fun z=>absurd z (by decide)) (fun _=>?_)))⟩);refine WSs.last (Z0 (Zm (r:=Zh3 K) (Zjb hr) (pv 0) (pv 1) (by with_unfolding_all rfl)) Zr Zn) (exR rfl (exR rfl (.inr (.inl ⟨d,_,rfl,Zab.k (k:=Z8 x) (s1.at hd),_,rfl,Yo (fun z=>?_) (fun _=>q H1 s1)⟩))));rw [hv] at z;exact absurd z (by decide)
def Zks(k:Str):List Str:=if k = "points" then ["left", "right"] else [""]
def Zo9(k:Str):Bool:=decide (k∈[("plain" :Str), "gate", "stop"])
def spL(xs:List V):Sp:=fun vs H Q _=>∃v,vs=[v]/\∀p H',Same H H'->H p=none->H' p=some (.lst xs)->Q (.ref p) H'
def spB(b:Bool):Sp:=fun vs H Q _=>∃v,vs=[v]/\Q (.bl b) H
theorem Zgs(T:Tx K mg):Zw P w K mg base CX0 1 T.ba.f T.ba.fd ["self"] (spL ((["a", "b"]:List Str).map V.str)):=by
 refine T.ba.F.okW Zl1 fun a9 A outer s H vs Q E hr h=>?_
 ·obtain ⟨v,rfl,k⟩:=h;intro X;exact WSs.last (Zt (Zo (Zb Zf (Zb Zf Za)))) ⟨szA,k⟩
theorem W0(T:Tx K mg):Zw P w K mg base CX0 1 T.ay.f T.ay.fd ["self"] (spL (([""]:List Str).map V.str)):=by
 refine T.ay.F.okW Zmb fun a9 A outer s H vs Q E hr h=>?_
 ·obtain ⟨v,rfl,k⟩:=h;intro X;exact WSs.last (Zt (Zo (Zb Zf Za))) ⟨szA,k⟩
theorem Zaf(T:Tx K mg):Zw P w K mg base CX0 1 T.az.f T.az.fd ["self"] (spB true):=by
 refine T.az.F.okW Zkd fun a9 A outer s H vs Q E hr h=>?_
 ·obtain ⟨v,rfl,k⟩:=h;intro X;exact WSs.last (Zt Zcu) k
theorem Zgl(T:Tx K mg):Zw P w K mg base CX0 1 T.bc.f T.bc.fd ["self"] (spL ((["a"]:List Str).map V.str)):=by
 refine T.bc.F.okW Zmf fun a9 A outer s H vs Q E hr h=>?_
 ·obtain ⟨v,rfl,k⟩:=h;intro X;exact WSs.last (Zt (Zo (Zb Zf Za))) ⟨szA,k⟩
theorem Zj6(T:Tx K mg):Zw P w K mg base CX0 1 T.bn.f T.bn.fd ["self"] (spL ((["stem", "left", "right"]:List Str).map V.str)):=by
 refine T.bn.F.okW Zir fun a9 A outer s H vs Q E hr h=>?_
 ·obtain ⟨v,rfl,k⟩:=h;intro X;exact WSs.last (Zt (Zo (Zb Zf (Zb Zf (Zb Zf Za))))) ⟨szA,k⟩
theorem Zjs(T:Tx K mg):Zw P w K mg base CX0 1 T.bo.f T.bo.fd ["self"] (spL ((["left", "right"]:List Str).map V.str)):=by
 refine T.bo.F.okW Zi8 fun a9 A outer s H vs Q E hr h=>?_
 ·obtain ⟨v,rfl,k⟩:=h;intro X;exact WSs.last (Zt (Zo (Zb Zf (Zb Zf Za)))) ⟨szA,k⟩
theorem Zhu(T:Tx K mg):Zw P w K mg base CX0 1 T.bd.f T.bd.fd ["self"] (spB false):=by
 refine T.bd.F.okW Zh6 fun a9 A outer s H vs Q E hr h=>?_
 ·obtain ⟨v,rfl,k⟩:=h;intro X;exact WSs.last (Zt Zcu) k
theorem Zki(T:Tx K mg):Zw P w K mg base CX0 1 T.bz.f T.bz.fd ["self"] (spL ((["a", "b", "c", "d"]:List Str).map V.str)):=by
 refine T.bz.F.okW Zkj fun a9 A outer s H vs Q E hr h=>?_
 ·obtain ⟨v,rfl,k⟩:=h;intro X;exact WSs.last (Zt (Zo (Zb Zf (Zb Zf (Zb Zf (Zb Zf Za)))))) ⟨szA,k⟩
theorem Zi6(T:Tx K mg):Zw P w K mg base CX0 1 T.bq.f T.bq.fd ["self"] (spB false):=by
 refine T.bq.F.okW Zi2 fun a9 A outer s H vs Q E hr h=>?_
 ·obtain ⟨v,rfl,k⟩:=h;intro X;exact WSs.last (Zt Zcu) k
theorem X0.ends{T:Tx K mg}{k:Str}{C:Addr}(h:X0 T k C):∃f fd,Yn K C "ends" f/\Zak K fd ["self"] []/\∀(P:Program) (w:World) (base:Heap) (j:Nat),1<=j->Zw P w K mg base CX0 j f fd ["self"] (spL ((Ym k).map V.str)):=by
 rcases h with ⟨rfl,rfl⟩|⟨rfl,rfl⟩|⟨rfl,rfl⟩|⟨rfl,rfl⟩|⟨rfl,rfl|rfl⟩
 ·exact ⟨_,_,T.dQ,T.bn.b,fun P w base j hj=>(Zj6 T).mono hj⟩
 ·exact ⟨_,_,T.er,T.bz.b,fun P w base j hj=>(Zki T).mono hj⟩
 ·exact ⟨_,_,T.eV,T.bc.b,fun P w base j hj=>(Zgl T).mono hj⟩
 ·exact ⟨_,_,T.eS,T.bc.b,fun P w base j hj=>(Zgl T).mono hj⟩
 ·exact ⟨_,_,T.eQ,T.ba.b,fun P w base j hj=>(Zgs T).mono hj⟩
 ·exact ⟨_,_,T.eh,T.ba.b,fun P w base j hj=>(Zgs T).mono hj⟩
theorem X0.lies{T:Tx K mg}{k:Str}{C:Addr}(h:X0 T k C):∃f fd,Yn K C "lies" f/\Zak K fd ["self"] []/\∀(P:Program) (w:World) (base:Heap) (j:Nat),1<=j->Zw P w K mg base CX0 j f fd ["self"] (spL ((Zks k).map V.str)):=by
 rcases h with ⟨rfl,rfl⟩|⟨rfl,rfl⟩|⟨rfl,rfl⟩|⟨rfl,rfl⟩|⟨rfl,rfl|rfl⟩
 ·exact ⟨_,_,T.dR,T.bo.b,fun P w base j hj=>(Zjs T).mono hj⟩
 ·exact ⟨_,_,T.et,T.ay.b,fun P w base j hj=>(W0 T).mono hj⟩
 ·exact ⟨_,_,T.eW,T.ay.b,fun P w base j hj=>(W0 T).mono hj⟩
 ·exact ⟨_,_,T.eU,T.ay.b,fun P w base j hj=>(W0 T).mono hj⟩
 ·exact ⟨_,_,T.eR,T.ay.b,fun P w base j hj=>(W0 T).mono hj⟩
 ·exact ⟨_,_,T.ei,T.ay.b,fun P w base j hj=>(W0 T).mono hj⟩
theorem X0.bears{T:Tx K mg}{k:Str}{C:Addr}(h:X0 T k C):∃f fd,Yn K C "bears" f/\Zak K fd ["self"] []/\∀(P:Program) (w:World) (base:Heap) (j:Nat),1<=j->Zw P w K mg base CX0 j f fd ["self"] (spB (Zo9 k)):=by
 rcases h with ⟨rfl,rfl⟩|⟨rfl,rfl⟩|⟨rfl,rfl⟩|⟨rfl,rfl⟩|⟨rfl,rfl|rfl⟩
 ·exact ⟨_,_,T.dC,T.bd.b,fun P w base j hj=>(Zhu T).mono hj⟩
 ·exact ⟨_,_,T.dS,T.bq.b,fun P w base j hj=>(Zi6 T).mono hj⟩
 ·exact ⟨_,_,T.eo,T.az.b,fun P w base j hj=>(Zaf T).mono hj⟩
 ·exact ⟨_,_,T.ek,T.az.b,fun P w base j hj=>(Zaf T).mono hj⟩
 ·exact ⟨_,_,T.eg,T.az.b,fun P w base j hj=>(Zaf T).mono hj⟩
 ·exact ⟨_,_,T.dP,T.az.b,fun P w base j hj=>(Zaf T).mono hj⟩
theorem X0.cls{T:Tx K mg}{k:Str}{C:Addr}(h:X0 T k C):Cls K C/\Y3 K C "name" /\True:=by
 rcases h with ⟨rfl,rfl⟩|⟨rfl,rfl⟩|⟨rfl,rfl⟩|⟨rfl,rfl⟩|⟨rfl,rfl|rfl⟩
 ·exact ⟨T.cU,T.cV,trivial⟩
 ·exact ⟨T.du,T.dg,trivial⟩
 ·exact ⟨T.em,T.dB,trivial⟩
 ·exact ⟨T.ej,T.dA,trivial⟩
 ·exact ⟨T.fg,T.fh,trivial⟩
 ·exact ⟨T.dq,T.df,trivial⟩
theorem _root_.L2.Same.upd0{H H':Hp}{d:Addr}{o:HO}(s:Same H H')(n:H d=none):Same H (upd H' d o):=fun b u e=>by rw [Zd (Zg e n)];exact s.at e
def PO(T:Tx K mg)(H:Hp)(x:Addr)(p:Zc):Prop:=∃C,X0 T p.1 C/\Zdw H C x p.2
theorem PO.mono{T:Tx K mg}{H H':Hp}{x:Addr}{p:Zc}(e:Same H H')(h:PO T H x p):PO T H' x p:=let ⟨C,h1,h2⟩:=h;⟨C,h1,h2.mono e⟩
def Zyw(T:Tx K mg):Sp:=fun vs H Q _=>∃(l:Addr) (xs:List Addr) (ps:List Zc),vs=[.ref l]/\H l=some (.lst (xs.map V.ref))/\Paired (PO T H) xs ps/\(ps.map Prod.snd).Nodup/\(∀p∈ps,Yz p.2)/\ps.length<=100 /\
 ∀(d:Addr) (kvs:List (Key×V)) (H':Hp),Same H H'->H d=none->H' d=some (.dK kvs)->DP Z8 (RP T H) kvs (qP ps)->Q (.ref d) H'
theorem Zgu(T:Tx K mg):Zw P w K mg base CX0 3 T.bt.f T.bt.fd ["parts"] (Zyw T):=by
 refine T.bt.F.okW W9 fun a9 A outer s H vs Q E hr h=>?_
 ·obtain ⟨l,xs,ps,rfl,hl,hx,nd,nm,len,q⟩:=h;intro X;have hxl:=Paired.length hx;refine WSs.step (Zv (i:=1) W9.nd Zhb) fun d H1 s1 n1 e1=>?_
  let I14:=fun (i:Nat) (σ:St) (H':Hp)=>(∃o,σ=[some (.ref l),some (.ref d),o])/\Same H H'/\∃kvs,H' d=some (.dK kvs)/\DP Z8 (RP T H) kvs (qP (ps.take i))
  refine WSs.step (We PassesOwn.never rfl (Y0 (pv 0)) (Xn (i:=2) W9.nd) Zr) (exR rfl ⟨l,rfl,⟨_,SqL.of (s1.at hl)⟩,Zbg (K:=K) (xs:=xs.map V.ref) I14 ⟨⟨none,rfl⟩,s1,[],e1,.nil⟩ ?_ ?_ ?_⟩)
  ·rintro i σ H' _ ⟨_,s2,_⟩;exact SqL.of (s2.at hl)
  ·rintro i v σ H2 hi ⟨⟨o,rfl⟩,s2,kvs,hd,hD⟩;rw [List.getElem?_map] at hi;obtain ⟨x,hxi,rfl⟩:=Option.map_eq_some_iff.mp hi;obtain ⟨p,hp,C,hC,dx,hO⟩:=Paired.get hx hxi;have hm:p∈ps:=List.mem_of_getElem? hp;have L5:=(List.getElem?_eq_some_iff.mp hp).1;have hn:Yv kvs (Z8 p.2)=none:=hD.none Xd (by
    rw [Zml,List.map_take];exact Zij nd (by rw [List.getElem?_map,hp];rfl))
   have U9:kvs.length<=100:=by
    have:=hD.len;unfold qP at this;rw [List.length_map,List.length_take] at this;lia
   refine WSs.step (Z4 (Yj (Wy T) hr T.br (Zb (Yk (pv 2) rfl) (Zb (pv 1) Za)))) (exR rfl ⟨x,C,dx,_,_,rfl,s2.at hO,hC.cls.1,hC.cls.2.1,rfl,_,rfl,p.2,d,kvs,rfl,nm p hm,hd,hn,fun H3 s3=>?_⟩);have k7:=s2.trans s3;refine WSs.last (Zbv (W5 hr) (pv 1) (Yk (pv 2) rfl) (pv 2) rfl) (exR rfl (exR rfl (exR rfl ⟨x,C,dx,_,_,rfl,k7.at hO,hC.cls.1,hC.cls.2.1,rfl,d,_,rfl,Zgk.k (k:=Z8 p.2) (s3.at hd) (Zx (by lia)),⟨_,rfl⟩,k7.upd0 n1,_,Zi,?_⟩)));have:qP (ps.take (i+1))=qP (ps.take i)++[(p.2,p.1)]:=by
    unfold qP;rw [List.take_add_one,hp,List.map_append]
    rfl
   rw [this];exact hD.put hn ⟨x,C,rfl,hC,dx,hO⟩
  ·rintro σ H2 ⟨⟨o,rfl⟩,s2,kvs,hd,hD⟩;rw [List.length_map,hxl,List.take_length] at hD;exact WSs.last (Zt (pv 1)) (exR rfl (q d kvs H2 s2 n1 hd hD))
theorem _root_.L2.Same.frz{H H1:Hp}{d:Addr}{u:HO}(s:Same H H1):Same (upd H d u) (upd H1 d u):=fun b o e=>by
 by_cases z:b=d
 ·rw [z,Zi] at e ⊢;exact e
 ·rw [Zd z] at e ⊢;exact s.at e
def Zy7(T:Tx K mg):Sp:=fun vs H Q _=>∃(d:Addr) (kvs:List (Key×V)) (ps:List Zc),vs=[.ref d]/\H d=some (.dK kvs)/\DP Z8 (RP T H) kvs (qP ps)/\(ps.map Prod.snd).Nodup/\ps.length<=100 /\
 ∀(a:Addr) (ka:List (List Key×V)) (H':Hp),Same H H'->H a=none->H' a=some (.dT ka)->DP Y9 (RA T H) ka (qA ps)->Q (.ref a) H'
theorem Zsm(ps:List Zc):(qA ps).length<=4 * ps.length:=by
 induction ps with
 | nil=>decide
 | cons p ps ih =>
  have:=Zig p.1;have e:qA (p ::ps)=(Ym p.1).map (fun e=>((p.2,e),p.1))++qA ps:=rfl;rw [e,List.length_append,List.length_map,List.length_cons];lia
theorem Zpu{ps:List Zc}{i:Nat}{p:Zc}(h:ps[i]? =some p):qA (ps.take (i+1))=qA (ps.take i)++(Ym p.1).map fun e=>((p.2,e),p.1):=by
 unfold qA;rw [List.take_add_one,h,List.flatMap_append];simp
theorem Zgz(T:Tx K mg):Zw P w K mg base CX0 2 T.bu.f T.bu.fd ["part_of"] (Zy7 T):=by
 refine T.bu.F.okW Xu fun a9 A outer s H vs Q E hr h=>?_
 ·obtain ⟨d,kvs,ps,rfl,hd,hD,nd,len,q⟩:=h;intro X;have U9:kvs.length=ps.length:=by have:=hD.len;unfold qP at this;rw [List.length_map] at this;exact this
  refine WSs.step (Zv (i:=1) Xu.nd Zk9) fun a H1 s1 n1 e1=>?_
  have had:a≠d:=fun z=>by rw [z,hd] at n1;cases n1
  refine WSs.step (Zpo (We PassesOwn.never rfl (Zn6 (pv 0)) (Zd6 rfl (Z7 (Xn (i:=2) Xu.nd) (Z7 (Xn (i:=3) Xu.nd) X8))) Zr)) (exR rfl ⟨d,_,rfl,s1.at hd,fun o nf=>Zqh (fun i σ H'=>(∃o2 o3 o4,σ=[some (.ref d),some (.ref a),o2,o3,o4])/\Same (upd H d (.frz o (.dK kvs))) H'/\∃ka,H' a=some (.dT ka)/\DP Y9 (RA T H) ka (qA (ps.take i))) ⟨⟨none,none,none,rfl⟩,s1.frz,[],by rw [Zd had];exact e1,.nil⟩ ?_ ?_ ?_⟩)
  ·rintro i σ H' _ ⟨_,s2,_⟩;exact s2.at Zi
  ·rintro i kv σ H2 hi ⟨⟨o2,o3,o4,rfl⟩,s2,ka,ha,hA⟩ tp H3 s3 n3 e3;obtain ⟨⟨nm,kd⟩,hq,hk,x,C,hv,hC,dx,hO⟩:=Paired.get hD hi;have hp:ps[i]? =some (kd,nm):=by
    unfold qP at hq;rw [List.getElem?_map] at hq;obtain ⟨⟨p1,p2⟩,hp,e⟩:=Option.map_eq_some_iff.mp hq;rw [hp];simp only [Prod.mk.injEq] at e;rw [e.1,e.2]
   have L5:=(List.getElem?_eq_some_iff.mp hp).1;have hxd:x≠d:=fun z=>by rw [z,hd] at hO;cases hO
   have hOF:upd H d (.frz o (.dK kvs)) x=some (.ins C dx [("name",.str nm)]):=by rw [Zd hxd];exact hO
   obtain ⟨f1,d1,m1,b1,g1⟩:=hC.ends;have hk:kv.1=Sum.inr nm:=hk;rw [hk,hv] at e3;have hFa:upd H d (.frz o (.dK kvs)) a=none:=by rw [Zd had];exact n1
   refine ⟨tp,_,rfl,SqT.of e3,rfl,_,_,rfl,_,_,rfl,rfl,?_⟩;have s23:=s2.trans s3;refine WSs.last (We PassesOwn.never rfl (Y0 Zvd) (Xn (i:=4) Xu.nd) Zr) (WE.of (Yw (pv 3) hC.cls.1 m1 (g1 _ _ _ 1 (by decide)) hr b1 .nil Yg) (exR rfl ⟨x,dx,_,rfl,s23.at hOF,rfl,_,rfl,fun p H4 s4 n4 e4=>⟨p,rfl,⟨_,SqL.of e4⟩,Zbg (K:=K) (xs:=(Ym kd).map V.str) (fun j σ H'=>(∃o4,σ=[some (.ref d),some (.ref a),some (.str nm),some (.ref x),o4])/\Same (upd H d (.frz o (.dK kvs))) H'/\H' p=some (.lst ((Ym kd).map V.str))/\∃ka,H' a=some (.dT ka)/\DP Y9 (RA T H) ka (qA (ps.take i)++((Ym kd).take j).map fun e=>((nm,e),kd))) ⟨⟨_,rfl⟩,s23.trans s4,e4,ka,s4.at (s3.at ha),by rw [List.take_zero,List.map_nil,List.append_nil];exact hA⟩ ?_ ?_ ?_⟩⟩))
   ·rintro j σ H' _ ⟨_,_,z,_⟩;exact SqL.of z
   ·rintro j v σ H5 hj ⟨⟨o4,rfl⟩,s5,hp5,ka5,ha5,hA5⟩;rw [List.getElem?_map] at hj;obtain ⟨e,he,rfl⟩:=Option.map_eq_some_iff.mp hj;have hlen5:ka5.length<=500:=by
     have h1:=hA5.len;have h2:=Zsm (ps.take i);have h3:=Zig kd;rw [List.length_append,List.length_map,List.length_take] at h1;rw [List.length_take] at h2;lia
    have j8:Yv ka5 (Y9 (nm,e))=none:=hA5.none Zcx (by
     have h1:(Yy (ps.take (i+1))).Nodup:=Zcz (by rw [List.map_take];exact nd.sublist (List.take_sublist _ _));rw [<-Zmu,Zpu hp,List.map_append] at h1;rw [List.map_append];have ed:Ym kd=(Ym kd).take j++(e ::(Ym kd).drop (j+1)):=by rw [<-Zm5 he,List.take_append_drop]
     rw [show ((kd,nm):Zc).1=kd from rfl,ed,List.map_append,List.map_append,List.map_cons,List.map_cons,<-List.append_assoc,List.nodup_append] at h1;intro m;exact h1.2.2 _ m _ List.mem_cons_self rfl)
    refine WSs.last (Zbv (W5 hr) (pv 1) (Zj (Zb (pv 2) (Zb (pv 4) Za))) (pv 3) rfl) (exR rfl (exR rfl (exR rfl (exR rfl ⟨szA,fun t H6 s6 n6 e6=>⟨a,_,rfl,Zgk.t (k:=Y9 (nm,e)) (s6.at ha5) e6 (Zx (by lia)),⟨_,rfl⟩,(s5.trans s6).upd0 hFa,?_,_,Zi,?_⟩⟩))))
    ·rw [Zd (Zwc hp5 ha5 (fun z=>nomatch z))];exact s6.at hp5
    ·have:((Ym kd).take (j+1)).map (fun e=>((nm,e),kd))=((Ym kd).take j).map (fun e=>((nm,e),kd))++[((nm,e),kd)]:=by
      rw [List.take_add_one,he,List.map_append]
      rfl
     rw [this,<-List.append_assoc];exact hA5.put j8 ⟨x,C,rfl,hC,dx,hO⟩
   ·rintro σ H5 ⟨⟨o4,rfl⟩,s5,hp5,ka5,ha5,hA5⟩;rw [List.length_map,List.take_length] at hA5;refine ⟨⟨_,_,_,rfl⟩,s5,ka5,ha5,?_⟩;rw [Zpu hp];exact hA5
  ·rintro σ H2 ⟨⟨o2,o3,o4,rfl⟩,s2,ka,ha,hA⟩;rw [U9,List.take_length] at hA;refine ⟨d,o,_,s2.at Zi,nf,WSs.last (Zt (pv 1)) ⟨_,rfl,q a ka _ (s2.thaw hd) n1 ?_ hA⟩⟩;rw [Zd had];exact ha
def Zyb:Sp:=fun vs H Q _=>∃(t:Addr) (u v:V),vs=[.ref t]/\H t=some (.tup [u,v])/\Q (.bl true) H
theorem Zi3(T:Tx K mg):Zw P w K mg base CX0 1 T.cO.f T.cO.fd ["thing"] Zyb:=by
 refine T.cO.F.okW Zo6 fun a9 A outer s H vs Q E hr h=>?_
 ·obtain ⟨t,u,v,rfl,ht,q⟩:=h;intro X;exact WSs.last (Zt (Zgw (Zq (r:=Zdc K) Yt (by rfl) T.af PyProof.Rows.boot_isinstance (Zb (pv 0) (Zb (Xw (v:=.ty "tuple") (by rfl) T.gf PyProof.Rows.boot_tuple rfl) Za))) (Zmt (X9 (r:=Wa K) (Wd hr) (Zq (r:=W1 K) W6 (by rfl) T.bx PySem.boot_len (Zb (pv 0) Za)) Ze (Zu _))))) (exR rfl ⟨_,_,true,_,rfl,Xo.tup ht,.inl (exR rfl T.gW),_,rfl,Zd3 (exR rfl (.inl ⟨t,_,rfl,.inr (SqT.of ht),.inl ⟨rfl,q⟩⟩))⟩)
def Ya1:Sp:=fun vs H Q _=>∃(t d:Addr) (e:Zc) (kvs:List (List Key×V)),vs=[.ref t,.ref d]/\Zs H t e/\H d=some (.dT kvs)/\Q (.bl (Yv kvs (Y9 e)).isSome) H
theorem Zhp(T:Tx K mg):Zw P w K mg base CX0 2 T.cF.f T.cF.fd ["end", "ends"] Ya1:=by
 refine T.cF.F.okW Znz fun a9 A outer s H vs Q E hr h=>?_
 ·obtain ⟨t,d,e,kvs,rfl,ht,hd,q⟩:=h;intro X;exact WSs.last (Zt (Zgw (Yj (Zi3 T) hr T.dW (Zb (pv 0) Za)) (Zgw (Zq (r:=Zdc K) Yt (by rfl) T.af PyProof.Rows.boot_isinstance (Zb (Z1 (K:=K) rfl (pv 0) Ze) (Zb (Xw (v:=.ty "str") (by rfl) T.di PyProof.Rows.boot_str rfl) Za))) (Zgw (Zq (r:=Zdc K) Yt (by rfl) T.af PyProof.Rows.boot_isinstance (Zb (Z1 (K:=K) rfl (pv 0) Ze) (Zb (Xw (v:=.ty "str") (by rfl) T.di PyProof.Rows.boot_str rfl) Za))) (Zmt (X9 (r:=Zh3 K) (Zjb hr) (pv 0) (pv 1) (by with_unfolding_all rfl))))))) (exR rfl ⟨t,_,_,rfl,ht,_,rfl,Zd3 (exR rfl (ixT ht 0 rfl ⟨_,_,true,_,rfl,Xo.str _,.inl (exR rfl T.gQ),_,rfl,Zd3 (exR rfl (ixT ht 1 rfl ⟨_,_,true,_,rfl,Xo.str _,.inl (exR rfl T.gQ),_,rfl,Zd3 (exR rfl (exR rfl (.inr (.inl ⟨d,_,rfl,Zab.t (k:=Y9 e) hd ht,q⟩))))⟩))⟩))⟩)
def Ya0:Sp:=fun vs H Q _=>∃(t pa d a b:Addr) (e1 e2:Zc) (ka kd:List (List Key×V)),vs=[.ref t,.ref pa,.ref d]/\H t=some (.tup [.ref a,.ref b])/\Zs H a e1/\Zs H b e2/\H pa=some (.dT ka)/\H d=some (.dT kd) /\
 (Yv ka (Y9 e1)).isSome=true/\(Yv ka (Y9 e2)).isSome=true/\Yv kd (Y9 e1)=none/\Yv kd (Y9 e2)=none/\e1.1≠e2.1/\Q .non H
theorem Zjp(T:Tx K mg):Zw P w K mg base CX0 3 T.bH.f T.bH.fd ["join", "part_at", "joined"] Ya0:=by
 refine T.bH.F.okW Zed fun a9 A outer s H vs Q E hr h=>?_
 ·obtain ⟨t,pa,d,a,b,e1,e2,ka,kd,rfl,ht,ha,hb,T3,hd,k1,k2,n1,n2,ne,q⟩:=h;intro X;refine WSs.step (Z0 (Xb (Yx (Yj (Zi3 T) hr T.dW (Zb (pv 0) Za)))) Zr Zn) (exR rfl ⟨t,_,_,rfl,ht,_,rfl,Yo (fun z=>absurd z (by decide)) (fun _=>?_)⟩);let I15:=fun (i:Nat) (σ:St) (H':Hp)=>(∃o,σ=[some (.ref t),some (.ref pa),some (.ref d),o])/\H'=H
  refine WSs.step (We PassesOwn.never rfl (Zwq (pv 0)) (Xn (i:=3) Zed.nd) Zr) (exR rfl ⟨t,rfl,⟨_,SqT.of ht⟩,Zvw (K:=K) (xs:=[.ref a,.ref b]) I15 ⟨⟨none,rfl⟩,rfl⟩ ?_ ?_ ?_⟩)
  ·rintro i σ H' _ ⟨_,rfl⟩;exact SqT.of ht
  ·rintro i v σ H' hi ⟨⟨o,rfl⟩,hH⟩;rw [hH];obtain ⟨x,e,rfl,hx,h1,h2⟩:∃x e,v=V.ref x/\Zs H x e/\(Yv ka (Y9 e)).isSome=true/\Yv kd (Y9 e)=none:=by
    match i,hi with
    | 0,hi=>cases hi;exact ⟨a,e1,rfl,ha,k1,n1⟩
    | 1,hi=>cases hi;exact ⟨b,e2,rfl,hb,k2,n2⟩
   refine WSs.step (Z0 (Xb (Yx (Yj (Zhp T) hr T.dv (Zb (pv 3) (Zb (pv 1) Za))))) Zr Zn) (exR rfl (exR rfl ⟨x,pa,e,ka,rfl,hx,T3,_,rfl,Yo (fun z=>?_) (fun _=>?_)⟩))
   ·rw [h1] at z;exact absurd z (by decide)
   refine WSs.last (Z0 (Zm (r:=Zh3 K) (Zjb hr) (pv 3) (pv 2) (by with_unfolding_all rfl)) Zr Zn) (exR rfl (exR rfl (.inr (.inl ⟨d,_,rfl,Zab.t (k:=Y9 e) hd hx,_,rfl,Yo (fun z=>?_) (fun _=>⟨⟨_,rfl⟩,rfl⟩)⟩))));rw [h2] at z;exact absurd z (by decide)
  ·rintro σ H' ⟨⟨o,rfl⟩,hH⟩;rw [hH];refine WSs.last (Z0 (Zm (r:=Wa K) (Wd hr) (Z1 (K:=K) rfl (Z1 (K:=K) rfl (pv 0) Ze) Ze) (Z1 (K:=K) rfl (Z1 (K:=K) rfl (pv 0) Ze) Ze) (Zu _)) Zr Zn) (exR rfl (ixT ht 0 rfl (ixT ha 0 rfl (exR rfl (ixT ht 1 rfl (ixT hb 0 rfl (.inl ⟨rfl,_,rfl,Yo (fun z=>?_) (fun _=>q)⟩)))))));exact absurd (V.str.inj (of_decide_eq_true z)) ne
def Yah:Sp:=fun vs H Q _=>∃(jl pa:Addr) (js:List (Zc×Zc)) (ka:List (List Key×V)),vs=[.ref jl,.ref pa]/\Yi H jl js/\H pa=some (.dT ka)/\(∀e∈Xc js,(Yv ka (Y9 e)).isSome=true)/\ka.length=(Xc js).length/\(Xc js).Nodup/\(∀j∈js,j.1.1≠j.2.1)/\js.length<=300 /\
 ∀(d:Addr) (kj:List (List Key×V)) (H':Hp),Same H H'->H d=none->H' d=some (.dT kj)->DP Y9 (RJ H) kj (qJ js)->Q (.ref d) H'
theorem Zpr{js:List (Zc×Zc)}{i:Nat}{j:Zc×Zc}(h:js[i]? =some j):qJ (js.take (i+1))=qJ (js.take i)++[(j.1,j.2)]++[(j.2,j.1)]:=by
 unfold qJ;rw [List.take_add_one,h,List.flatMap_append];simp
theorem Ztg(js:List (Zc×Zc)):(qJ js).length=2 * js.length:=by
 induction js with
 | nil=>rfl
 | cons j js ih =>
  have e:qJ (j ::js)=[(j.1,j.2),(j.2,j.1)]++qJ js:=rfl;rw [e,List.length_append,ih];simp only [List.length_cons,List.length_nil];lia
theorem Zjk(T:Tx K mg):Zw P w K mg base CX0 4 T.bI.f T.bI.fd ["joins", "part_at"] Yah:=by
 refine T.bI.F.okW Zbb fun a9 A outer s H vs Q E hr h=>?_
 ·obtain ⟨jl,pa,js,ka,rfl,hJ,T3,hk,U9,nd,apart,len,q⟩:=h;intro X;obtain ⟨ts,hl,i8⟩:=hJ;have htl:=Paired.length i8;refine WSs.step (Zv (i:=2) Zbb.nd Zk9) fun d H1 s1 n1 e1=>?_
  let I16:=fun (i:Nat) (σ:St) (H':Hp)=>(∃o,σ=[some (.ref jl),some (.ref pa),some (.ref d),o])/\Same H H'/\∃kj,H' d=some (.dT kj)/\DP Y9 (RJ H) kj (qJ (js.take i))
  refine WSs.step (We PassesOwn.never rfl (Y0 (pv 0)) (Xn (i:=3) Zbb.nd) Zr) (exR rfl ⟨jl,rfl,⟨_,SqL.of (s1.at hl)⟩,Zbg (K:=K) (xs:=ts.map V.ref) I16 ⟨⟨none,rfl⟩,s1,[],e1,.nil⟩ ?_ ?_ ?_⟩)
  ·rintro i σ H' _ ⟨_,s2,_⟩;exact SqL.of (s2.at hl)
  ·rintro i v σ H2 hi ⟨⟨o,rfl⟩,s2,kj,hd,hD⟩;rw [List.getElem?_map] at hi;obtain ⟨t,hti,rfl⟩:=Option.map_eq_some_iff.mp hi;obtain ⟨j,hj,a,b,ht,ha,hb⟩:=Paired.get i8 hti;have hm:j∈js:=List.mem_of_getElem? hj;have L5:=(List.getElem?_eq_some_iff.mp hj).1;have m1:j.1∈Xc js:=List.mem_flatMap.mpr ⟨j,hm,by simp⟩;have m2:j.2∈Xc js:=List.mem_flatMap.mpr ⟨j,hm,by simp⟩;have g8:kj.length<=600:=by
    have h1:=hD.len;rw [Ztg,List.length_take] at h1;lia
   have P9:(Xc (js.take i)++[j.1]++[j.2]).Nodup:=by
    have h1:(Xc (js.take (i+1))).Nodup:=nd.sublist (by
     have:Xc js=Xc (js.take (i+1))++Xc (js.drop (i+1)):=by rw [<-Zcn,List.take_append_drop]
     rw [this];exact List.sublist_append_left _ _)
    rw [<-Zft,Zpr hj,List.map_append,List.map_append,Zft] at h1;exact h1
   have nd1:j.1∉Xc (js.take i):=fun z=>(List.nodup_append.mp (List.nodup_append.mp P9).1).2.2 _ z _ List.mem_cons_self rfl
   have nd2:j.2∉Xc (js.take i)++[j.1]:=fun z=>(List.nodup_append.mp P9).2.2 _ z _ List.mem_cons_self rfl
   have v1:Yv kj (Y9 j.1)=none:=hD.none Zcx (by rw [Zft];exact nd1);have v2:Yv kj (Y9 j.2)=none:=hD.none Zcx (by rw [Zft];exact fun z=>nd2 (List.mem_append_left _ z));refine WSs.step (Z4 (Yj (Zjp T) hr T.dI (Zb (pv 3) (Zb (pv 1) (Zb (pv 2) Za))))) (exR rfl (exR rfl (exR rfl ⟨t,pa,d,a,b,j.1,j.2,ka,kj,rfl,s2.at ht,ha.mono s2,hb.mono s2,s2.at T3,hd,hk _ m1,hk _ m2,v1,v2,apart j hm,?_⟩)));have L7:DP Y9 (RJ H) (W2 kj (Y9 j.1) (.ref b)) (qJ (js.take i)++[(j.1,j.2)]):=hD.put v1 ⟨b,rfl,hb⟩;have hl1:=Zbs kj (Y9 j.1) (.ref b);have v3:Yv (W2 kj (Y9 j.1) (.ref b)) (Y9 j.2)=none:=L7.none Zcx (by rw [List.map_append,Zft];exact nd2);refine WSs.step (Zbv (W5 hr) (pv 2) (Z1 (K:=K) rfl (pv 3) Ze) (Z1 (K:=K) rfl (pv 3) Ze) rfl) (exR rfl (ixT (s2.at ht) 1 rfl (exR rfl (exR rfl (ixT (s2.at ht) 0 rfl ⟨d,_,rfl,Zgk.t (k:=Y9 j.1) hd (Zpp (ha.mono s2)) (Zx (by lia)),?_⟩)))));have s3:Same H (upd H2 d (.dT (W2 kj (Y9 j.1) (.ref b)))):=s2.upd0 n1;refine WSs.last (Zbv (W5 hr) (pv 2) (Z1 (K:=K) rfl (pv 3) Ze) (Z1 (K:=K) rfl (pv 3) Ze) rfl) (exR rfl (ixT (s3.at ht) 0 rfl (exR rfl (exR rfl (ixT (s3.at ht) 1 rfl ⟨d,_,rfl,Zgk.t (k:=Y9 j.2) Zi (Zpp (hb.mono s3)) (Zx (by lia)),⟨_,rfl⟩,s3.upd0 n1,_,Zi,?_⟩)))));rw [Zpr hj];exact L7.put v3 ⟨a,rfl,ha⟩
  ·rintro σ H2 ⟨⟨o,rfl⟩,s2,kj,hd,hD⟩;rw [List.length_map,htl,List.take_length] at hD;have hlj:kj.length=ka.length:=by
    have h1:=hD.len;rw [U9,h1,<-Zft,List.length_map]
   refine WSs.step (Z0 (Zm Zk3 (Zq (r:=Zs4) Zk8 (by rfl) T.bx PySem.boot_len (Zb (pv 2) Za)) (Zq (r:=Zs4) Zk8 (by rfl) T.bx PySem.boot_len (Zb (pv 1) Za)) (Zu _)) Zr Zn) (exR rfl ⟨d,kj,rfl,hd,_,rfl,pa,ka,rfl,s2.at T3,_,_,rfl,rfl,_,rfl,Yo (fun z=>?_) (fun _=>?_)⟩)
   ·have:(kj.length:Int)<(ka.length:Int):=of_decide_eq_true z;exact absurd this (by lia)
   exact WSs.last (Zt (pv 2)) (exR rfl (q d kj H2 s2 n1 hd hD))
def Yas(T:Tx K mg):Sp:=fun vs H Q _=>∃(t pa l x C:Addr) (e:Zc) (k nm:Str) (ka:List (List Key×V)) (us:List Addr) (es:List Zc),vs=[.ref t,.ref pa,.ref l]/\Zs H t e/\H pa=some (.dT ka)/\Yv ka (Y9 e)=some (.ref x)/\X0 T k C/\Zdw H C x nm/\Zo9 k=true /\
 H l=some (.lst (us.map V.ref))/\Paired (Zs H) us es/\e∉es/\Q .non H
theorem Zu6{a b:Zc}(h:trP a=trP b):a=b:=by
 obtain ⟨a1,a2⟩:=a;obtain ⟨b1,b2⟩:=b;unfold trP at h;simp only [Tr.tup.injEq,List.cons.injEq,Tr.str.injEq,and_true] at h;rw [h.1,h.2]
theorem Zj3(T:Tx K mg):Zw P w K mg base CX0 3 T.bJ.f T.bJ.fd ["end", "part_at", "ends_with_signals"] (Yas T):=by
 refine T.bJ.F.okW Ziu fun a9 A outer s H vs Q E hr h=>?_
 ·obtain ⟨t,pa,l,x,C,e,k,nm,ka,us,es,rfl,ht,T3,hv,hC,⟨dx,hO⟩,hb,hl,hu,u4,q⟩:=h;intro X;obtain ⟨f1,d1,m1,b1,g1⟩:=hC.bears;refine WSs.step (Z0 (Xb (Yx (Yj (Zhp T) hr T.dv (Zb (pv 0) (Zb (pv 1) Za))))) Zr Zn) (exR rfl (exR rfl ⟨t,pa,e,ka,rfl,ht,T3,_,rfl,Yo (fun z=>?_) (fun _=>?_)⟩))
  ·rw [hv] at z;exact absurd z (by simp)
  refine WSs.step (Z0 (Xb (Yx Zvd)) Zr Zn) (WE.of (Yw (Zbx (W5 hr) (pv 1) (pv 0) (fun _ _=>rfl)) hC.cls.1 m1 (g1 _ _ _ 2 (by decide)) hr b1 .nil Yg) (exR rfl (exR rfl ⟨pa,_,rfl,by rw [<-hv];exact Zab.t (k:=Y9 e) T3 ht,x,dx,_,rfl,hO,rfl,_,rfl,_,rfl,Yo (fun z=>?_) (fun _=>?_)⟩)))
  ·rw [hb] at z;exact absurd z (by decide)
  refine WSs.last (Z0 (Zm (r:=Zh3 K) (Zjb hr) (pv 0) (pv 2) (by with_unfolding_all rfl)) Zr Zn) (exR rfl (exR rfl (.inr (.inr (.inr ⟨l,1,trP e,es.map trP,us,rfl,SqL.of hl,by decide,Im.tup (n:=0) (SqT.of ht) (.cons (.str _) (.cons (.str _) .nil)),Zn7 hu,_,rfl,Yo (fun z=>?_) (fun _=>q)⟩)))));have z:trP e∈es.map trP:=of_decide_eq_true z;obtain ⟨e',he',h'⟩:=List.mem_map.mp z;rw [Zu6 h'] at he';exact absurd he' u4
theorem Zs.offD{H:Hp}{c t:Addr}{o:HO}{xs:List (Key×V)}{q:Zc}(h:Zs H t q)(hc:H c=some (.dK xs)):Zs (upd H c o) t q:=by
 unfold Zs at h ⊢;exact (Zd fun z=>by rw [z,hc] at h;cases h).trans h
def Yai(T:Tx K mg):Sp:=fun vs H Q _=>∃(sl pa:Addr) (ts:List Addr) (sg:List (Str×Str×Str)) (ka:List (List Key×V)),vs=[.ref sl,.ref pa]/\H sl=some (.lst (ts.map V.ref))/\Paired (Zvz H) ts sg/\H pa=some (.dT ka)/\(∀q∈sg,Yz q.1)/\(sg.map Prod.fst).Nodup/\(sg.map Prod.snd).Nodup/\sg.length<=100 /\
 (∀q∈sg,∃x C k,Yv ka (Y9 (q.2.1,q.2.2))=some (.ref x)/\X0 T k C/\Zdw H C x q.2.1/\Zo9 k=true) /\
 ∀(d:Addr) (ks:List (Key×V)) (H':Hp),Same H H'->H d=none->H' d=some (.dK ks)->DP Z8 (RS H') ks (qS sg)->Q (.ref d) H'
theorem Zu2{H:Hp}{ks:List (Key×V)}{qs:List (Str×Zc)}(h:DP Z8 (RS H) ks qs):∃us:List Addr,ks.map (fun kv=>kv.2)=us.map V.ref/\Paired (Zs H) us (qs.map Prod.snd):=by
 unfold DP at h
 induction h with
 | nil=>exact ⟨[],rfl,.nil⟩
 | cons r _ ih =>
  obtain ⟨us,h1,h2⟩:=ih;obtain ⟨_,t,hv,ht⟩:=r;exact ⟨t ::us,by rw [List.map_cons,List.map_cons,h1,hv],.cons ht h2⟩
theorem Zn9(T:Tx K mg):Zw P w K mg base CX0 4 T.cG.f T.cG.fd ["signals", "part_at"] (Yai T):=by
 refine T.cG.F.okW Zai fun a9 A outer s H vs Q E hr h=>?_
 ·obtain ⟨sl,pa,ts,sg,ka,rfl,hl,i8,T3,V0,nd,one,len,hk,q⟩:=h;intro X;have htl:=Paired.length i8;refine WSs.step (Zv (i:=2) Zai.nd Zhb) fun d H1 s1 n1 e1=>?_
  let I17:=fun (i:Nat) (σ:St) (H':Hp)=>(∃o3 o4 o5,σ=[some (.ref sl),some (.ref pa),some (.ref d),o3,o4,o5])/\Same H H'/\∃ks,H' d=some (.dK ks)/\DP Z8 (RS H') ks (qS (sg.take i))
  refine WSs.step (We PassesOwn.never rfl (Y0 (pv 0)) (Xn (i:=3) Zai.nd) Zr) (exR rfl ⟨sl,rfl,⟨_,SqL.of (s1.at hl)⟩,Zbg (K:=K) (xs:=ts.map V.ref) I17 ⟨⟨none,none,none,rfl⟩,s1,[],e1,.nil⟩ ?_ ?_ ?_⟩)
  ·rintro i σ H' _ ⟨_,s2,_⟩;exact SqL.of (s2.at hl)
  ·rintro i v σ H2 hi ⟨⟨o3,o4,o5,rfl⟩,s2,ks,hd,hD⟩;rw [List.getElem?_map] at hi;obtain ⟨t,hti,rfl⟩:=Option.map_eq_some_iff.mp hi;obtain ⟨⟨nm,pn,en⟩,hg,ht⟩:=Paired.get i8 hti;have ht:H t=some (.tup [.str nm,.str pn,.str en]):=ht;have hm:((nm,pn,en):Str×Str×Str)∈sg:=List.mem_of_getElem? hg;have L5:=(List.getElem?_eq_some_iff.mp hg).1;obtain ⟨x,C,k,hv,hC,hO,hb⟩:=hk _ hm;have g8:ks.length<=100:=by
    have h1:=hD.len;unfold qS at h1;rw [List.length_map,List.length_take] at h1;lia
   have hn:Yv ks (Z8 nm)=none:=hD.none Xd (by
    rw [Zxn,List.map_take];exact Zij nd (by rw [List.getElem?_map,hg];rfl))
   have he:((pn,en):Zc)∉(qS (sg.take i)).map Prod.snd:=by
    have:(qS (sg.take i)).map Prod.snd=(sg.map Prod.snd).take i:=by
     unfold qS;rw [List.map_map,List.map_take]
     rfl
    rw [this];exact Zij one (by rw [List.getElem?_map,hg];rfl)
   refine WSs.step (Zv (i:=4) Zai.nd (Z1 (K:=K) rfl (pv 3) Ze)) (exR rfl (ixT (s2.at ht) 0 rfl ?_));refine WSs.step (Zv (i:=5) Zai.nd (Zcv (r:=Zpd K) Zq9 (pv 3) (Zdg Ze) Zes)) (exR rfl (exR rfl (.inl ⟨t,_,rfl,SqT.of (s2.at ht),(show ¬(HT.sIx 3 0 (some 1)=0/\HT.sIx 3 3 none=3) by decide),fun te H3 s3 n3 e3=>?_⟩)));have k7:=s2.trans s3;have L8:Zs H3 te (pn,en):=e3;refine WSs.step (Z4 (Yj (Wy T) hr T.br (Zb (pv 4) (Zb (pv 2) Za)))) (exR rfl (exR rfl ⟨nm,d,ks,rfl,V0 _ hm,s3.at hd,hn,fun H4 s4=>?_⟩));have k8:=k7.trans s4;have hD4:DP Z8 (RS H4) ks (qS (sg.take i)):=hD.mapR fun _ _ _ z=>RS.mono (s3.trans s4) _ _ _ z
   obtain ⟨us,y8,hup⟩:=Zu2 hD4;refine WSs.step (Z4 (Yj (Zj3 T) hr T.dM (Zb (pv 5) (Zb (pv 1) (Zb (Zm7 rfl (by rfl) T.ez (pv 2)) Za))))) (exR rfl (exR rfl (exR rfl ⟨d,ks,rfl,.inl (s4.at (s3.at hd)),fun l H5 s5 n5 e5=>⟨te,pa,l,x,C,(pn,en),k,pn,ka,us,_,rfl,(L8.mono s4).mono s5,(k8.trans s5).at T3,hv,hC,hO.mono (k8.trans s5),hb,by rw [<-y8];exact e5,Paired.mapP hup fun _ _ r=>r.mono s5,he,?_⟩⟩)));have B2:=k8.trans s5;have hd5:H5 d=some (.dK ks):=s5.at (s4.at (s3.at hd));refine WSs.last (Zbv (W5 hr) (pv 2) (pv 4) (pv 5) rfl) (exR rfl (exR rfl (exR rfl ⟨d,_,rfl,Zgk.k (k:=Z8 nm) hd5 (Zx (by lia)),⟨_,_,_,rfl⟩,B2.upd0 n1,_,Zi,?_⟩)));have:qS (sg.take (i+1))=qS (sg.take i)++[(nm,(pn,en))]:=by
    unfold qS;rw [List.take_add_one,hg,List.map_append]
    rfl
   rw [this];have E5:DP Z8 (RS (upd H5 d (.dK (W2 ks (Z8 nm) (.ref te))))) ks (qS (sg.take i)):=hD4.mapR fun _ _ _ ⟨u,z1,z2⟩=>⟨u,z1,(z2.mono s5).offD hd5⟩
   exact E5.put hn ⟨te,rfl,((L8.mono s4).mono s5).offD hd5⟩
  ·rintro σ H2 ⟨⟨o3,o4,o5,rfl⟩,s2,ks,hd,hD⟩;rw [List.length_map,htl,List.take_length] at hD;exact WSs.last (Zt (pv 2)) (exR rfl (q d ks H2 s2 n1 hd hD))
structure Yh(T:Tx K mg)(H:Hp)(x:Addr)(ps:List Zc)(js:List (Zc×Zc))(sg:List (Str×Str×Str)):Prop where
 ex:∃(dx po jo so si:Addr) (kp ks:List (Key×V)) (kj ko:List (List Key×V)),H x=some (.ins T.aK dx [("part_of",.ref po),("joined",.ref jo),("post_of",.ref so),("signal_on",.ref si)]) /\
  H po=some (.dK kp)/\DP Z8 (RP T H) kp (qP ps)/\H jo=some (.dT kj)/\DP Y9 (RJ H) kj (qJ js)/\H so=some (.dK ks)/\DP Z8 (RS H) ks (qS sg)/\H si=some (.dT ko)/\DP Y9 RO ko (qO sg)
theorem Yh.mono{T:Tx K mg}{H H':Hp}{x:Addr}{ps:List Zc}{js:List (Zc×Zc)}{sg:List (Str×Str×Str)}(e:Same H H')(h:Yh T H x ps js sg):Yh T H' x ps js sg:=by
 obtain ⟨dx,po,jo,so,si,kp,ks,kj,ko,h1,h2,h3,h4,h5,h6,h7,h8,h9⟩:=h.ex;exact ⟨dx,po,jo,so,si,kp,ks,kj,ko,e.at h1,e.at h2,h3.mapR (RP.mono e),e.at h4,h5.mapR (RJ.mono e),e.at h6,h7.mapR (RS.mono e),e.at h8,h9⟩
def del(H:Hp)(x:Addr):Hp:=fun b=>if b=x then none else H b
theorem Zj5{H:Hp}{x:Addr}:del H x x=none:=if_pos rfl
theorem Zc7{H:Hp}{x b:Addr}{o:HO}(h:H b=some o)(n:b≠x):del H x b=some o:=(if_neg n).trans h
theorem Wn{H:Hp}{x:Addr}{o:HO}:Same (del H x) (upd H x o):=fun b u e=>by
 unfold del at e
 by_cases z:b=x
 ·rw [if_pos z] at e;cases e
 ·rw [if_neg z] at e;rw [Zd z];exact e
theorem Zf1{G H:Hp}{x:Addr}(s:Same G H)(n:G x=none):Same G (del H x):=fun b u e=>Zc7 (s.at e) (Zg e n)
structure Xx(ps:List Zc)(js:List (Zc×Zc))(sg:List (Str×Str×Str)):Prop where
 net:Net ps js []
 len:ps.length<=40
 name:∀p∈ps,Yz p.2
 sigs:Zk0 ps sg
theorem Zjo.v{ps:List Zc}{js:List (Zc×Zc)}{sg:List (Str×Str×Str)}(h:Zjo ps js sg):Xx ps js sg:=⟨h.net,by have:=h.len;lia,fun p hp=>(h.name p hp).nm.ok,h.sigsV⟩
theorem Zpa(ps:List Zc):(Yy ps).length<=4 * ps.length:=by rw [<-Zmu,List.length_map];exact Zsm ps
theorem _root_.YM.Net.flat{ps:List Zc}{js:List (Zc×Zc)}(h:Net ps js []):(Xc js).Perm (Yy ps):=by
 have:=h.perm;rw [List.append_nil] at this;exact this
theorem _root_.YM.Net.jlen{ps:List Zc}{js:List (Zc×Zc)}(h:Net ps js [])(l:ps.length<=40):js.length<=300:=by
 have h1:=h.flat.length_eq;have h2:=Zpa ps;rw [<-Zft,List.length_map,Ztg] at h1;lia
theorem Zwj{ps:List Zc}{p:Zc}{e:Str}(hp:p∈ps)(he:e∈Ym p.1):((p.2,e),p.1)∈qA ps:=List.mem_flatMap.mpr ⟨p,hp,List.mem_map.mpr ⟨e,he,rfl⟩⟩
def Zzc(T:Tx K mg):Sp:=fun vs H Q _=>∃(G:Hp) (x dx pl jl sl:Addr) (xs:List Addr) (ps:List Zc) (js:List (Zc×Zc)) (sg:List (Str×Str×Str)),vs=[.ref x,.ref pl,.ref jl,.ref sl]/\G x=none/\Same G H/\H x=some (.ins T.aK dx []) /\
 G pl=some (.lst (xs.map V.ref))/\Paired (PO T G) xs ps/\Yi G jl js/\Zb5 G sl sg/\Xx ps js sg/\∀H',Same G H'->Yh T H' x ps js sg->Q .non H'
theorem Zfq(T:Tx K mg):Zw P w K mg base CX0 5 T.aM.f T.aM.fd ["self", "parts", "joins", "signals"] (Zzc T):=by
 refine T.aM.F.okW Wk fun a9 A outer s H vs Q E hr h=>?_
 ·obtain ⟨G,x,dx,pl,jl,sl,xs,ps,js,sg,rfl,hGx,s0,hx,i7,hxs,t9,⟨ts,U5,i8⟩,yv,q⟩:=h;intro X;have hxl:=Paired.length hxs;have htl:=Paired.length i8;have ylen:=yv.len;have slen:=yv.sigs.len;refine WSs.step (Zv (i:=4) Wk.nd (Zr9 (Zm Zxl (pv 3) Zeg (Zu _)) (Zo Za) (pv 3))) (exR rfl ⟨rfl,_,rfl,Zeq (exR rfl ?_)⟩);refine WSs.step (Z0 (PW.pt (Zbm (Zm Zls (Zq (r:=W1 K) W6 (by rfl) T.bx PySem.boot_len (Zb (pv 1) Za)) (Wm (by rfl) T.eF) (Zu _)) (Zcb (Zm Zls (Zq (r:=W1 K) W6 (by rfl) T.bx PySem.boot_len (Zb (pv 4) Za)) (Wm (by rfl) T.dH) (Zu _))))) Zr Zn) (exR rfl (.inl ⟨pl,_,rfl,.inl (SqL.of (s0.at i7)),_,_,rfl,rfl,_,rfl,Yo (fun z=>?_) (fun _=>(exR rfl (.inl ⟨sl,_,rfl,.inl (SqL.of (s0.at U5)),_,_,rfl,rfl,_,rfl,Yo (fun z=>?_) (fun _=>?_)⟩)))⟩))
  ·have z:=of_decide_eq_true z;rw [List.length_map] at z;exact absurd z (by lia)
  ·have z:=of_decide_eq_true z;rw [List.length_map] at z;exact absurd z (by lia)
  refine WSs.step (Zaq (pv 0) (Yj (Zgu T) hr T.dl (Zb (pv 1) Za)) rfl) (exR rfl ⟨pl,xs,ps,rfl,s0.at i7,Paired.mapP hxs fun _ _ r=>r.mono s0,yv.net.nd,yv.name,by lia,fun po kp H1 s1 m1 e1 dp=>(exR rfl ⟨x,_,dx,_,rfl,s1.at hx,T.aF,T.aH,by simp,?_⟩)⟩);have hpx:po≠x:=fun z=>by rw [z,hx] at m1;cases m1
  have g1:Same G (del H1 x):=Zf1 (s0.trans s1) hGx;have dp1:DP Z8 (RP T (del H1 x)) kp (qP ps):=dp.mapR fun a b v ⟨y,C,z1,z2,dy,z3⟩=>⟨y,C,z1,z2,dy,Zc7 (s1.at z3) fun z=>by rw [z,hx] at z3;cases z3⟩
  have ep1:del H1 x po=some (.dK kp):=Zc7 e1 hpx;refine WSs.step (Zv (i:=5) Wk.nd (Yj (Zgz T) hr T.dm (Zb (Yk (pv 0) rfl) Za))) (exR rfl ⟨x,_,dx,_,_,rfl,Zi,T.aF,T.aH,rfl,po,kp,ps,rfl,Wn.at ep1,dp1.mapR (RP.mono Wn),yv.net.nd,by lia,fun pa ka H2 s2 m2 e2 da=>?_⟩);have U6:=s2.at Zi;have ep2:Same G H2:=(g1.trans Wn).trans s2;have kaq:∀p∈ps,∀e∈Ym p.1,∃v,Yv ka (Y9 (p.2,e))=some v/\RA T _ (p.2,e) p.1 v:=fun p hp e he=>da.get Zcx (by rw [Zmu];exact Zcz yv.net.nd) (Zwj hp he)
  refine WSs.step (Zaq (pv 0) (Yj (Zjk T) hr T.dJ (Zb (pv 2) (Zb (pv 5) Za))) rfl) (exR rfl (exR rfl ⟨jl,pa,js,ka,rfl,t9.mono ep2,e2,fun e he=>?_,?_,?_,yv.net.apart,yv.net.jlen ylen,fun jo kj H3 s3 m3 e3 dj=>(exR rfl ⟨x,_,dx,_,rfl,s3.at U6,T.aF,T.dD,(by show 1<1000;decide),?_⟩)⟩))
  ·have:=yv.net.flat.mem_iff.mp he;obtain ⟨p,hp,hm⟩:=List.mem_flatMap.mp this;obtain ⟨e',he',rfl⟩:=List.mem_map.mp hm;obtain ⟨v,hv,_⟩:=kaq p hp e' he';rw [hv];rfl
  ·rw [yv.net.flat.length_eq,<-Zmu,List.length_map];exact da.len
  ·exact yv.net.flat.nodup_iff.mpr (Zcz yv.net.nd)
  have hjx:jo≠x:=fun z=>by rw [z,U6] at m3;cases m3
  have k7:Same (del H1 x) (del H3 x):=Zf1 ((Wn.trans s2).trans s3) Zj5;have ej3:del H3 x jo=some (.dT kj):=Zc7 e3 hjx;have hpax:pa≠x:=fun z=>by rw [z,U6] at e2;cases e2
  have epa:del H3 x pa=some (.dT ka):=Zc7 (s3.at e2) hpax;have dj3:DP Y9 (RJ (del H3 x)) kj (qJ js):=dj.mapR fun a b v ⟨u,z1,z2⟩=>⟨u,z1,Zc7 (s3.at z2) fun z=>by rw [z] at z2;exact nomatch U6.symm.trans z2⟩
  have g3:Same G (del H3 x):=g1.trans k7;refine WSs.step (Zaq (pv 0) (Yj (Zn9 T) hr T.ff (Zb (pv 4) (Zb (pv 5) Za))) rfl) (exR rfl (exR rfl ⟨sl,pa,ts,sg,ka,rfl,Wn.at (g3.at U5),Paired.mapP i8 fun _ _ r=>(g3.trans Wn).at r,Wn.at epa,yv.sigs.name,yv.sigs.nd,yv.sigs.one,by lia,fun g hg=>?_,fun so ks H4 s4 m4 e4 ds=>(exR rfl ⟨x,_,dx,_,rfl,s4.at Zi,T.aF,T.cK,(by show 2<1000;decide),?_⟩)⟩))
  ·obtain ⟨p,hp,h1,h2,h3⟩:=yv.sigs.at_ g hg;obtain ⟨v,hv,y,C,rfl,hC,dy,hO⟩:=kaq p hp g.2.2 h3;refine ⟨y,C,p.1,by rw [<-h1];exact hv,hC,⟨dy,?_⟩,decide_eq_true h2⟩;have hyx:y≠x:=fun z=>by rw [z,Zi] at hO;cases hO
   rw [Zd hyx,<-h1];exact s3.at (s2.at hO)
  have hsx:so≠x:=fun z=>by rw [z,Zi] at m4;cases m4
  have hx4:=s4.at (Zi (H:=H3) (a:=x));have s34:Same (del H3 x) (del H4 x):=Zf1 (Wn.trans s4) Zj5;have es4:del H4 x so=some (.dK ks):=Zc7 e4 hsx;have ds4:DP Z8 (RS (del H4 x)) ks (qS sg):=ds.mapR fun a b v ⟨u,z1,z2⟩=>⟨u,z1,Zc7 z2 fun z=>by rw [z] at z2;exact nomatch hx4.symm.trans z2⟩
  refine WSs.last (Zaq (pv 0) (Xh (r:=Zss) (Zow rfl hr.units) (by rfl) T.eE PyProof.Rows.boot_dict (Zb (Zus (Wt (N':=["name", "end"]) rfl (Ya.std 2 [] rfl (by trivial) (by trivial) rfl trivial rfl rfl trivial) (Zn6 (Yk (pv 0) rfl)) (fun _ _ _ _=>(Zgf (K:=K) (n:=2) rfl rfl (Z7 (Zbo (i:=0) (by show (["name", "end"]:List Str).Nodup;decide +kernel)) (Z7 (Zbo (i:=1) (by show (["name", "end"]:List Str).Nodup;decide +kernel)) X8)))) (fun _ _ _ _=>Zda) (fun _ _ _ _=>(Zj (Zb (pv 1) (Zb (pv 0) Za)))))) Za)) rfl) (exR rfl ⟨x,_,dx,_,_,rfl,Zi,T.aF,T.cK,rfl,so,ks,rfl,Wn.at es4,fun o nf D hD=>Zov (fun i ys H'=>Same (upd (upd H4 x (.ins T.aK dx [("part_of",.ref po),("joined",.ref jo),("post_of",.ref so)])) so (.frz o (.dK ks))) H'/\H' D=some (.lst ys)/\∃tps:List Addr,ys=tps.map V.ref/\Paired (fun t (q:List Key×V)=>∃a,H' t=some (.tup [.ref a,q.2])/\H' a=some (.tup (q.1.map kV))) tps ((qO (sg.take i)).map fun q=>(Y9 q.1,V.str q.2))) ⟨Same.new hD,Zi,[],rfl,.nil⟩ ?_ ?_ ?_⟩)
  ·rintro i ys H' _ ⟨z,_⟩;exact z.at Zi
  ·rintro i kv ys H5 hi ⟨s5,hD5,tps,rfl,htp⟩ tp H6 s6 n6 e6;obtain ⟨⟨nm,e⟩,hq,hk,t,hv,ht⟩:=Paired.get ds4 hi;have hk:kv.1=Sum.inr nm:=hk;rw [hk,hv] at e6;have hg:sg[i]? =some (nm,e.1,e.2):=by
    unfold qS at hq;rw [List.getElem?_map] at hq;obtain ⟨⟨g1,g2,g3⟩,hg,e'⟩:=Option.map_eq_some_iff.mp hq;rw [hg];simp only [Prod.mk.injEq] at e';rw [<-e'.1,<-e'.2]
   have L5:=(List.getElem?_eq_some_iff.mp hg).1;have hto:t≠so:=fun z=>by rw [z] at ht;exact nomatch es4.symm.trans ht
   have htF:upd (upd H4 x (.ins T.aK dx [("part_of",.ref po),("joined",.ref jo),("post_of",.ref so)])) so (.frz o (.dK ks)) t=some (.tup ((Y9 e).map kV)):=by
    rw [Zd hto];exact Wn.at ht
   have htl':tps.length<=100:=by
    have:=Paired.length htp;unfold qO at this;rw [List.length_map,List.length_map,List.length_take] at this;lia
   refine ⟨tp,_,rfl,SqT.of e6,rfl,_,_,rfl,_,_,rfl,rfl,(Zat.set rfl).trans (Zat.set rfl),_,rfl,_,rfl,szA,fun t' H7 s7 n7 e7=>⟨s7.at (s6.at hD5),by rw [List.length_map];exact Zx (by lia),?_,Zi,tps++[t'],by rw [List.map_append];rfl,?_⟩⟩
   ·intro c u z;rw [Zd (Zg z hD)];exact s7.at (s6.at (s5.at z))
   ·have hD7:=s7.at (s6.at hD5);have off:∀{c:Addr} {xs:List V} {u:HO},H7 c=some (.tup xs)->upd H7 D u c=some (.tup xs):=fun {c xs u} z=>(Zd fun y=>by rw [y,hD7] at z;cases z).trans z
    have:(qO (sg.take (i+1))).map (fun q=>(Y9 q.1,V.str q.2))=(qO (sg.take i)).map (fun q=>(Y9 q.1,V.str q.2))++[(Y9 e,V.str nm)]:=by
     unfold qO;rw [List.take_add_one,hg,List.map_append,List.map_append]
     rfl
    rw [this];exact Paired.snoc (Paired.mapP htp fun _ _ ⟨a,z1,z2⟩=>⟨a,off (s7.at (s6.at z1)),off (s7.at (s6.at z2))⟩) ⟨t,off e7,off (s7.at (s6.at (s5.at htF)))⟩
  ·rintro ys H5 ⟨s5,hD5,tps,rfl,htp⟩;have hks:ks.length=sg.length:=by
    have:=ds4.len;unfold qS at this;rw [List.length_map] at this;exact this
   rw [hks,List.take_length] at htp;have hso5:=s5.at Zi;have off:∀{c:Addr} {xs:List V} {u:HO},H5 c=some (.tup xs)->upd H5 so u c=some (.tup xs):=fun {c xs u} z=>(Zd fun y=>by rw [y,hso5] at z;cases z).trans z
   have sT:Same (upd H4 x (.ins T.aK dx [("part_of",.ref po),("joined",.ref jo),("post_of",.ref so)])) (upd H5 so (.dK ks)):=s5.thaw (Wn.at es4);refine ⟨so,o,_,hso5,nf,D,tps,_,rfl,?_,Paired.mapP htp fun _ _ ⟨a,z1,z2⟩=>⟨a,off z1,off z2⟩,?_,fun si H8 s8 n8 e8=>⟨_,rfl,x,_,dx,_,rfl,s8.at (sT.at Zi),T.aF,T.cW,(by show 3<1000;decide),?_⟩⟩
   ·rw [Zd fun y=>by rw [y,hso5] at hD5;cases hD5];exact hD5
   ·rw [List.map_map];have e1:(qO sg).map (Prod.fst ∘ fun q=>(Y9 q.1,V.str q.2))=((qO sg).map Prod.fst).map Y9:=by rw [List.map_map];rfl
    rw [e1,Zxv];exact yv.sigs.one.map Y9 fun a b ne z=>ne (Zcx a b z)
   have hix:si≠x:=fun z=>by rw [z,sT.at Zi] at n8;cases n8
   have s48:Same (del H4 x) (del H8 x):=Zf1 ((Wn.trans sT).trans s8) Zj5;have ei8:del H8 x si=some (.dT ((qO sg).map fun q=>(Y9 q.1,V.str q.2))):=Zc7 e8 hix;have f4:Same (del H4 x) (upd H8 x (.ins T.aK dx [("part_of",.ref po),("joined",.ref jo),("post_of",.ref so),("signal_on",.ref si)])):=s48.trans Wn;have f3:=s34.trans f4;have f1:=k7.trans f3;refine q _ (g1.trans f1) ⟨dx,po,jo,so,si,kp,ks,kj,_,Zi,f1.at ep1,dp1.mapR (RP.mono f1),f3.at ej3,dj3.mapR (RJ.mono f3),f4.at es4,ds4.mapR (RS.mono f4),Wn.at ei8,?_⟩;have all:∀l:List (Zc×Str),DP Y9 RO (l.map fun q=>(Y9 q.1,V.str q.2)) l:=fun l=>by
    induction l with
    | nil=>exact .nil
    | cons p l ih=>exact .cons ⟨rfl,rfl⟩ ih
   exact all _
def Zlf(T:Tx K mg):List V->Hp->VK->Prop:=fun vs H Q=>∃(pl jl sl:Addr) (xs:List Addr) (ps:List Zc) (js:List (Zc×Zc)) (sg:List (Str×Str×Str)),vs=[.ref pl,.ref jl,.ref sl]/\H pl=some (.lst (xs.map V.ref))/\Paired (PO T H) xs ps/\Yi H jl js/\Zb5 H sl sg/\Xx ps js sg/\∀x H',Same H H'->H x=none->Yh T H' x ps js sg->Q (.ref x) H'
theorem Zqt(T:Tx K mg):∀vs H Q,Zlf T vs H Q ->
  ∀x dx,H x=none->H dx=none->dx≠x->Zzc T (.ref x ::(vs++[])) (upd (upd H dx (.own x)) x (.ins T.aK dx [])) (fun v H2=>v=.non/\Q (.ref x) H2) E0:=by
 rintro vs H Q ⟨pl,jl,sl,xs,ps,js,sg,rfl,h1,h2,h3,h4,h5,q⟩ x dx hx hdx ne;refine ⟨H,x,dx,pl,jl,sl,xs,ps,js,sg,rfl,hx,fun b o e=>?_,Zi,h1,h2,h3,h4,h5,fun H' s t=>⟨rfl,q x H' s hx t⟩⟩;rw [Zd (Zg e hx),Zd (Zg e hdx)];exact e
def Zpz(T:Tx K mg):Sp:=fun vs H Q _=>∃(x:Addr) (nm k:Str) (ps:List Zc) (js:List (Zc×Zc)) (sg:List (Str×Str×Str)),vs=[.ref x,.str nm]/\Yh T H x ps js sg/\Xx ps js sg/\((k,nm):Zc)∈ps/\∀(y C:Addr) (H':Hp),Same H H'->X0 T k C->Zdw H' C y nm->Q (.ref y) H'
theorem Zdv(T:Tx K mg):Zw P w K mg base CX0 2 T.am.f T.am.fd ["self", "name"] (Zpz T):=by
 refine T.am.F.okW Zds fun a9 A outer s H vs Q E hr h=>?_
 ·obtain ⟨x,nm,k,ps,js,sg,rfl,tr,yv,hm,q⟩:=h;intro X;obtain ⟨dx,po,jo,so,si,kp,ks,kj,ko,h1,h2,h3,_⟩:=tr.ex;have hq:((nm,k):Str×Str)∈qP ps:=List.mem_map.mpr ⟨(k,nm),hm,rfl⟩;obtain ⟨v,hv,y,C,rfl,hC,hO⟩:=h3.get Xd (by rw [Zml];exact yv.net.nd) hq;refine WSs.step (Z0 (PW.pt (Zbm (Xb (Yx (Yj (Za7 T) hr T.cD (Zb (pv 1) Za)))) (Zcb (Zm (r:=Wg K) (Wz hr) (pv 1) (Yk (pv 0) rfl) (by with_unfolding_all rfl))))) Zr Zn) (exR rfl ⟨_,true,rfl,(yv.name _ hm).asked,fun H1 s1=>(exR rfl (Yo (fun z=>absurd z (by decide)) (fun _=>(exR rfl (exR rfl ⟨x,_,dx,_,_,rfl,s1.at h1,T.aF,T.aH,rfl,.inr (.inl ⟨po,_,rfl,Zab.k (k:=Z8 nm) (s1.at h2),_,rfl,Yo (fun z=>?_) (fun _=>?_)⟩)⟩)))))⟩)
  ·rw [hv] at z;exact absurd z (by simp)
  exact WSs.last (Zt (Zbx (W5 hr) (Yk (pv 0) rfl) (pv 1) (fun _ _=>rfl))) (exR rfl ⟨x,_,dx,_,_,rfl,s1.at h1,T.aF,T.aH,rfl,_,rfl,po,_,rfl,by rw [<-hv];exact Zab.k (k:=Z8 nm) (s1.at h2),q y C H1 s1 hC (hO.mono s1)⟩)
def Zut(T:Tx K mg):Sp:=fun vs H Q _=>∃(x:Addr) (ps:List Zc) (js:List (Zc×Zc)) (sg:List (Str×Str×Str)),vs=[.ref x]/\Yh T H x ps js sg/\Xx ps js sg/\∀ss:List Str,ss.Perm (ps.map Prod.snd)->PyProof.Rows.sortedS ss=true->New H (.lst (ss.map V.str)) Q
theorem Zav(T:Tx K mg):Zw P w K mg base CX0 1 T.aJ.f T.aJ.fd ["self"] (Zut T):=by
 refine T.aJ.F.okW Zh1 fun a9 A outer s H vs Q E hr h=>?_
 ·obtain ⟨x,ps,js,sg,rfl,tr,yv,q⟩:=h;intro X;obtain ⟨dx,po,jo,so,si,kp,ks,kj,ko,h1,h2,h3,_⟩:=tr.ex;refine WSs.last (Zt (Zq (r:=Zod) (Zj0 rfl) (by rfl) T.eY PyProof.Rows.boot_sorted (Zb (Yk (pv 0) rfl) Za))) (exR rfl ⟨x,_,dx,_,_,rfl,h1,T.aF,T.aH,rfl,po,kp,ps.map Prod.snd,rfl,.inl h2,?_,by rw [List.length_map];have:=yv.len;lia,q⟩);have:=congrArg (List.map kV) h3.keys;rw [List.map_map,List.map_map] at this;refine Eq.trans this ?_;rw [<-Zml,List.map_map]
  rfl
theorem X0.gate{T:Tx K mg}{k:Str}{C x:Addr}{nm:Str}{H:Hp}(h:X0 T k C)(o:Zdw H C x nm):∃t,Xo K H (.ref x) t/\kitOne K t (.ref T.bi)=some (decide (k = "gate")):=by
 obtain ⟨dx,o⟩:=o;rcases h with ⟨rfl,rfl⟩|⟨rfl,rfl⟩|⟨rfl,rfl⟩|⟨rfl,rfl⟩|⟨rfl,rfl|rfl⟩
 ·exact ⟨_,Xo.ins o T.cU T.eZ T.tG T.tK T.fe,T.gg⟩
 ·exact ⟨_,Xo.ins o T.du T.fz T.tG T.tK T.fA,T.gy⟩
 ·exact ⟨_,Xo.ins o T.em T.fV T.tG T.tK T.fW,T.gJ⟩
 ·exact ⟨_,Xo.ins o T.ej T.fT T.tG T.tK T.fU,T.gI⟩
 ·exact ⟨_,Xo.ins o T.fg T.fR T.tG T.tK T.fS,T.gH⟩
 ·exact ⟨_,Xo.ins o T.dq T.fv T.tG T.tK T.fw,T.gx⟩
theorem X0.pts{T:Tx K mg}{k:Str}{C x:Addr}{nm:Str}{H:Hp}(h:X0 T k C)(o:Zdw H C x nm):∃t,Xo K H (.ref x) t/\kitOne K t (.ref T.aE)=some (decide (k = "points")):=by
 obtain ⟨dx,o⟩:=o;rcases h with ⟨rfl,rfl⟩|⟨rfl,rfl⟩|⟨rfl,rfl⟩|⟨rfl,rfl⟩|⟨rfl,rfl|rfl⟩
 ·exact ⟨_,Xo.ins o T.cU T.eZ T.tG T.tK T.fe,T.gh⟩
 ·exact ⟨_,Xo.ins o T.du T.fz T.tG T.tK T.fA,T.gA⟩
 ·exact ⟨_,Xo.ins o T.em T.fV T.tG T.tK T.fW,T.gM⟩
 ·exact ⟨_,Xo.ins o T.ej T.fT T.tG T.tK T.fU,T.gL⟩
 ·exact ⟨_,Xo.ins o T.fg T.fR T.tG T.tK T.fS,T.gK⟩
 ·exact ⟨_,Xo.ins o T.dq T.fv T.tG T.tK T.fw,T.gz⟩
def Zbw(ps:List Zc)(kd:Str)(ss:List Str):List Str:=ss.filter fun n=>decide (((kd,n):Zc)∈ps)
theorem Zse{ps:List Zc}(h:(ps.map Prod.snd).Nodup){a b:Zc}(ha:a∈ps)(hb:b∈ps)(e:a.2=b.2):a=b:=by
 induction ps with
 | nil=>cases ha
 | cons p r ih =>
  rw [List.map_cons,List.nodup_cons] at h;rcases List.mem_cons.mp ha with rfl|ha'
  ·rcases List.mem_cons.mp hb with rfl|S0
   ·rfl
   ·exact absurd (List.mem_map.mpr ⟨b,S0,e.symm⟩) h.1
  ·rcases List.mem_cons.mp hb with rfl|S0
   ·exact absurd (List.mem_map.mpr ⟨a,ha',e⟩) h.1
   ·exact ih h.2 ha' S0
theorem Znw{ps:List Zc}{kd n:Str}{ss:List Str}{j:Nat}(h:ss[j]? =some n):Zbw ps kd (ss.take (j+1))=Zbw ps kd (ss.take j)++if ((kd,n):Zc)∈ps then [n] else []:=by
 unfold Zbw;rw [List.take_add_one,h,List.filter_append,show (some n).toList=[n] from rfl,List.filter_cons]
 by_cases z:((kd,n):Zc)∈ps
 ·rw [if_pos (decide_eq_true z),if_pos z,List.filter_nil]
 ·rw [if_neg (by simpa using z),if_neg z,List.filter_nil]
theorem Zee(ps:List Zc)(kd:Str)(ss:List Str):(Zbw ps kd ss).length<=ss.length:=List.length_filter_le _ _
theorem Zlp{T:Tx K mg}{Cc x l D:Addr}{kd:Str}{ss:List Str}{ps:List Zc}{js:List (Zc×Zc)}{sg:List (Str×Str×Str)}{H1:Hp}{Q:VK}{σ:St}{E:XK}
  (hk:∀{k:Str} {C y:Addr} {nm:Str} {H:Hp},X0 T k C->Zdw H C y nm->∃t,Xo K H (.ref y) t/\kitOne K t (.ref Cc)=some (decide (k=kd)))
  (tr:Yh T H1 x ps js sg) (yv:Xx ps js sg) (hp:ss.Perm (ps.map Prod.snd)) (hl:H1 l=some (.lst (ss.map V.str))) (hD:H1 D=none)
  (q:∀H',Same H1 H'->H' D=some (.lst ((Zbw ps kd ss).map V.str))->Q (.ref D) H') {fr:St->St} (u9:fr σ=[none,some (.ref x)]) :
  Zfd (Itl K l) fr (Zdt 0) (tB (tCB (Zdc K) (Zjr (Zr6 T.aK "named" (Zpz T) [] E (Zic 1) (Zjr (Zic 0) Zsj)) (Zjr (tC (.ref Cc)) Zsj)))) (Zic 0) Q σ H1 D:=by
 obtain ⟨dx,po,jo,so,si,kp,ks,kj,ko,h1,_⟩:=tr.ex;have hn:ss.length<=40:=by rw [hp.length_eq,List.length_map];exact yv.len
 refine Wb (xs:=ss.map V.str) (fun i ys H'=>ys=(Zbw ps kd (ss.take i)).map V.str/\H' D=some (.lst ys)/\Same H1 H') ⟨rfl,Zi,Same.new hD⟩ ?_ ?_ ?_
 ·rintro i ys H' _ ⟨_,_,sm⟩;exact SqL.of (sm.at hl)
 ·rintro j v ys H' hj ⟨rfl,u6,sm⟩;rw [List.getElem?_map] at hj;obtain ⟨n,hy,rfl⟩:=Option.map_eq_some_iff.mp hj;obtain ⟨⟨k,n'⟩,hm,rfl⟩:=List.mem_map.mp (hp.mem_iff.mp (List.mem_of_getElem? hy));unfold Zco;rw [u9];refine ⟨Zat.set rfl,_,rfl,x,dx,_,rfl,sm.at h1,rfl,_,rfl,x,n',k,ps,js,sg,rfl,tr.mono sm,yv,hm,fun y C H2 s2 hC hO=>?_⟩;obtain ⟨t,ht,hkt⟩:=hk hC hO;have hd:decide (k=kd)=decide (((kd,n'):Zc)∈ps):=by
   refine decide_eq_decide.mpr ⟨fun e=>e ▸ hm,fun e=>?_⟩;exact congrArg Prod.fst (Zse yv.net.nd hm e rfl)
  rw [hd] at hkt;refine ⟨_,_,_,t,rfl,ht,.inr ⟨_,rfl,hkt⟩,_,rfl,?_⟩;have C3:=s2.at u6;rw [Znw hy];refine Yo (fun hc=>?_) (fun hc=>?_)
  ·rw [if_pos (of_decide_eq_true hc)];refine (exR rfl ⟨C3,?_,?_,Zi,fun b o e=>?_⟩)
   ·rw [List.length_map];have:=Zee ps kd (ss.take j);rw [List.length_take] at this;exact Zx (by lia)
   ·rw [List.map_append];rfl
   ·rw [Zd (Zg e hD)];exact s2.at (sm.at e)
  ·rw [if_neg (fun z=>hc (decide_eq_true z)),List.append_nil];exact ⟨rfl,C3,sm.trans s2⟩
 ·rintro ys H6 ⟨rfl,E5,s6⟩;rw [List.length_map,List.take_length] at E5;exact q H6 s6 E5
theorem Ze4{l:List Str}(h:PyProof.Rows.sortedS l=true)(f:Str->Bool):PyProof.Rows.sortedS (l.filter f)=true:=by
 refine PyProof.Rows.sortedS_of_pairwise _ (List.Pairwise.filter f ?_);cases l with
 | nil=>exact .nil
 | cons x r=>exact Zc2 h
def Zp5(T:Tx K mg)(kd:Str):Sp:=fun vs H Q _=>∃(x:Addr) (ps:List Zc) (js:List (Zc×Zc)) (sg:List (Str×Str×Str)),vs=[.ref x]/\Yh T H x ps js sg/\Xx ps js sg/\∀gs:List Str,(gs.Nodup/\PyProof.Rows.sortedS gs=true)->(∀n,n∈gs↔((kd,n):Zc)∈ps)->gs.length<=40->New H (.lst (gs.map V.str)) Q
theorem Zhl{ps:List Zc}{kd:Str}{ss:List Str}(h:ss.Perm (ps.map Prod.snd))(n:Str):n∈Zbw ps kd ss↔((kd,n):Zc)∈ps:=by
 unfold Zbw;rw [List.mem_filter];exact ⟨fun z=>of_decide_eq_true z.2,fun z=>⟨h.mem_iff.mpr (List.mem_map.mpr ⟨_,z,rfl⟩),decide_eq_true z⟩⟩
theorem Zhh(T:Tx K mg):Zw P w K mg base CX0 3 T.cH.f T.cH.fd ["tracks"] (Zp5 T "gate"):=by
 refine T.cH.F.okW Znr fun a9 A outer s H vs Q E hr h=>?_
 ·obtain ⟨x,ps,js,sg,rfl,tr,yv,q⟩:=h;intro X;obtain ⟨dx,po,jo,so,si,kp,ks,kj,ko,h1,_⟩:=tr.ex;refine WSs.last (Zt (Wt (N':=["name", "tracks"]) rfl (Ya.std 1 [0] rfl (by trivial) (by trivial) rfl ⟨rfl,trivial⟩ rfl rfl ⟨(exR rfl ⟨rfl,rfl⟩),trivial⟩) (Y0 (Yw (pv 0) T.aF T.bZ (Zav T) hr.m T.aJ.b .nil Yg)) (fun _ _ _ _=>(Zbo (i:=0) (by show (["name", "tracks"]:List Str).Nodup;decide +kernel))) (fun _ _ _ _=>(Zd4 (Yx (Zq (r:=Zdc K) Yt (by rfl) T.af PyProof.Rows.boot_isinstance (Zb (Yu (pv 1) T.aF T.bF (Zdv T) hr.m T.am.b .nil Yg (Zb (pv 0) Za)) (Zb (Zbr (v:=.ref T.bi) (by rfl) T.gi rfl) Za)))))) (fun _ _ _ _=>(pv 0)))) (exR rfl ⟨x,dx,_,rfl,h1,rfl,x,ps,js,sg,rfl,tr,yv,fun ss hp hs l H1 s1 n1 e1=>⟨l,rfl,⟨_,SqL.of e1⟩,fun D hD=>Zlp X0.gate (tr.mono s1) yv hp e1 hD (fun H' s' e'=>q _ ?_ (Zhl hp) ?_ D H' (s1.trans s') (s1.free hD) e') rfl⟩⟩)
  ·exact ⟨(hp.nodup_iff.mpr yv.net.nd).filter _,Ze4 hs _⟩
  ·have:=Zee ps "gate" ss;rw [hp.length_eq,List.length_map] at this;exact Nat.le_trans this yv.len
theorem Zdl(T:Tx K mg):Zw P w K mg base CX0 3 T.ci.f T.ci.fd ["tracks"] (Zp5 T "points"):=by
 refine T.ci.F.okW Zl0 fun a9 A outer s H vs Q E hr h=>?_
 ·obtain ⟨x,ps,js,sg,rfl,tr,yv,q⟩:=h;intro X;obtain ⟨dx,po,jo,so,si,kp,ks,kj,ko,h1,_⟩:=tr.ex;refine WSs.last (Zt (Wt (N':=["name", "tracks"]) rfl (Ya.std 1 [0] rfl (by trivial) (by trivial) rfl ⟨rfl,trivial⟩ rfl rfl ⟨(exR rfl ⟨rfl,rfl⟩),trivial⟩) (Y0 (Yw (pv 0) T.aF T.bZ (Zav T) hr.m T.aJ.b .nil Yg)) (fun _ _ _ _=>(Zbo (i:=0) (by show (["name", "tracks"]:List Str).Nodup;decide +kernel))) (fun _ _ _ _=>(Zd4 (Yx (Zq (r:=Zdc K) Yt (by rfl) T.af PyProof.Rows.boot_isinstance (Zb (Yu (pv 1) T.aF T.bF (Zdv T) hr.m T.am.b .nil Yg (Zb (pv 0) Za)) (Zb (Zbr (v:=.ref T.aE) (by rfl) T.fo rfl) Za)))))) (fun _ _ _ _=>(pv 0)))) (exR rfl ⟨x,dx,_,rfl,h1,rfl,x,ps,js,sg,rfl,tr,yv,fun ss hp hs l H1 s1 n1 e1=>⟨l,rfl,⟨_,SqL.of e1⟩,fun D hD=>Zlp X0.pts (tr.mono s1) yv hp e1 hD (fun H' s' e'=>q _ ?_ (Zhl hp) ?_ D H' (s1.trans s') (s1.free hD) e') rfl⟩⟩)
  ·exact ⟨(hp.nodup_iff.mpr yv.net.nd).filter _,Ze4 hs _⟩
  ·have:=Zee ps "points" ss;rw [hp.length_eq,List.length_map] at this;exact Nat.le_trans this yv.len
theorem Zng{α β γ:Type}{F:α->β->Prop}{G:α->γ->Prop}{g:β->γ}{l:List α}{m:List β}(h:Paired F l m)(k:∀a b,F a b->G a (g b)):Paired G l (m.map g):=by
 induction h with
 | nil=>exact .nil
 | cons r t ih=>exact .cons (k _ _ r) ih
theorem Ztv{α β:Type}{f:α->β}(hf:∀a b,f a=f b->a=b){l:List α}(h:l.Nodup):(l.map f).Nodup:=List.pairwise_map.mpr (h.imp fun z e=>z (hf _ _ e))
def Zcr(l:List (Str×Str)):List (Key×V):=l.map fun p=>(Z8 p.1,V.str p.2)
def Yag(T:Tx K mg):Sp:=fun vs H Q _=>∃(x:Addr) (ps:List Zc) (js:List (Zc×Zc)) (sg:List (Str×Str×Str)),vs=[.ref x]/\Yh T H x ps js sg/\Xx ps js sg/\∀gs:List Str,(gs.Nodup/\PyProof.Rows.sortedS gs=true)->(∀n,n∈gs↔(("points",n):Zc)∈ps)->gs.length<=40->New H (.dK (Zcr (gs.map fun n=>(n, "left")))) Q
theorem Zgt(T:Tx K mg):Zw P w K mg base CX0 4 T.bv.f T.bv.fd ["tracks"] (Yag T):=by
 refine T.bv.F.okW Zg5 fun a9 A outer s H vs Q E hr h=>?_
 ·obtain ⟨x,ps,js,sg,rfl,tr,yv,q⟩:=h;intro X;refine WSs.last (Zt (Xh (r:=Zou) (Zjn rfl) (by rfl) T.eE PyProof.Rows.boot_dict (Zb (Wt (N':=["points"]) rfl (Ya.std 1 [] rfl (by trivial) (by trivial) rfl trivial rfl rfl trivial) (Y0 (Yj (Zdl T) hr T.cL (Zb (pv 0) Za))) (fun _ _ _ _=>(Zbo (i:=0) (by show (["points"]:List Str).Nodup;decide +kernel))) (fun _ _ _ _=>Zda) (fun _ _ _ _=>(Zj (Zb (pv 0) (Zb Zf Za))))) Za))) (exR rfl ⟨x,ps,js,sg,rfl,tr,yv,fun gs nd hm hn l H1 s1 n1 e1=>⟨l,rfl,⟨_,SqL.of e1⟩,fun D hD=>Wb (xs:=gs.map V.str) (fun i ys H'=>(∃ts:List Addr,ys=ts.map V.ref/\Paired (Zs H') ts ((gs.take i).map fun n=>(n, "left")))/\H' D=some (.lst ys)/\Same H1 H') ⟨⟨[],rfl,.nil⟩,Zi,Same.new hD⟩ ?_ ?_ ?_⟩⟩)
  ·rintro i ys H' _ ⟨_,_,sm⟩;exact SqL.of (sm.at e1)
  ·rintro j v ys H' hj ⟨⟨ts,rfl,i8⟩,u6,sm⟩;rw [List.getElem?_map] at hj;obtain ⟨n,hy,rfl⟩:=Option.map_eq_some_iff.mp hj;have hl:=Paired.length i8;rw [List.length_map,List.length_take] at hl;unfold Zco;refine ⟨Zat.set rfl,_,rfl,szA,fun t H2 s2 n2 e2=>⟨s2.at u6,?_,⟨ts++[t],?_,?_⟩,Zi,fun b o e=>?_⟩⟩
   ·rw [List.length_map];exact Zx (by lia)
   ·rw [List.map_append];rfl
   ·rw [List.take_add_one,hy,List.map_append];have off:∀{b:Addr} {p:Zc},Zs H2 b p->Zs (upd H2 D (.lst (ts.map V.ref++[V.ref t]))) b p:=fun {b p} z=>by
     unfold Zs at z ⊢;rw [Zd fun y=>by rw [y,s2.at u6] at z;cases z];exact z
    exact Paired.append (Paired.mapP i8 fun _ _ r=>off (r.mono s2)) (.cons (off e2) .nil)
   ·rw [Zd (Zg e hD)];exact s2.at (sm.at e)
  ·rintro ys H6 ⟨⟨ts,rfl,i8⟩,E5,s6⟩;rw [List.length_map,List.take_length] at i8;refine ⟨D,ts,Zcr (gs.map fun n=>(n, "left")),rfl,E5,?_,?_,fun d H7 s7 n7 e7=>q gs nd hm hn d H7 (s1.trans (s6.trans s7)) (s1.free (s6.free n7)) e7⟩
   ·unfold Zcr;exact Zng i8 fun _ _ r=>r
   ·unfold Zcr;rw [List.map_map,List.map_map];exact Ztv Xd nd.1
def Ztp(T:Tx K mg)(kd:Str):Sp:=fun vs H Q _=>∃(x:Addr) (g:Str) (ps:List Zc) (js:List (Zc×Zc)) (sg:List (Str×Str×Str)),vs=[.ref x,.str g]/\Yh T H x ps js sg/\Xx ps js sg/\((kd,g):Zc)∈ps/\∀H',Same H H'->Q .non H'
theorem Zd2(T:Tx K mg):Zw P w K mg base CX0 4 T.av.f T.av.fd ["tracks", "gate"] (Ztp T "gate"):=by
 refine T.av.F.okW Zeb fun a9 A outer s H vs Q E hr h=>?_
 ·obtain ⟨x,g,ps,js,sg,rfl,tr,yv,hm,q⟩:=h;intro X;refine WSs.last (Z0 (Zm (r:=Wg K) (Wz hr) (pv 1) (Yj (Zhh T) hr T.dw (Zb (pv 0) Za)) (by with_unfolding_all rfl)) Zr Zn) (exR rfl (exR rfl ⟨x,ps,js,sg,rfl,tr,yv,fun gs nd hg hl l H1 s1 n1 e1=>.inl ⟨l,_,rfl,.inl (SqL.of e1),rfl,Xt _,_,rfl,?_⟩⟩));rw [if_pos rfl,Wv,decide_eq_true ((hg g).mpr hm)];exact Zeq (q H1 s1)
theorem Zcp(T:Tx K mg):Zw P w K mg base CX0 4 T.ak.f T.ak.fd ["tracks", "points"] (Ztp T "points"):=by
 refine T.ak.F.okW Zcy fun a9 A outer s H vs Q E hr h=>?_
 ·obtain ⟨x,g,ps,js,sg,rfl,tr,yv,hm,q⟩:=h;intro X;refine WSs.last (Z0 (Zm (r:=Wg K) (Wz hr) (pv 1) (Yj (Zdl T) hr T.cL (Zb (pv 0) Za)) (by with_unfolding_all rfl)) Zr Zn) (exR rfl (exR rfl ⟨x,ps,js,sg,rfl,tr,yv,fun gs nd hg hl l H1 s1 n1 e1=>.inl ⟨l,_,rfl,.inl (SqL.of e1),rfl,Xt _,_,rfl,?_⟩⟩));rw [if_pos rfl,Wv,decide_eq_true ((hg g).mpr hm)];exact Zeq (q H1 s1)
def Zyq:Sp:=fun vs H Q _=>∃n:Nat,vs=[.int (n:Int)]/\1<=n/\n<=4/\Q .non H
theorem Zhe(T:Tx K mg):Zw P w K mg base CX0 1 T.aj.f T.aj.fd ["long"] Zyq:=by
 refine T.aj.F.okW Zcl fun a9 A outer s H vs Q E hr h=>?_
 ·obtain ⟨n,rfl,h1,h2,q⟩:=h;intro X;refine WSs.last (Z0 (PW.pt (Zbm (Xb (Yx (Zq (r:=Zdc K) Yt (by rfl) T.af PyProof.Rows.boot_isinstance (Zb (pv 0) (Zb (Xw (v:=.ty "int") (by rfl) T.dX PyProof.Rows.boot_int rfl) Za))))) (Zbm (Yx (Zq (r:=Zdc K) Yt (by rfl) T.af PyProof.Rows.boot_isinstance (Zb (pv 0) (Zb (Xw (v:=.ty "bool") (by rfl) T.dF PyProof.Rows.boot_bool rfl) Za)))) (Zcb (Xb (Zej Zfa Zfa Ze (pv 0) (Wm (by rfl) T.aX))))))) Zr Zn) (exR rfl ⟨_,_,_,_,rfl,Xo.int _,.inl (exR rfl T.gT),_,rfl,Zeq (exR rfl ⟨_,_,_,_,rfl,Xo.int _,.inl (exR rfl T.gU),_,rfl,Zeq (exR rfl (exQ rfl rfl (exR rfl (Yo (fun _=>(exQ rfl rfl (exR rfl ?_))) (fun z=>absurd (decide_eq_true (by lia)) z)))))⟩)⟩);rw [decide_eq_true (show (n:Int)<=4 by lia)];exact Zeq q
def Zs6(T:Tx K mg)(H:Hp)(x:Addr)(nm:Str)(y:Addr):Prop:=∃(dx po jo so si:Addr) (kp:List (Key×V)),H x=some (.ins T.aK dx [("part_of",.ref po),("joined",.ref jo),("post_of",.ref so),("signal_on",.ref si)])/\H po=some (.dK kp)/\Yv kp (Z8 nm)=some (.ref y)
theorem Yh.part{T:Tx K mg}{H:Hp}{x:Addr}{ps:List Zc}{js:List (Zc×Zc)}{sg:List (Str×Str×Str)}{k nm:Str}(tr:Yh T H x ps js sg)(yv:Xx ps js sg)(hm:((k,nm):Zc)∈ps):∃y C,Zs6 T H x nm y/\X0 T k C/\Zdw H C y nm:=by
 obtain ⟨dx,po,jo,so,si,kp,ks,kj,ko,h1,h2,h3,_⟩:=tr.ex;have hq:((nm,k):Str×Str)∈qP ps:=List.mem_map.mpr ⟨(k,nm),hm,rfl⟩;obtain ⟨v,hv,y,C,rfl,hC,hO⟩:=h3.get Xd (by rw [Zml];exact yv.net.nd) hq;exact ⟨y,C,⟨dx,po,jo,so,si,kp,h1,h2,hv⟩,hC,hO⟩
def Zsn(T:Tx K mg):Sp:=fun vs H Q _=>∃(x y:Addr) (nm:Str),vs=[.ref x,.str nm]/\Zs6 T H x nm y/\Yz nm/\∀H',Same H H'->Q (.ref y) H'
theorem Zcq(T:Tx K mg):Zw P w K mg base CX0 2 T.am.f T.am.fd ["self", "name"] (Zsn T):=by
 refine T.am.F.okW Zds fun a9 A outer s H vs Q E hr h=>?_
 ·obtain ⟨x,y,nm,rfl,⟨dx,po,jo,so,si,kp,h1,h2,hv⟩,hn,q⟩:=h;intro X;refine WSs.step (Z0 (PW.pt (Zbm (Xb (Yx (Yj (Za7 T) hr T.cD (Zb (pv 1) Za)))) (Zcb (Zm (r:=Wg K) (Wz hr) (pv 1) (Yk (pv 0) rfl) (by with_unfolding_all rfl))))) Zr Zn) (exR rfl ⟨_,true,rfl,hn.asked,fun H1 s1=>(exR rfl (Yo (fun z=>absurd z (by decide)) (fun _=>(exR rfl (exR rfl ⟨x,_,dx,_,_,rfl,s1.at h1,T.aF,T.aH,rfl,.inr (.inl ⟨po,_,rfl,Zab.k (k:=Z8 nm) (s1.at h2),_,rfl,Yo (fun z=>?_) (fun _=>?_)⟩)⟩)))))⟩)
  ·rw [hv] at z;exact absurd z (by simp)
  exact WSs.last (Zt (Zbx (W5 hr) (Yk (pv 0) rfl) (pv 1) (fun _ _=>rfl))) (exR rfl ⟨x,_,dx,_,_,rfl,s1.at h1,T.aF,T.aH,rfl,_,rfl,po,_,rfl,by rw [<-hv];exact Zab.k (k:=Z8 nm) (s1.at h2),q H1 s1⟩)
def Zxj(T:Tx K mg):Sp:=fun vs H Q _=>∃(x:Addr) (g l:Str) (ps:List Zc) (js:List (Zc×Zc)) (sg:List (Str×Str×Str)),vs=[.ref x,.str g,.str l]/\Yh T H x ps js sg/\Xx ps js sg/\(("points",g):Zc)∈ps/\(l = "left" \/l = "right")/\∀H',Same H H'->Q .non H'
theorem Zkn(T:Tx K mg):Zw P w K mg base CX0 5 T.aA.f T.aA.fd ["tracks", "points", "lie"] (Zxj T):=by
 refine T.aA.F.okW Ze8 fun a9 A outer s H vs Q E hr h=>?_
 ·obtain ⟨x,g,l,ps,js,sg,rfl,tr,yv,hm,hl,q⟩:=h;intro X;obtain ⟨dx,po,jo,so,si,kp,ks,kj,ko,h1,_⟩:=tr.ex;refine WSs.step (Z4 (Yj (Zcp T) hr T.bS (Zb (pv 0) (Zb (pv 1) Za)))) (exR rfl (exR rfl ⟨x,g,ps,js,sg,rfl,tr,yv,hm,fun H1 s1=>?_⟩));obtain ⟨y,C,hp,hC,⟨dy,hO⟩⟩:=(tr.mono s1).part yv hm;obtain ⟨f1,d1,m1,b1,g1⟩:=hC.lies;refine WSs.last (Z0 (Zm (r:=Wg K) (Wz hr) (pv 2) Zvd (by with_unfolding_all rfl)) Zr Zn) (exR rfl (WE.of (Yw (Yu (pv 0) T.aF T.bF (Zcq T) hr.m T.am.b .nil Yg (Zb (pv 1) Za)) hC.cls.1 m1 (g1 _ _ _ 4 (by decide)) hr b1 .nil Yg) (exR rfl ⟨x,dx,_,rfl,s1.at h1,rfl,_,rfl,x,y,g,rfl,hp,yv.name _ hm,fun H2 s2=>⟨y,dy,_,rfl,s2.at hO,rfl,_,rfl,fun p H3 s3 n3 e3=>.inl ⟨p,_,rfl,.inl (SqL.of e3),rfl,Xt _,_,rfl,?_⟩⟩⟩)));rw [if_pos rfl,Wv,show decide (l∈Zks "points")=true by rcases hl with rfl|rfl <;>decide +kernel];exact Zeq (q H3 (s1.trans (s2.trans s3)))
abbrev TrD:=Str×Nat×List Zc
abbrev WSt:=List TrD×List (Str×Str)×List Zc
def Wi(T:Tx K mg)(F:Addr->Prop)(H:Hp)(a:Addr)(d:TrD):Prop:=∃dx l,H a=some (.ins T.ce dx [("name",.str d.1),("long",.int (d.2.1:Int)),("stands",.ref l)])/\Zp H l d.2.2/\¬F l
def Zv7(T:Tx K mg):Sp:=fun vs H Q _=>∃(H0:Hp) (x dx:Addr) (nm:Str) (n:Nat) (g:Str),vs=[.ref x,.str nm,.int (n:Int),.str g]/\H0 x=none/\Same H0 H/\H x=some (.ins T.ce dx [])/\∀H' l,Same H0 H'->H0 l=none->l≠x->H' x=some (.ins T.ce dx [("name",.str nm),("long",.int (n:Int)),("stands",.ref l)])->Zp H' l [(g, "")]->Q .non H'
theorem Zgi(T:Tx K mg):Zw P w K mg base CX0 1 T.aT.f T.aT.fd ["self", "name", "long", "gate"] (Zv7 T):=by
 refine T.aT.F.okW Zgm fun a9 A outer s H vs Q E hr h=>?_
 ·obtain ⟨H0,x,dx,nm,n,g,rfl,h0,sm,hx,q⟩:=h;intro X;refine WSs.step (Zaq (pv 0) (pv 1) rfl) (exR rfl (exR rfl ⟨x,_,dx,[],rfl,hx,T.cP,T.dh,by simp,?_⟩));refine WSs.step (Zaq (pv 0) (pv 2) rfl) (exR rfl (exR rfl ⟨x,_,dx,[("name",.str nm)],rfl,Zi,T.cP,T.eX,by simp,?_⟩));refine WSs.last (Zaq (pv 0) (Zo (Zb (Zj (Zb (pv 3) (Zb Zf Za))) Za)) rfl) (exR rfl ⟨szA,fun t H1 s1 n1 e1=>⟨szA,fun l H2 s2 n2 e2=>(exR rfl ⟨x,_,dx,[("name",.str nm),("long",.int (n:Int))],rfl,s2.at (s1.at Zi),T.cP,T.cz,by simp,?_⟩)⟩⟩);have lx:l≠x:=fun z=>by rw [z,s1.at Zi] at n2;cases n2
  have tx:t≠x:=fun z=>by rw [z,Zi] at n1;cases n1
  have off:Same H0 H1:=fun b o e=>s1.at (by rw [Zd (Zg e h0),Zd (Zg e h0)];exact sm.at e)
  refine q _ l (fun b o e=>?_) (off.free n2) lx Zi ⟨[t],?_,.cons ?_ .nil⟩
  ·rw [Zd (Zg e h0)];exact s2.at (off.at e)
  ·rw [Zd lx];exact e2
  ·unfold Zs;rw [Zd tx];exact s2.at e1
def Znu(T:Tx K mg):List V->Hp->VK->Prop:=fun vs H Q=>∃(nm:Str) (n:Nat) (g:Str),vs=[.str nm,.int (n:Int),.str g]/\∀x dx l H',Same H H'->H x=none->H l=none->l≠x->H' x=some (.ins T.ce dx [("name",.str nm),("long",.int (n:Int)),("stands",.ref l)])->Zp H' l [(g, "")]->Q (.ref x) H'
theorem Zsf(T:Tx K mg):∀vs H Q,Znu T vs H Q ->
  ∀x dx,H x=none->H dx=none->dx≠x->Zv7 T (.ref x ::(vs++[])) (upd (upd H dx (.own x)) x (.ins T.ce dx [])) (fun v H2=>v=.non/\Q (.ref x) H2) E0:=by
 rintro vs H Q ⟨nm,n,g,rfl,q⟩ x dx hx hdx ne;refine ⟨H,x,dx,nm,n,g,rfl,hx,fun b o e=>?_,Zi,fun H' l s hl lx h1 h2=>⟨rfl,q x dx l H' s hx hl lx h1 h2⟩⟩;rw [Zd (Zg e hx),Zd (Zg e hdx)];exact e
def trK(as:List Addr)(ts:List TrD):List (Key×V):=(as.zip ts).map fun p=>(Z8 p.2.1,V.ref p.1)
set_option genInjectivity false in
set_option genSizeOf false in
structure WAd where
 dx:Addr
 ld:Addr
 td:Addr
 ml:Addr
 as:List Addr
structure WAt(T:Tx K mg)(H0 H:Hp)(F:Addr->Prop)(x tr:Addr)(ad:WAd)(st:WSt):Prop where
 obj:H x=some (.ins T.aR ad.dx [("tracks",.ref tr),("lie_of",.ref ad.ld),("train_of",.ref ad.td),("mishaps",.ref ad.ml)])
 lies:H ad.ld=some (.dK (Zcr st.2.1))
 trd:H ad.td=some (.dK (trK ad.as st.1))
 trs:Paired (Wi T F H) ad.as st.1
 mis:Zp H ad.ml st.2.2
 fl:F ad.ld
 ft:F ad.td
 fm:F ad.ml
 ne:ad.ld≠ad.td
 fa:∀a∈ad.as,F a
 nd:ad.as.Nodup
 nx:¬F x
 free:∀b,F b->H0 b=none
 same:Same H0 H
 live:∀b,F b->∃o,H b=some o
theorem Wi.mono{T:Tx K mg}{F:Addr->Prop}{H H':Hp}{a:Addr}{d:TrD}(e:Same H H')(h:Wi T F H a d):Wi T F H' a d:=by
 obtain ⟨dx,l,h1,h2,h3⟩:=h;exact ⟨dx,l,e.at h1,h2.mono e,h3⟩
theorem WAt.mono{T:Tx K mg}{H0 H H':Hp}{F:Addr->Prop}{x tr:Addr}{ad:WAd}{st:WSt}(e:Same H H')(h:WAt T H0 H F x tr ad st):WAt T H0 H' F x tr ad st :=
 ⟨e.at h.obj,e.at h.lies,e.at h.trd,Paired.mapP h.trs fun _ _ r=>r.mono e,h.mis.mono e,h.fl,h.ft,h.fm,h.ne,h.fa,h.nd,h.nx,h.free,h.same.trans e,fun b f=>let ⟨o,z⟩:=h.live b f;⟨o,e.at z⟩⟩
theorem Zn4{as:List Addr}{ts:List TrD}(h:as.length=ts.length):(trK as ts).map Prod.fst=ts.map fun d=>Z8 d.1:=by
 unfold trK;rw [List.map_map]
 induction as generalizing ts with
 | nil=>cases ts with
  | nil=>rfl
  | cons _ _=>cases h
 | cons a r ih=>cases ts with
  | nil=>cases h
  | cons d t=>exact congrArg _ (ih (Nat.succ.inj h))
def Zzg(T:Tx K mg):Sp:=fun vs H Q _=>∃(H0:Hp) (x dx tr:Addr) (ps:List Zc) (js:List (Zc×Zc)) (sg:List (Str×Str×Str)),vs=[.ref x,.ref tr]/\H0 x=none/\Same H0 H/\H x=some (.ins T.aR dx [])/\Yh T H0 tr ps js sg/\Xx ps js sg /\
 ∀(gs:List Str) (H':Hp) (F:Addr->Prop) (ad:WAd),(gs.Nodup/\PyProof.Rows.sortedS gs=true)->(∀n,n∈gs↔(("points",n):Zc)∈ps)->gs.length<=40->WAt T H0 H' F x tr ad ([],gs.map fun n=>(n, "left"),[])->Q .non H'
theorem Zgh(T:Tx K mg):Zw P w K mg base CX0 5 T.aU.f T.aU.fd ["self", "tracks"] (Zzg T):=by
 refine T.aU.F.okW Zgq fun a9 A outer s H vs Q E hr h=>?_
 ·obtain ⟨H0,x,dx,tr,ps,js,sg,rfl,h0,sm,hx,ht,yv,q⟩:=h;intro X;have up:∀{H1:Hp} {o:HO},Same H0 H1->Same H0 (upd H1 x o):=fun s b o e=>by rw [Zd (Zg e h0)];exact s.at e
  refine WSs.step (Zaq (pv 0) (pv 1) rfl) (exR rfl (exR rfl ⟨x,_,dx,[],rfl,hx,T.ac,T.aS,by simp,?_⟩));refine WSs.step (Zaq (pv 0) (Yj (Zgt T) hr T.dn (Zb (pv 1) Za)) rfl) (exR rfl ⟨tr,ps,js,sg,rfl,ht.mono (up sm),yv,fun gs nd hg hl ld H1 s1 n1 e1=>(exR rfl ⟨x,_,dx,[("tracks",.ref tr)],rfl,s1.at Zi,T.ac,T.bM,by simp,?_⟩)⟩);have m1:Same H0 H1:=(up sm).trans s1;refine WSs.step (Zaq (pv 0) Zhb rfl) fun td H2 s2 n2 e2=>(exR rfl ⟨x,_,dx,[("tracks",.ref tr),("lie_of",.ref ld)],rfl,s2.at Zi,T.ac,T.aq,by simp,?_⟩)
  have m2:Same H0 H2:=(up m1).trans s2;refine WSs.last (Zaq (pv 0) (Zo Za) rfl) ⟨szA,fun ml H3 s3 n3 e3=>(exR rfl ⟨x,_,dx,[("tracks",.ref tr),("lie_of",.ref ld),("train_of",.ref td)],rfl,s3.at Zi,T.ac,T.bG,by simp,?_⟩)⟩;have m3:Same H0 H3:=(up m2).trans s3;have lx:ld≠x:=fun z=>by rw [z,Zi] at n1;cases n1
  have tx:td≠x:=fun z=>by rw [z,Zi] at n2;cases n2
  have mx:ml≠x:=fun z=>by rw [z,Zi] at n3;cases n3
  have l2:H2 ld=some (.dK (Zcr (gs.map fun n=>(n, "left")))):=s2.at (by rw [Zd lx];exact e1);have l3:H3 ld=some (.dK (Zcr (gs.map fun n=>(n, "left")))):=s3.at (by rw [Zd lx];exact l2);have t3:H3 td=some (.dK []):=s3.at (by rw [Zd tx];exact e2);have dif:ld≠td:=fun z=>by rw [<-z,Zd lx,e1] at n2;cases n2
  refine q gs _ (fun b=>b=ld\/b=td\/b=ml) ⟨dx,ld,td,ml,[]⟩ nd hg hl ⟨Zi,?_,?_,.nil,⟨[],?_,.nil⟩,.inl rfl,.inr (.inl rfl),.inr (.inr rfl),dif,(fun _ z=>nomatch z),List.nodup_nil,?_,?_,up m3,?_⟩
  ·rw [Zd lx];exact l3
  ·rw [Zd tx];exact t3
  ·rw [Zd mx];exact e3
  ·rintro (z|z|z)
   ·exact lx z.symm
   ·exact tx z.symm
   ·exact mx z.symm
  ·rintro b (rfl|rfl|rfl)
   ·exact (up sm).free n1
   ·exact (up m1).free n2
   ·exact (up m2).free n3
  ·rintro b (rfl|rfl|rfl)
   ·exact ⟨_,by rw [Zd lx];exact l3⟩
   ·exact ⟨_,by rw [Zd tx];exact t3⟩
   ·exact ⟨_,by rw [Zd mx];exact e3⟩
def Zn3(T:Tx K mg):List V->Hp->VK->Prop:=fun vs H Q=>∃(tr:Addr) (ps:List Zc) (js:List (Zc×Zc)) (sg:List (Str×Str×Str)),vs=[.ref tr]/\Yh T H tr ps js sg/\Xx ps js sg /\
 ∀(x:Addr) (gs:List Str) (H':Hp) (F:Addr->Prop) (ad:WAd),(gs.Nodup/\PyProof.Rows.sortedS gs=true)->(∀n,n∈gs↔(("points",n):Zc)∈ps)->gs.length<=40->H x=none->WAt T H H' F x tr ad ([],gs.map fun n=>(n, "left"),[])->Q (.ref x) H'
theorem Zth(T:Tx K mg):∀vs H Q,Zn3 T vs H Q ->
  ∀x dx,H x=none->H dx=none->dx≠x->Zzg T (.ref x ::(vs++[])) (upd (upd H dx (.own x)) x (.ins T.aR dx [])) (fun v H2=>v=.non/\Q (.ref x) H2) E0:=by
 rintro vs H Q ⟨tr,ps,js,sg,rfl,ht,yv,q⟩ x dx hx hdx ne;refine ⟨H,x,dx,tr,ps,js,sg,rfl,hx,fun b o e=>?_,Zi,ht,yv,fun gs H' F ad h1 h2 h3 h4=>⟨rfl,q x gs H' F ad h1 h2 h3 hx h4⟩⟩;rw [Zd (Zg e hx),Zd (Zg e hdx)];exact e
theorem Paired.getL{α β:Type}{R:α->β->Prop}{l:List α}{m:List β}{i:Nat}{b:β}(h:Paired R l m)(e:m[i]? =some b):∃a,l[i]? =some a/\R a b:=by
 induction h generalizing i with
 | nil=>cases e
 | cons r t ih=>cases i with
  | zero=>cases e;exact ⟨_,rfl,r⟩
  | succ i=>exact ih e
def Zy6(T:Tx K mg):Sp:=fun vs H Q _=>∃(H0:Hp) (F:Addr->Prop) (x tr:Addr) (ad:WAd) (st:WSt),vs=[.ref x]/\WAt T H0 H F x tr ad st/\∀l H',Same H H'->H l=none->Zp H' l st.2.2->Q (.ref l) H'
theorem Zfj(T:Tx K mg):Zw P w K mg base CX0 1 T.aN.f T.aN.fd ["self"] (Zy6 T):=by
 refine T.aN.F.okW Zfh fun a9 A outer s H vs Q E hr h=>?_
 ·obtain ⟨H0,F,x,tr,ad,st,rfl,hw,q⟩:=h;intro X;obtain ⟨ts,h1,h2⟩:=hw.mis;exact WSs.last (Zt (Xh (r:=Zpv K) Zff (by rfl) T.ez PyProof.Rows.boot_list (Zb (Yk (pv 0) rfl) Za))) (exR rfl ⟨x,_,ad.dx,_,_,rfl,hw.obj,T.ac,T.bG,rfl,ad.ml,_,rfl,.inl (SqL.of h1),fun l H1 s1 n1 e1=>q l H1 s1 n1 ⟨ts,e1,Paired.mapP h2 fun _ _ r=>r.mono s1⟩⟩)
def Zys(T:Tx K mg):Sp:=fun vs H Q _=>∃(H0:Hp) (F:Addr->Prop) (x tr:Addr) (ad:WAd) (st:WSt),vs=[.ref x]/\WAt T H0 H F x tr ad st/\st.1.length<64/\∀ss:List Str,ss.Perm (st.1.map Prod.fst)->PyProof.Rows.sortedS ss=true->New H (.lst (ss.map V.str)) Q
theorem Xi(T:Tx K mg):Zw P w K mg base CX0 1 T.aw.f T.aw.fd ["self"] (Zys T):=by
 refine T.aw.F.okW Zh0 fun a9 A outer s H vs Q E hr h=>?_
 ·obtain ⟨H0,F,x,tr,ad,st,rfl,hw,hl,q⟩:=h;intro X;refine WSs.last (Zt (Zq (r:=Zod) (Zj0 rfl) (by rfl) T.eY PyProof.Rows.boot_sorted (Zb (Yk (pv 0) rfl) Za))) (exR rfl ⟨x,_,ad.dx,_,_,rfl,hw.obj,T.ac,T.aq,rfl,ad.td,_,st.1.map Prod.fst,rfl,.inl hw.trd,?_,by rw [List.length_map];exact hl,q⟩);have:=congrArg (List.map kV) (Zn4 (Paired.length hw.trs));rw [List.map_map,List.map_map] at this;rw [List.map_map];exact this
theorem Zl9{as:List Addr}{ts:List TrD}{i:Nat}{a:Addr}{d:TrD}(nd:(ts.map Prod.fst).Nodup)(ha:as[i]? =some a)(hd:ts[i]? =some d):Yv (trK as ts) (Z8 d.1)=some (.ref a):=by
 induction as generalizing ts i with
 | nil=>cases ha
 | cons b r ih=>cases ts with
  | nil=>cases hd
  | cons e t =>
   rw [List.map_cons,List.nodup_cons] at nd;cases i with
   | zero=>cases ha;cases hd;exact Xf rfl
   | succ i =>
    have hm:d.1∈t.map Prod.fst:=List.mem_map.mpr ⟨d,List.mem_of_getElem? (show t[i]? =some d from hd),rfl⟩;have ne:¬Z8 e.1=Z8 d.1:=fun z=>nd.1 (by rw [Xd _ _ z];exact hm)
    exact (Y7 (p:=(Z8 e.1,V.ref b)) ne).trans (ih nd.2 ha hd)
def Yax(T:Tx K mg):Sp:=fun vs H Q _=>∃(H0:Hp) (F:Addr->Prop) (x tr:Addr) (ad:WAd) (st:WSt) (i:Nat) (a:Addr) (d:TrD),vs=[.ref x,.str d.1]/\WAt T H0 H F x tr ad st/\st.1.length<64/\(st.1.map Prod.fst).Nodup/\ad.as[i]? =some a/\st.1[i]? =some d/\∀H',Same H H'->Q (.ref a) H'
theorem Zaj(T:Tx K mg):Zw P w K mg base CX0 2 T.ae.f T.ae.fd ["self", "name"] (Yax T):=by
 refine T.ae.F.okW Zam fun a9 A outer s H vs Q E hr h=>?_
 ·obtain ⟨H0,F,x,tr,ad,st,i,a,d,rfl,hw,hl,nd,ha,hd,q⟩:=h;intro X;refine WSs.step (Z0 (Zm (r:=Wg K) (Wz hr) (pv 1) (Yw (pv 0) T.ac T.aV (Xi T) hr.m T.aw.b .nil Yg) (by with_unfolding_all rfl)) Zr Zn) (exR rfl (exR rfl ⟨x,ad.dx,_,rfl,hw.obj,rfl,H0,F,x,tr,ad,st,rfl,hw,hl,fun ss hp hs l H1 s1 n1 e1=>.inl ⟨l,_,rfl,.inl (SqL.of e1),rfl,Xt _,_,rfl,?_⟩⟩));rw [if_pos rfl,Wv,decide_eq_true (hp.mem_iff.mpr (List.mem_map.mpr ⟨d,List.mem_of_getElem? hd,rfl⟩))];refine Zeq ?_;exact WSs.last (Zt (Zbx (W5 hr) (Yk (pv 0) rfl) (pv 1) (fun _ _=>rfl))) (exR rfl ⟨x,_,ad.dx,_,_,rfl,s1.at hw.obj,T.ac,T.aq,rfl,_,rfl,ad.td,_,rfl,by rw [<-Zl9 nd ha hd];exact Zab.k (k:=Z8 d.1) (s1.at hw.trd),q H1 s1⟩)
def Zvj(T:Tx K mg):Sp:=fun vs H Q _=>∃(H0:Hp) (F:Addr->Prop) (x tr:Addr) (ad:WAd) (st:WSt) (d:TrD),vs=[.ref x,.str d.1]/\WAt T H0 H F x tr ad st/\st.1.length<64/\(st.1.map Prod.fst).Nodup/\d∈st.1/\∀l H',Same H H'->H l=none->Zp H' l d.2.2->Q (.ref l) H'
theorem Zel(T:Tx K mg):Zw P w K mg base CX0 3 T.ap.f T.ap.fd ["self", "name"] (Zvj T):=by
 refine T.ap.F.okW Zd5 fun a9 A outer s H vs Q E hr h=>?_
 ·obtain ⟨H0,F,x,tr,ad,st,d,rfl,hw,hl,nd,hm,q⟩:=h;intro X;obtain ⟨i,hi⟩:=List.mem_iff_getElem?.mp hm;obtain ⟨a,ha,dx,l0,h1,⟨ts,h2,h3⟩,_⟩:=Paired.getL hw.trs hi;exact WSs.last (Zt (Xh (r:=Zpv K) Zff (by rfl) T.ez PyProof.Rows.boot_list (Zb (Yk (Yu (pv 0) T.ac T.aD (Zaj T) hr.m T.ae.b .nil Yg (Zb (pv 1) Za)) rfl) Za))) (exR rfl ⟨x,ad.dx,_,rfl,hw.obj,rfl,_,rfl,H0,F,x,tr,ad,st,i,a,d,rfl,hw,hl,nd,ha,hi,fun H1 s1=>⟨a,_,dx,_,_,rfl,s1.at h1,T.cP,T.cz,rfl,l0,_,rfl,.inl (SqL.of (s1.at h2)),fun l H2 s2 n2 e2=>q l H2 (s1.trans s2) (s1.free n2) ⟨ts,e2,Paired.mapP h3 fun _ _ r=>r.mono (s1.trans s2)⟩⟩⟩)
def Xm(ts:List TrD):List Str:=ts.flatMap fun d=>d.2.2.map Prod.fst
def Znc(ss A2:List Str)(kvs:List (Key×V)):Prop:=kvs.length<=ss.length+A2.length/\(∀n∈ss,Yv kvs (Z8 n)=some (.bl (decide (n∈A2))))/\((∀n∈A2,n∈ss)->kvs=ss.map fun n=>(Z8 n,V.bl (decide (n∈A2))))
theorem Zuf{ss:List Str}:Znc ss [] (ss.map fun n=>(Z8 n,V.bl false)):=by
 refine ⟨by rw [List.length_map];exact Nat.le_refl _,fun n hn=>?_,fun _=>rfl⟩
 induction ss with
 | nil=>cases hn
 | cons m r ih =>
  rw [List.map_cons]
  by_cases e:m=n
  ·subst e;exact Xf rfl
  ·exact (Y7 (p:=(Z8 m,V.bl false)) fun z=>e (Xd _ _ z)).trans (ih ((List.mem_cons.mp hn).resolve_left fun z=>e z.symm))
theorem Zuy{as:List Addr}{ts:List TrD}{i:Nat}{kv:Key×V}(h:(trK as ts)[i]? =some kv):∃a d,as[i]? =some a/\ts[i]? =some d/\kv=(Z8 d.1,.ref a):=by
 unfold trK at h;rw [List.getElem?_map] at h;obtain ⟨⟨a,d⟩,h',rfl⟩:=Option.map_eq_some_iff.mp h;obtain ⟨h1,h2⟩:=List.getElem?_zip_eq_some.mp h';exact ⟨a,d,h1,h2,rfl⟩
theorem Zjh{ts:List TrD}{i:Nat}{d:TrD}(h:ts[i]? =some d):Xm (ts.take (i+1))=Xm (ts.take i)++d.2.2.map Prod.fst:=by
 unfold Xm;rw [List.take_add_one,h,List.flatMap_append];simp
theorem Zsz(ts:List TrD)(i:Nat):(Xm (ts.take i)).length<=(Xm ts).length:=by
 have h:Xm ts=Xm (ts.take i)++Xm (ts.drop i):=by unfold Xm;rw [<-List.flatMap_append,List.take_append_drop]
 rw [h,List.length_append];lia
theorem Znc.put{ss A2:List Str}{kvs:List (Key×V)}{m:Str}(h:Znc ss A2 kvs):Znc ss (A2++[m]) (W2 kvs (Z8 m) (.bl true)):=by
 refine ⟨?_,fun n hn=>?_,fun hs=>?_⟩
 ·have:=Zbs kvs (Z8 m) (.bl true);have:=h.1;rw [List.length_append,List.length_singleton];lia
 ·rw [Znk]
  by_cases e:n=m
  ·subst e;rw [if_pos rfl,decide_eq_true (List.mem_append.mpr (.inr List.mem_cons_self))]
  ·rw [if_neg fun z=>e (Xd _ _ z),h.2.1 n hn];congr 2;exact decide_eq_decide.mpr ⟨fun z=>List.mem_append.mpr (.inl z),fun z=>(List.mem_append.mp z).elim id fun z=>absurd (List.mem_singleton.mp z) e⟩
 ·rw [h.2.2 fun n hn=>hs n (List.mem_append.mpr (.inl hn))];have hm:m∈ss:=hs m (List.mem_append.mpr (.inr List.mem_cons_self));have hany:((ss.map fun n=>(Z8 n,V.bl (decide (n∈A2)))).any fun kv=>decide (kv.1=Z8 m))=true:=List.any_eq_true.mpr ⟨_,List.mem_map.mpr ⟨m,hm,rfl⟩,decide_eq_true rfl⟩;unfold W2;rw [if_pos hany,List.map_map];refine List.map_congr_left fun n _=>?_
  by_cases e:n=m
  ·show (if Z8 n=Z8 m then _ else _)=_;rw [if_pos (by rw [e]),decide_eq_true (List.mem_append.mpr (.inr (List.mem_singleton.mpr e)))]
  ·show (if Z8 n=Z8 m then _ else _)=_;rw [if_neg fun z=>e (Xd _ _ z)];congr 2;exact decide_eq_decide.mpr ⟨fun z=>List.mem_append.mpr (.inl z),fun z=>(List.mem_append.mp z).elim id fun z=>absurd (List.mem_singleton.mp z) e⟩
def Zul(T:Tx K mg):Sp:=fun vs H Q _=>∃(H0:Hp) (F:Addr->Prop) (x tr:Addr) (ad:WAd) (st:WSt) (ps:List Zc) (js:List (Zc×Zc)) (sg:List (Str×Str×Str)),vs=[.ref x]/\WAt T H0 H F x tr ad st/\Yh T H0 tr ps js sg/\Xx ps js sg/\(Xm st.1).length<=400 /\
 ∀ss D kvs H',ss.Perm (ps.map Prod.snd)->PyProof.Rows.sortedS ss=true->Znc ss (Xm st.1) kvs->Same H H'->H D=none->H' D=some (.dK kvs)->Q (.ref D) H'
theorem Zbf(T:Tx K mg):Zw P w K mg base CX0 2 T.aQ.f T.aQ.fd ["self"] (Zul T):=by
 refine T.aQ.F.okW Wo fun a9 A outer s H vs Q E hr h=>?_
 ·obtain ⟨H0,F,x,tr,ad,st,ps,js,sg,rfl,hw,ht,yv,hz,q⟩:=h;intro X;have tr1:=ht.mono hw.same;obtain ⟨dxt,po,jo,so,si,kp,ks,kj,ko,h1,_⟩:=tr1.ex;refine WSs.step (Zv (i:=1) Wo.nd (Xh (r:=Zou) (Zjn rfl) (by rfl) T.eE PyProof.Rows.boot_dict (Zb (Wt (N':=["part"]) rfl (Ya.std 1 [] rfl (by trivial) (by trivial) rfl trivial rfl rfl trivial) (Y0 (Yw (Yk (pv 0) rfl) T.aF T.bZ (Zav T) hr.m T.aJ.b .nil Yg)) (fun _ _ _ _=>(Zbo (i:=0) (by show (["part"]:List Str).Nodup;decide +kernel))) (fun _ _ _ _=>Zda) (fun _ _ _ _=>(Zj (Zb (pv 0) (Zb Zcu Za))))) Za))) (exR rfl ⟨x,_,ad.dx,_,_,rfl,hw.obj,T.ac,T.aS,rfl,tr,dxt,_,rfl,h1,rfl,tr,ps,js,sg,rfl,tr1,yv,fun ss hp hs l H1 s1 n1 e1=>⟨l,rfl,⟨_,SqL.of e1⟩,fun C hC=>Wb (xs:=ss.map V.str) (fun i ys H'=>(∃ts:List Addr,ys=ts.map V.ref/\Paired (fun t (n:Str)=>H' t=some (.tup [.str n,.bl false])) ts (ss.take i))/\H' C=some (.lst ys)/\Same H1 H') ⟨⟨[],rfl,.nil⟩,Zi,Same.new hC⟩ ?_ ?_ ?_⟩⟩)
  ·rintro i ys H' _ ⟨_,_,sm⟩;exact SqL.of (sm.at e1)
  ·rintro j v ys H' hj ⟨⟨ts,rfl,i8⟩,u6,sm⟩;rw [List.getElem?_map] at hj;obtain ⟨n,hy,rfl⟩:=Option.map_eq_some_iff.mp hj;have hl:=Paired.length i8;have U5:ss.length<=40:=by rw [hp.length_eq,List.length_map];exact yv.len
   rw [List.length_take] at hl;unfold Zco;refine ⟨Zat.set rfl,_,rfl,szA,fun t H2 s2 n2 e2=>⟨s2.at u6,?_,⟨ts++[t],?_,?_⟩,Zi,fun b o e=>?_⟩⟩
   ·rw [List.length_map];exact Zx (by lia)
   ·rw [List.map_append];rfl
   ·rw [List.take_add_one,hy];have off:∀{b:Addr} {xs:List V},H2 b=some (.tup xs)->upd H2 C (.lst (ts.map V.ref++[V.ref t])) b=some (.tup xs):=fun {b xs} z=>by
     rw [Zd fun y=>by rw [y,s2.at u6] at z;cases z];exact z
    exact Paired.append (Paired.mapP i8 fun _ _ r=>off (s2.at r)) (.cons (off e2) .nil)
   ·rw [Zd (Zg e hC)];exact s2.at (sm.at e)
  rintro ys H6 ⟨⟨ts,rfl,i8⟩,hC6,s6⟩;rw [List.length_map,List.take_length] at i8;refine ⟨C,ts,ss.map fun n=>(Z8 n,.bl false),rfl,hC6,Zng i8 fun _ _ r=>r,?_,fun D H7 s7 n7 e7=>?_⟩
  ·rw [List.map_map];exact Ztv Xd (hp.nodup_iff.mpr yv.net.nd)
  have N0:=s1.trans (s6.trans s7);have fD:H D=none:=s1.free (s6.free n7);have dt:D≠ad.td:=fun z=>by rw [z,hw.trd] at fD;cases fD
  have U5:ss.length<=40:=by rw [hp.length_eq,List.length_map];exact yv.len
  refine WSs.step (Zpo (We PassesOwn.never rfl (Zva (Yk (pv 0) rfl)) (Xn (i:=2) Wo.nd) Zr)) (exR rfl ⟨x,_,ad.dx,_,_,rfl,N0.at hw.obj,T.ac,T.aq,rfl,ad.td,_,rfl,N0.at hw.trd,fun o nf=>Ztx (fun i σ H'=>(∃o2 o3,σ=[some (.ref x),some (.ref D),o2,o3])/\Same (upd H ad.td (.frz o (.dK (trK ad.as st.1)))) H'/\∃kvs,H' D=some (.dK kvs)/\Znc ss (Xm (st.1.take i)) kvs) ⟨⟨none,none,rfl⟩,N0.frz,_,by rw [Zd dt];exact e7,Zuf⟩ ?_ ?_ ?_⟩)
  ·rintro i σ H' _ ⟨_,s2,_⟩;exact s2.at Zi
  ·rintro i kv σ H2 hi ⟨⟨o2,o3,rfl⟩,s2,kvs,hD,hT⟩;obtain ⟨a,d,ha,hd,rfl⟩:=Zuy hi;obtain ⟨a',ha',dx,l,ho,⟨Q1,hl,i8⟩,_⟩:=Paired.getL hw.trs hd;rw [ha] at ha';cases ha';have up:∀{b:Addr} {u:HO},H b=some u->(∀k,u ≠ .dK k)->H2 b=some u:=fun {b u} z nk=>s2.at (by rw [Zd fun y=>by rw [y,hw.trd] at z;cases z;exact nk _ rfl];exact z)
   have A6:=Zsz st.1 (i+1);rw [Zjh hd,List.length_append,List.length_map] at A6;let I18:=fun (j:Nat) (σ:St) (H':Hp)=>(∃o3,σ=[some (.ref x),some (.ref D),some (.ref a),o3])/\Same (upd H ad.td (.frz o (.dK (trK ad.as st.1)))) H'/\∃kvs,H' D=some (.dK kvs)/\Znc ss (Xm (st.1.take i)++(d.2.2.take j).map Prod.fst) kvs
   refine WSs.last (We PassesOwn.never rfl (Y0 (Yk (pv 2) rfl)) (Xn (i:=3) Wo.nd) Zr) (exR rfl ⟨a,_,dx,_,_,rfl,up ho (fun _ z=>nomatch z),T.cP,T.cz,rfl,l,rfl,⟨_,SqL.of (up hl fun _ z=>nomatch z)⟩,Zbg (K:=K) (xs:=Q1.map V.ref) I18 ⟨⟨_,rfl⟩,s2,kvs,hD,by rw [List.take_zero,List.map_nil,List.append_nil];exact hT⟩ ?_ ?_ ?_⟩)
   ·rintro j σ H' _ ⟨_,s3,_⟩;exact SqL.of (s3.at (by rw [Zd fun y=>by rw [y,hw.trd] at hl;cases hl];exact hl))
   ·rintro j v σ H3 hj ⟨⟨o3,rfl⟩,s3,kv3,hD3,hT3⟩;rw [List.getElem?_map] at hj;obtain ⟨t,htj,rfl⟩:=Option.map_eq_some_iff.mp hj;obtain ⟨p,hpj,J6⟩:=Paired.get i8 htj;have hpt3:H3 t=some (.tup [.str p.1,.str p.2]):=s3.at (by rw [Zd fun y=>by unfold Zs at J6;rw [y,hw.trd] at J6;cases J6];exact J6);have h3:=hT3.1;rw [List.length_append,List.length_map,List.length_take] at h3;refine WSs.last (Zbv (W5 hr) (pv 1) (Z1 (K:=K) rfl (pv 3) Ze) Zcu rfl) (exR rfl (exR rfl (ixT hpt3 0 rfl ⟨D,_,rfl,Zgk.k (k:=Z8 p.1) hD3 (Zx (by lia)),⟨_,rfl⟩,fun b u z=>?_,_,Zi,?_⟩)))
    ·rw [Zd (Zg z (by rw [Zd dt];exact fD))];exact s3.at z
    ·rw [List.take_add_one,hpj,List.map_append,<-List.append_assoc];exact hT3.put
   ·rintro σ H3 ⟨⟨o3,rfl⟩,s3,kv3,hD3,hT3⟩;rw [List.length_map,Paired.length i8,List.take_length] at hT3;exact ⟨⟨_,_,rfl⟩,s3,kv3,hD3,by rw [Zjh hd];exact hT3⟩
  ·rintro σ H2 ⟨⟨o2,o3,rfl⟩,s2,kvs,hD,hT⟩;rw [List.take_of_length_le (by unfold trK;rw [List.length_map,List.length_zip,Paired.length hw.trs,Nat.min_self];exact Nat.le_refl _)] at hT;refine ⟨ad.td,o,_,s2.at Zi,nf,WSs.last (Zt (pv 1)) ⟨_,rfl,q ss D kvs _ hp hs (hT) (s2.thaw hw.trd) fD ?_⟩⟩;rw [Zd dt];exact hD
def liQ(l:List (Str×Str))(n:Str):Option Str:=(l.find? fun p=>decide (p.1=n)).map Prod.snd
def Ztc(l:List (Str×Str))(n:Str):Str:=(liQ l n).getD ""
theorem Zu4(l:List (Str×Str))(n:Str):Yv (Zcr l) (Z8 n)=(liQ l n).map V.str:=by
 unfold Zcr liQ
 induction l with
 | nil=>rfl
 | cons p r ih =>
  rw [List.map_cons,List.find?_cons]
  by_cases e:p.1=n
  ·rw [Xf (by rw [e]),decide_eq_true e];rfl
  ·rw [Y7 (fun z=>e (Xd _ _ z)),decide_eq_false e];exact ih
theorem Zsd{ss A2:List Str}{kvs:List (Key×V)}{ps:List Zc}{k nm:Str}(h:Znc ss A2 kvs)(hp:ss.Perm (ps.map Prod.snd))(hm:((k,nm):Zc)∈ps):Yv kvs (Z8 nm)=some (.bl (decide (nm∈A2))):=h.2.1 nm (hp.mem_iff.mpr (List.mem_map.mpr ⟨_,hm,rfl⟩))
theorem Zp.offB{H:Hp}{l b:Addr}{ps:List Zc}{u o:HO}(h:Zp H l ps)(lb:l≠b)(hb:H b=some u)(nt:∀xs,u ≠ .tup xs):Zp (upd H b o) l ps:=by
 obtain ⟨ts,h1,h2⟩:=h;refine ⟨ts,by rw [Zd lb];exact h1,Paired.mapP h2 fun t p r=>?_⟩;unfold Zs at r ⊢;rw [Zd fun z=>by rw [z,hb] at r;cases r;exact nt _ rfl];exact r
theorem Wi.offB{T:Tx K mg}{F:Addr->Prop}{H:Hp}{a b:Addr}{d:TrD}{u o:HO}(h:Wi T F H a d)(ab:a≠b)(fb:F b)(hb:H b=some u)(nt:∀xs,u ≠ .tup xs):Wi T F (upd H b o) a d:=by
 obtain ⟨dx,l,h1,h2,h3⟩:=h;exact ⟨dx,l,by rw [Zd ab];exact h1,h2.offB (fun z=>h3 (z ▸ fb)) hb nt,h3⟩
theorem Wi.ins{T:Tx K mg}{F:Addr->Prop}{H:Hp}{a b:Addr}{d:TrD}{u:HO}(h:Wi T F H a d)(hb:H b=some u)(ni:∀C dx fs,u ≠ .ins C dx fs):a≠b:=fun z=>by
 obtain ⟨dx,l,h1,_⟩:=h;rw [z,hb] at h1;cases h1;exact ni _ _ _ rfl
theorem Zf7{F:Addr->Prop}{H:Hp}{c:Addr}{u:HO}(h:∀b,F b->∃o,H b=some o):∀b,F b->∃o,upd H c u b=some o:=fun b f=>by
 by_cases e:b=c
 ·exact ⟨u,by rw [e];exact Zi⟩
 ·obtain ⟨o,z⟩:=h b f;exact ⟨o,by rw [Zd e];exact z⟩
theorem WAt.lie{T:Tx K mg}{H0 H:Hp}{F:Addr->Prop}{x tr:Addr}{ad:WAd}{st:WSt}(h:WAt T H0 H F x tr ad st)(l':List (Str×Str)):WAt T H0 (upd H ad.ld (.dK (Zcr l'))) F x tr ad (st.1,l',st.2.2):=by
 obtain ⟨ms,hm,_⟩:=id h.mis;have nt:∀xs,HO.dK (Zcr st.2.1) ≠ .tup xs:=fun _ z=>nomatch z
 have xl:x≠ad.ld:=fun z=>h.nx (by rw [z];exact h.fl)
 exact ⟨by rw [Zd xl];exact h.obj,Zi,by rw [Zd h.ne.symm];exact h.trd,Paired.mapP h.trs fun a d r=>r.offB (r.ins h.lies fun _ _ _ z=>nomatch z) h.fl h.lies nt,h.mis.offB (fun z=>by rw [z] at hm;rw [h.lies] at hm;cases hm) h.lies nt,h.fl,h.ft,h.fm,h.ne,h.fa,h.nd,h.nx,h.free,fun b o e=>by rw [Zd (Zg e (h.free _ h.fl))];exact h.same.at e,Zf7 h.live⟩
theorem WAt.mish{T:Tx K mg}{H0 H:Hp}{F:Addr->Prop}{x tr t:Addr}{ad:WAd}{st:WSt}{p:Zc}(h:WAt T H0 H F x tr ad st)(ht:Zs H t p):∃ts:List Addr,H ad.ml=some (.lst (ts.map V.ref))/\ts.length=st.2.2.length/\WAt T H0 (upd H ad.ml (.lst (ts.map V.ref++[V.ref t]))) F x tr ad (st.1,st.2.1,st.2.2++[p]):=by
 obtain ⟨ts,hm,hp⟩:=id h.mis;have nt:∀xs,HO.lst (ts.map V.ref) ≠ .tup xs:=fun _ z=>nomatch z
 have off:∀{b:Addr} {q:Zc},Zs H b q->Zs (upd H ad.ml (.lst (ts.map V.ref++[V.ref t]))) b q:=fun {b q} z=>by
  unfold Zs at z ⊢;rw [Zd fun y=>by rw [y,hm] at z;cases z];exact z
 have xm:x≠ad.ml:=fun z=>h.nx (by rw [z];exact h.fm)
 have lm:ad.ld≠ad.ml:=fun z=>by have:=h.lies;rw [z,hm] at this;cases this
 have tm:ad.td≠ad.ml:=fun z=>by have:=h.trd;rw [z,hm] at this;cases this
 exact ⟨ts,hm,Paired.length hp,by rw [Zd xm];exact h.obj,by rw [Zd lm];exact h.lies,by rw [Zd tm];exact h.trd,Paired.mapP h.trs fun a d r=>r.offB (r.ins hm fun _ _ _ z=>nomatch z) h.fm hm nt,⟨ts++[t],by rw [Zi,List.map_append];rfl,Paired.append (Paired.mapP hp fun _ _ r=>off r) (.cons (off ht) .nil)⟩,h.fl,h.ft,h.fm,h.ne,h.fa,h.nd,h.nx,h.free,fun b o e=>by rw [Zd (Zg e (h.free _ h.fm))];exact h.same.at e,Zf7 h.live⟩
def Off(F:Addr->Prop)(H H':Hp):Prop:=∀b o,¬F b->H b=some o->H' b=some o
theorem Off.refl{F:Addr->Prop}{H:Hp}:Off F H H:=fun _ _ _ e=>e
theorem Zok{F:Addr->Prop}{H H':Hp}(s:Same H H'):Off F H H':=fun _ _ _ e=>s.at e
theorem Off.trans{F:Addr->Prop}{H H1 H2:Hp}(a:Off F H H1)(b:Off F H1 H2):Off F H H2:=fun c o n e=>b c o n (a c o n e)
theorem Off.upd{F:Addr->Prop}{H:Hp}{b:Addr}{o:HO}(f:F b):Off F H (upd H b o):=fun c u n e=>by
 have cb:c≠b:=fun z=>n (by rw [z];exact f)
 rw [Zd cb];exact e
def Zog(ad:WAd)(b:Addr):Prop:=b=ad.ld\/b=ad.td\/b=ad.ml\/b∈ad.as
def Zvb(l:List (Str×Str))(n v:Str):List (Str×Str):=l.map fun p=>if p.1=n then (p.1,v) else p
theorem Zuh{l:List (Str×Str)}{n:Str}(h:n∈l.map Prod.fst):∃v,liQ l n=some v:=by
 unfold liQ;obtain ⟨p,hp,e⟩:=List.mem_map.mp h;cases z:l.find? fun p=>decide (p.1=n) with
 | none=>exact absurd (decide_eq_true e) (List.find?_eq_none.mp z p hp)
 | some q=>exact ⟨_,rfl⟩
theorem Zqa{l:List (Str×Str)}{n v:Str}(h:n∈l.map Prod.fst):W2 (Zcr l) (Z8 n) (.str v)=Zcr (Zvb l n v):=by
 obtain ⟨p,hp,e⟩:=List.mem_map.mp h;have hany:((Zcr l).any fun kv=>decide (kv.1=Z8 n))=true:=List.any_eq_true.mpr ⟨(Z8 p.1,.str p.2),List.mem_map.mpr ⟨p,hp,rfl⟩,decide_eq_true (by rw [e])⟩;unfold W2;rw [if_pos hany];unfold Zcr Zvb;rw [List.map_map,List.map_map];refine List.map_congr_left fun q _=>?_
 by_cases z:q.1=n
 ·show (if Z8 q.1=Z8 n then _ else _)=_;rw [if_pos (by rw [z])];simp [z]
 ·show (if Z8 q.1=Z8 n then _ else _)=_;rw [if_neg fun y=>z (Xd _ _ y)];simp [z]
def Zjm(st:WSt)(n v:Str):WSt:=(st.1,Zvb st.2.1 n v,if v≠Ztc st.2.1 n/\n∈Xm st.1 then st.2.2++[(("split",n):Zc)] else st.2.2)
def Zxe(T:Tx K mg):Sp:=fun vs H Q _=>∃(H0:Hp) (F:Addr->Prop) (x tr:Addr) (ad:WAd) (st:WSt) (ps:List Zc) (js:List (Zc×Zc)) (sg:List (Str×Str×Str)) (n v:Str),vs=[.ref x,.str n,.str v]/\WAt T H0 H F x tr ad st/\Yh T H0 tr ps js sg/\Xx ps js sg/\(Xm st.1).length<=400/\st.2.2.length<=400/\st.2.1.length<=400/\(("points",n):Zc)∈ps/\n∈st.2.1.map Prod.fst/\(v = "left" \/v = "right")/\∀H',Off (Zog ad) H H'->WAt T H0 H' F x tr ad (Zjm st n v)->Q .non H'
theorem Zko(T:Tx K mg):Zw P w K mg base CX0 6 T.aB.f T.aB.fd ["self", "points", "lie"] (Zxe T):=by
 refine T.aB.F.okW Ze6 fun a9 A outer s H vs Q E hr h=>?_
 ·obtain ⟨H0,F,x,tr,ad,st,ps,js,sg,n,v,rfl,hw,ht,yv,hz,hy,hl,hm,hn,hv,q⟩:=h;intro X;refine WSs.step (Z4 (Yj (Zkn T) hr T.cR (Zb (Yk (pv 0) rfl) (Zb (pv 1) (Zb (pv 2) Za))))) (exR rfl ⟨x,_,ad.dx,_,_,rfl,hw.obj,T.ac,T.aS,rfl,_,rfl,_,rfl,tr,n,v,ps,js,sg,rfl,ht.mono hw.same,yv,hm,hv,fun H1 s1=>?_⟩);have t6:=hw.mono s1;obtain ⟨l0,hl0⟩:∃l0,liQ st.2.1 n=some l0:=Zuh hn;have hlo:Ztc st.2.1 n=l0:=by unfold Ztc;rw [hl0];rfl
  have E2:Yv (Zcr st.2.1) (Z8 n)=some (.str l0):=by rw [Zu4,hl0];rfl
  let I19:=fun (σ:St) (H2:Hp)=>σ=[some (.ref x),some (.str n),some (.str v)]/\Off (Zog ad) H1 H2/\WAt T H0 H2 F x tr ad (st.1,st.2.1,(Zjm st n v).2.2)
  refine WSs.cut I19 ?_ ?_
  ·refine WS.of (Z0 (PW.pt (Zd9 (Zm (r:=Zgb K) (Zh2 hr) (pv 2) (Zbx (W5 hr) (Yk (pv 0) rfl) (pv 1) (fun _ _=>rfl)) (Zu _)) (Zbp (Yx (Zbx (W5 hr) (Yw (pv 0) T.ac T.cB (Zbf T) hr.m T.aQ.b .nil Yg) (pv 1) (fun _ _=>rfl)))))) Zr Zn) (exR rfl (exR rfl ⟨x,_,ad.dx,_,_,rfl,t6.obj,T.ac,T.bM,rfl,_,rfl,ad.ld,_,rfl,by rw [<-E2];exact Zab.k (k:=Z8 n) t6.lies,.inl ⟨rfl,_,rfl,Yo (fun z=>?_) (fun z=>?_)⟩⟩))
   ·have z:v≠l0:=by simpa using z
    refine (exR rfl ⟨x,ad.dx,_,rfl,t6.obj,rfl,H0,F,x,tr,ad,st,ps,js,sg,rfl,t6,ht,yv,hz,fun ss D kvs H2 R3 _ hT s2 n2 e2=>(exR rfl ⟨D,_,rfl,by rw [<-Zsd hT R3 hm];exact Zab.k (k:=Z8 n) e2,_,rfl,Yo (fun y=>?_) (fun y=>?_)⟩)⟩)
    ·have y:n∈Xm st.1:=of_decide_eq_true y;have A5:=t6.mono s2;refine WSs.last (Z4 (Zcm PySem.F.plainAttrs_list PySem.F.slot_list_append PySem.F.type_list_append Xs (Yk (pv 0) rfl) (Zb (Zj (Zb Zf (Zb (pv 1) Za))) Za))) (exR rfl ⟨x,_,ad.dx,_,_,rfl,A5.obj,T.ac,T.bG,rfl,.inl ⟨rfl,_,SqL.of A5.mis.choose_spec.1⟩,_,rfl,szA,fun t H3 s3 n3 e3=>?_⟩);have D5:=A5.mono s3;obtain ⟨ts,i8,g8,u7⟩:=D5.mish (show Zs H3 t ("split",n) from e3);refine ⟨ad.ml,_,_,rfl,rfl,i8,by rw [List.length_map];exact Zx (by lia),rfl,((Zok s2).trans (Zok s3)).trans (Off.upd (.inr (.inr (.inl rfl)))),?_⟩;unfold Zjm;rw [hlo,if_pos ⟨z,y⟩];exact u7
    ·have y:n∉Xm st.1:=fun e=>y (decide_eq_true e)
     refine ⟨rfl,(Zok s2),?_⟩;unfold Zjm;rw [if_neg fun e=>y e.2];exact t6.mono s2
   ·have z:v=l0:=by simpa using z
    refine ⟨rfl,Off.refl,?_⟩;unfold Zjm;rw [hlo,if_neg fun e=>e.1 z];exact t6
  ·rintro σ H2 ⟨rfl,o2,A5⟩;refine WSs.last (Zbv (W5 hr) (Yk (pv 0) rfl) (pv 1) (pv 2) rfl) (exR rfl (exR rfl ⟨x,_,ad.dx,_,_,rfl,A5.obj,T.ac,T.bM,rfl,_,rfl,ad.ld,_,rfl,Zgk.k (k:=Z8 n) A5.lies (Zx (by unfold Zcr;rw [List.length_map];show st.2.1.length<=1000;lia)),?_⟩));show Q .non (upd H2 ad.ld (.dK (W2 (Zcr st.2.1) (Z8 n) (.str v))));rw [Zqa hn];exact q _ (((Zok s1).trans o2).trans (Off.upd (.inl rfl))) (A5.lie _)
def Zlm(st:WSt)(nm:Str)(n:Nat)(g:Str):WSt:=if g∈Xm st.1 then (st.1,st.2.1,st.2.2++[(("crash",g):Zc)]) else (st.1++[(nm,n,[((g, ""):Zc)])],st.2.1,st.2.2)
theorem Wi.more{T:Tx K mg}{F F':Addr->Prop}{H:Hp}{a:Addr}{d:TrD}(h:Wi T F H a d)(m:∀b,F' b->F b\/H b=none):Wi T F' H a d:=by
 obtain ⟨dx,l,h1,⟨ts,h2,h3⟩,h4⟩:=h;exact ⟨dx,l,h1,⟨ts,h2,h3⟩,fun z=>(m l z).elim h4 fun y=>by rw [y] at h2;cases h2⟩
theorem Zjg{as:List Addr}{ts:List TrD}{nm:Str}(h:as.length=ts.length)(n:nm∉ts.map Prod.fst):Yv (trK as ts) (Z8 nm)=none:=by
 cases z:Yv (trK as ts) (Z8 nm) with
 | none=>rfl
 | some v =>
  have:((trK as ts).find? fun kv=>decide (kv.1=Z8 nm)).isSome:=by
   unfold Yv at z;cases y:(trK as ts).find? fun kv=>decide (kv.1=Z8 nm) with
   | none=>rw [y] at z;cases z
   | some _=>rfl
  obtain ⟨kv,hm,e⟩:=List.find?_isSome.mp this;have hk:kv.1∈(trK as ts).map Prod.fst:=List.mem_map.mpr ⟨kv,hm,rfl⟩;rw [Zn4 h] at hk;obtain ⟨d,hd,e2⟩:=List.mem_map.mp hk;exact absurd (List.mem_map.mpr ⟨d,hd,Xd _ _ (e2.trans (of_decide_eq_true e))⟩) n
theorem Zvn{as:List Addr}{ts:List TrD}{nm:Str}{a:Addr}{d:Nat×List Zc}(h:as.length=ts.length)(n:nm∉ts.map Prod.fst):W2 (trK as ts) (Z8 nm) (.ref a)=trK (as++[a]) (ts++[(nm,d)]):=by
 unfold W2;rw [Zcs,Zjg h n];unfold trK;rw [List.zip_append h,List.map_append]
 rfl
def Zxo(T:Tx K mg):Sp:=fun vs H Q _=>∃(H0:Hp) (F:Addr->Prop) (x tr:Addr) (ad:WAd) (st:WSt) (ps:List Zc) (js:List (Zc×Zc)) (sg:List (Str×Str×Str)) (nm g:Str) (n:Nat),vs=[.ref x,.str nm,.int (n:Int),.str g]/\WAt T H0 H F x tr ad st/\Yh T H0 tr ps js sg/\Xx ps js sg/\(Xm st.1).length<=400/\st.2.2.length<=400/\st.1.length<=400/\Yz nm/\nm∉st.1.map Prod.fst/\(("gate",g):Zc)∈ps/\1<=n/\n<=4 /\
 ∀(H':Hp) (F':Addr->Prop) (ad':WAd),(∀b,F b->F' b)->(∀b,F' b->F b\/H b=none)->(∀b,Zog ad' b->Zog ad b\/H b=none)->Off (Zog ad) H H'->WAt T H0 H' F' x tr ad' (Zlm st nm n g)->Q .non H'
theorem Zb0(T:Tx K mg):Zw P w K mg base CX0 5 T.ar.f T.ar.fd ["self", "name", "long", "gate"] (Zxo T):=by
 refine T.ar.F.okW Ze3 fun a9 A outer s H vs Q E hr h=>?_
 ·obtain ⟨H0,F,x,tr,ad,st,ps,js,sg,nm,g,n,rfl,hw,ht,yv,hz,hy,hl,V0,j8,hg,h1,h4,q⟩:=h;intro X;have g8:=Paired.length hw.trs;refine WSs.step (Z4 (Yj (Wy T) hr T.br (Zb (pv 1) (Zb (Yk (pv 0) rfl) Za)))) (exR rfl (exR rfl ⟨x,_,ad.dx,_,_,rfl,hw.obj,T.ac,T.aq,rfl,nm,ad.td,_,rfl,V0,hw.trd,Zjg g8 j8,fun H1 s1=>?_⟩));have t6:=hw.mono s1;refine WSs.step (Z4 (Yj (Zd2 T) hr T.cy (Zb (Yk (pv 0) rfl) (Zb (pv 3) Za)))) (exR rfl ⟨x,_,ad.dx,_,_,rfl,t6.obj,T.ac,T.aS,rfl,_,rfl,tr,g,ps,js,sg,rfl,ht.mono t6.same,yv,hg,fun H2 s2=>?_⟩);have A5:=t6.mono s2;refine WSs.step (Z4 (Yj (Zhe T) hr T.cI (Zb (pv 2) Za))) (exR rfl ⟨n,rfl,h1,h4,?_⟩);refine WSs.last (Z0 (Yx (Zbx (W5 hr) (Yw (pv 0) T.ac T.cB (Zbf T) hr.m T.aQ.b .nil Yg) (pv 3) (fun _ _=>rfl))) Zr Zr) (exR rfl ⟨x,ad.dx,_,rfl,A5.obj,rfl,H0,F,x,tr,ad,st,ps,js,sg,rfl,A5,ht,yv,hz,fun ss D kvs H3 R3 _ hT s3 n3 e3=>(exR rfl ⟨D,_,rfl,by rw [<-Zsd hT R3 hg];exact Zab.k (k:=Z8 g) e3,_,rfl,Yo (fun y=>?_) (fun y=>?_)⟩)⟩)
  ·have y:g∈Xm st.1:=of_decide_eq_true y;have D5:=A5.mono s3;refine WSs.last (Z4 (Zcm PySem.F.plainAttrs_list PySem.F.slot_list_append PySem.F.type_list_append Xs (Yk (pv 0) rfl) (Zb (Zj (Zb Zf (Zb (pv 3) Za))) Za))) (exR rfl ⟨x,_,ad.dx,_,_,rfl,D5.obj,T.ac,T.bG,rfl,.inl ⟨rfl,_,SqL.of D5.mis.choose_spec.1⟩,_,rfl,szA,fun t H4 s4 n4 e4=>?_⟩);obtain ⟨ts,i8,hln,C4⟩:=(D5.mono s4).mish (show Zs H4 t ("crash",g) from e4);refine ⟨ad.ml,_,_,rfl,rfl,i8,by rw [List.length_map];exact Zx (by lia),q _ F ad (fun _ z=>z) (fun _ z=>.inl z) (fun _ z=>.inl z) ((Zok (s1.trans (s2.trans (s3.trans s4)))).trans (Off.upd (.inr (.inr (.inl rfl))))) ?_⟩;unfold Zlm;rw [if_pos y];exact C4
  ·have y:g∉Xm st.1:=fun e=>y (decide_eq_true e)
   have D5:=A5.mono s3;refine WSs.last (Zbv (W5 hr) (Yk (pv 0) rfl) (pv 1) (Zah (Znu T) T.gb (Zgi T) hr.m rfl T.gv T.aT.b .nil Yg (Zsf T) (Zb (pv 1) (Zb (pv 2) (Zb (pv 3) Za)))) rfl) (exR rfl (exR rfl (exR rfl ⟨nm,n,g,rfl,fun a dx l H4 s4 na nl la ea el=>(exR rfl ⟨x,_,ad.dx,_,_,rfl,s4.at D5.obj,T.ac,T.aq,rfl,_,rfl,ad.td,_,rfl,Zgk.k (k:=Z8 nm) (s4.at D5.trd) ?_,?_⟩)⟩)))
   ·unfold trK;rw [List.length_map,List.length_zip];exact Zx (by lia)
   ·rw [Zvn (d:=(n,[((g, ""):Zc)])) g8 j8];have k7:=s1.trans (s2.trans s3);have u7:=D5.mono s4;have xt:x≠ad.td:=fun z=>hw.nx (by rw [z];exact hw.ft)
    have O2:a≠ad.td:=fun z=>by rw [z,D5.trd] at na;cases na
    have lt:l≠ad.td:=fun z=>by rw [z,D5.trd] at nl;cases nl
    have mt:ad.ml≠ad.td:=fun z=>by
     obtain ⟨ts,hm,_⟩:=hw.mis;rw [z,hw.trd] at hm;cases hm
    have nt:∀xs,HO.dK (trK ad.as st.1) ≠ .tup xs:=fun _ z=>nomatch z
    have nF:∀b,H3 b=none->¬F b:=fun b z f=>by
     obtain ⟨o,y⟩:=D5.live b f;rw [z] at y;cases y
    have more:∀b,(F b\/b=a)->F b\/H3 b=none:=fun b z=>z.imp id fun e=>by rw [e];exact na
    refine q _ (fun b=>F b\/b=a) ⟨ad.dx,ad.ld,ad.td,ad.ml,ad.as++[a]⟩ (fun _ z=>.inl z) (fun b z=>z.imp id fun e=>by rw [e];exact k7.free na) (fun b z=>by
     rcases z with z|z|z|z
     ·exact .inl (.inl z)
     ·exact .inl (.inr (.inl z))
     ·exact .inl (.inr (.inr (.inl z)))
     ·rcases List.mem_append.mp z with z|z
      ·exact .inl (.inr (.inr (.inr z)))
      ·exact .inr (by rw [List.mem_singleton.mp z];exact k7.free na)) ((Zok (k7.trans s4)).trans (Off.upd (.inr (.inl rfl)))) ?_
    unfold Zlm;rw [if_neg y];refine ⟨by rw [Zd xt];exact u7.obj,by rw [Zd hw.ne];exact u7.lies,Zi,?_,u7.mis.offB mt u7.trd nt,.inl hw.fl,.inl hw.ft,.inl hw.fm,hw.ne,?_,?_,?_,?_,?_,?_⟩
    ·refine Paired.append (Paired.mapP D5.trs fun a' d r=>((r.more more).mono s4).offB (r.ins D5.trd fun _ _ _ z=>nomatch z) (.inl hw.ft) u7.trd nt) (.cons ⟨dx,l,by rw [Zd O2];exact ea,el.offB lt u7.trd nt,?_⟩ .nil);rintro (z|z)
     ·exact nF l nl z
     ·exact la z
    ·intro b hb;rcases List.mem_append.mp hb with z|z
     ·exact .inl (hw.fa b z)
     ·exact .inr (List.mem_singleton.mp z)
    ·refine List.nodup_append.mpr ⟨hw.nd,List.pairwise_singleton _ _,fun b hb c hc e=>?_⟩;rw [e,List.mem_singleton.mp hc] at hb;exact nF a na (hw.fa a hb)
    ·rintro (z|z)
     ·exact hw.nx z
     ·rw [<-z,D5.obj] at na;cases na
    ·rintro b (z|z)
     ·exact hw.free b z
     ·rw [z];exact D5.same.free na
    ·intro b o e;rw [Zd (Zg e (hw.free _ hw.ft))];exact u7.same.at e
    ·refine Zf7 fun b f=>?_
     rcases f with f|f
     ·exact u7.live b f
     ·exact ⟨_,by rw [f];exact ea⟩
theorem Zs0{ts:List Addr}{l:List TrD}{i:Nat}{d:TrD}(hl:ts.length=l.length)(nd:(l.map Prod.fst).Nodup)(hd:l[i]? =some d):Zf2 (trK ts l) (Z8 d.1)=trK (ts.eraseIdx i) (l.eraseIdx i):=by
 unfold Zf2 trK
 induction ts generalizing l i with
 | nil=>rfl
 | cons t r ih=>cases l with
  | nil=>cases hl
  | cons c m =>
   rw [List.map_cons,List.nodup_cons] at nd;cases i with
   | zero =>
    cases hd;rw [List.zip_cons_cons,List.map_cons,List.filter_cons,if_neg (by simp),List.eraseIdx_cons_zero,List.eraseIdx_cons_zero];refine List.filter_eq_self.mpr fun q hq=>?_
    obtain ⟨p,hp,rfl⟩:=List.mem_map.mp hq;simpa using fun z:Z8 p.2.1=Z8 d.1=>nd.1 (List.mem_map.mpr ⟨p.2,(List.of_mem_zip hp).2,Xd _ _ z⟩)
   | succ i =>
    have hm:d.1∈m.map Prod.fst:=List.mem_map.mpr ⟨d,List.mem_of_getElem? (show m[i]? =some d from hd),rfl⟩;rw [List.zip_cons_cons,List.map_cons,List.filter_cons,if_pos (by simpa using fun z:Z8 c.1=Z8 d.1=>nd.1 (by rw [Xd _ _ z];exact hm)),List.eraseIdx_cons_succ,List.eraseIdx_cons_succ,List.zip_cons_cons,List.map_cons];congr 1;exact ih (Nat.succ.inj hl) nd.2 hd
theorem Zon{α β:Type}{R:α->β->Prop}{as:List α}{ts:List β}{i:Nat}(h:Paired R as ts):Paired R (as.eraseIdx i) (ts.eraseIdx i):=by
 induction h generalizing i with
 | nil=>exact .nil
 | cons r t ih=>cases i with
  | zero=>exact t
  | succ i=>exact .cons r ih
theorem WAt.leave{T:Tx K mg}{H0 H:Hp}{F:Addr->Prop}{x tr:Addr}{ad:WAd}{st:WSt}{i:Nat}{d:TrD}(h:WAt T H0 H F x tr ad st)(nd:(st.1.map Prod.fst).Nodup)(hd:st.1[i]? =some d):WAt T H0 (upd H ad.td (.dK (Zf2 (trK ad.as st.1) (Z8 d.1)))) F x tr ⟨ad.dx,ad.ld,ad.td,ad.ml,ad.as.eraseIdx i⟩ (st.1.eraseIdx i,st.2.1,st.2.2):=by
 obtain ⟨ms,hm,_⟩:=id h.mis;have nt:∀xs,HO.dK (trK ad.as st.1) ≠ .tup xs:=fun _ z=>nomatch z
 have xt:x≠ad.td:=fun z=>h.nx (by rw [z];exact h.ft)
 exact ⟨by rw [Zd xt];exact h.obj,by rw [Zd h.ne];exact h.lies,by rw [Zi,Zs0 (Paired.length h.trs) nd hd],Zon (Paired.mapP h.trs fun a d r=>r.offB (r.ins h.trd fun _ _ _ z=>nomatch z) h.ft h.trd nt),h.mis.offB (fun z=>by rw [z] at hm;rw [h.trd] at hm;cases hm) h.trd nt,h.fl,h.ft,h.fm,h.ne,fun a z=>h.fa a (List.mem_of_mem_eraseIdx z),h.nd.eraseIdx _,h.nx,h.free,fun b o e=>by rw [Zd (Zg e (h.free _ h.ft))];exact h.same.at e,Zf7 h.live⟩
def Zvm(T:Tx K mg):Sp:=fun vs H Q _=>∃(H0:Hp) (F:Addr->Prop) (x tr:Addr) (ad:WAd) (st:WSt) (i:Nat) (d:TrD),vs=[.ref x,.str d.1]/\WAt T H0 H F x tr ad st/\st.1.length<64/\(st.1.map Prod.fst).Nodup/\st.1[i]? =some d /\
 ∀H',Off (Zog ad) H H'->WAt T H0 H' F x tr ⟨ad.dx,ad.ld,ad.td,ad.ml,ad.as.eraseIdx i⟩ (st.1.eraseIdx i,st.2.1,st.2.2)->Q .non H'
theorem Zei(T:Tx K mg):Zw P w K mg base CX0 3 T.ao.f T.ao.fd ["self", "name"] (Zvm T):=by
 refine T.ao.F.okW Zd8 fun a9 A outer s H vs Q E hr h=>?_
 ·obtain ⟨H0,F,x,tr,ad,st,i,d,rfl,hw,hl,nd,hd,q⟩:=h;intro X;obtain ⟨a,ha,dx,l0,ho,_,_⟩:=Paired.getL hw.trs hd;refine WSs.last (Z4 (Zne (Yk (pv 0) rfl) (Yk (Yu (pv 0) T.ac T.aD (Zaj T) hr.m T.ae.b .nil Yg (Zb (pv 1) Za)) rfl) ⟨rfl,rfl,rfl,rfl⟩)) (exR rfl ⟨x,_,ad.dx,_,_,rfl,hw.obj,T.ac,T.aq,rfl,ad.td,rfl,.inl ⟨_,.inl hw.trd⟩,_,rfl,x,ad.dx,_,rfl,hw.obj,rfl,_,rfl,H0,F,x,tr,ad,st,i,a,d,rfl,hw,hl,nd,ha,hd,fun H1 s1=>⟨a,_,dx,_,_,rfl,s1.at ho,T.cP,T.dh,rfl,_,Z8 d.1,.ref a,s1.at hw.trd,rfl,Zl9 nd ha hd,?_⟩⟩);exact q _ ((Zok s1).trans (Off.upd (.inr (.inl rfl)))) ((hw.mono s1).leave nd hd)
def Zuv(T:Tx K mg):Sp:=fun vs H Q _=>∃(H0:Hp) (F:Addr->Prop) (x tr:Addr) (ad:WAd) (st:WSt),vs=[.ref x]/\WAt T H0 H F x tr ad st/\∀D H',Same H H'->H D=none->H' D=some (.dK (Zcr st.2.1))->Q (.ref D) H'
theorem Ze7(T:Tx K mg):Zw P w K mg base CX0 1 T.bh.f T.bh.fd ["self"] (Zuv T):=by
 refine T.bh.F.okW Zkf fun a9 A outer s H vs Q E hr h=>?_
 ·obtain ⟨H0,F,x,tr,ad,st,rfl,hw,q⟩:=h;intro X;exact WSs.last (Zt (Xh (r:=Zv0) Zot (by rfl) T.eE PyProof.Rows.boot_dict (Zb (Yk (pv 0) rfl) Za))) (exR rfl ⟨x,_,ad.dx,_,_,rfl,hw.obj,T.ac,T.bM,rfl,ad.ld,_,rfl,.inl hw.lies,fun D H1 s1 n1 e1=>q D H1 s1 n1 e1⟩)
def Odd(v:V)(S:Str->Prop):Prop:=W4 v=true/\∀ss:List Str,(∀n∈ss,S n)->inV v (ss.map V.str)=false
theorem Zae{n:Str}{S:Str->Prop}(h:¬S n):Odd (.str n) S:=⟨rfl,fun ss hs=>by rw [Wv];exact decide_eq_false fun z=>h (hs n z)⟩
theorem Zmz{v:V}{S:Str->Prop}(hf:W4 v=true)(h:∀n,eqV (.str n) v=false):Odd v S:=⟨hf,fun ss _=>by
 unfold inV;rw [List.any_map];exact List.any_eq_false.mpr fun n _=>by show ¬eqV (.str n) v=true;rw [h n];exact Bool.false_ne_true⟩
def Zwk(v:V):Prop:=(∃i:Int,v=.int i/\¬(1<=i/\i<=4))\/(∃b,v=.bl b)\/v=.non\/∃s,v=.str s
def Zqb(T:Tx K mg):Sp:=fun vs H _ E=>∃(v:V) (d:Addr) (kvs:List (Key×V)),vs=[v,.ref d]/\H d=some (.dK kvs)/\(Zjl K H v false\/∃nm:Str,v=.str nm/\Yz nm/\(Yv kvs (Z8 nm)).isSome=true)/\∀H',Same H H'->E (.ref T.ax) none H'
theorem Zh8(T:Tx K mg):Zw P w K mg base (CXF P w) 2 T.au.f T.au.fd ["name", "known"] (Zqb T):=by
 refine T.au.F.okX Zd7 (fun vs H Q E h=>?_) (fun a9 A outer s H vs Q E hr h=>?_)
 ·obtain ⟨v,d,kvs,rfl,_⟩:=h
  rfl
 ·obtain ⟨v,d,kvs,rfl,hd,hv,q⟩:=h;rcases hv with hA|⟨nm,rfl,hn,hs⟩
  ·exact WSs.step (Z0 (Xb (Yx (Yj (Za7 T) hr T.cD (Zb (pv 0) Za)))) Zr Zn) (exR rfl ⟨_,false,rfl,hA,fun H1 s1=>(exR rfl (Zd3 (WSs.last (X5 T.cQ PySem.F.excBase_ValueError rfl (Zb Zf Za)) ⟨szA,q H1 s1⟩)))⟩)
  ·refine WSs.step (Z0 (Xb (Yx (Yj (Za7 T) hr T.cD (Zb (pv 0) Za)))) Zr Zn) (exR rfl ⟨_,true,rfl,hn.asked,fun H1 s1=>(exR rfl (Zeq ?_))⟩);refine WSs.last (Z0 (Zm (r:=Zh3 K) (Zjb hr) (pv 0) (pv 1) (by with_unfolding_all rfl)) Zr Zn) (exR rfl (exR rfl (.inr (.inl ⟨d,_,rfl,Zab.k (k:=Z8 nm) (s1.at hd),_,rfl,?_⟩))));rw [hs];exact Zd3 (WSs.last (X5 T.cQ PySem.F.excBase_ValueError rfl (Zb Zf Za)) ⟨szA,q H1 s1⟩)
theorem Zit(T:Tx K mg){k:Nat}(h:2<=k:=by decide):Zw P w K mg base (CXF P w) k T.au.f T.au.fd ["name", "known"] (Zqb T):=(Zh8 T).mono h
def Zik(T:Tx K mg)(kd:Str)(c:Addr):Sp:=fun vs H _ E=>∃(x:Addr) (v:V) (ps:List Zc) (js:List (Zc×Zc)) (sg:List (Str×Str×Str)),vs=[.ref x,v]/\Yh T H x ps js sg/\Xx ps js sg/\Odd v (fun n=>((kd,n):Zc)∈ps)/\∀H',Same H H'->E (.ref c) none H'
theorem Zh5(T:Tx K mg):Zw P w K mg base (CXF P w) 4 T.av.f T.av.fd ["tracks", "gate"] (Zik T "gate" T.aL):=by
 refine T.av.F.okX Zeb (fun vs H Q E h=>?_) (fun a9 A outer s H vs Q E hr h=>?_)
 ·obtain ⟨x,v,ps,js,sg,rfl,_⟩:=h
  rfl
 ·obtain ⟨x,v,ps,js,sg,rfl,tr,yv,hv,q⟩:=h;refine WSs.last (Z0 (Zm (r:=Wg K) (Wz hr) (pv 1) (Yj (Zhh T) hr T.dw (Zb (pv 0) Za)) (by with_unfolding_all rfl)) Zr Zn) (exR rfl (exR rfl ⟨x,ps,js,sg,rfl,tr,yv,fun gs nd hg hl l H1 s1 n1 e1=>.inl ⟨l,_,rfl,.inl (SqL.of e1),hv.1,Xt _,_,rfl,?_⟩⟩));rw [if_pos rfl,hv.2 gs fun n z=>(hg n).mp z];exact Zd3 (WSs.last (X5 T.fP PySem.F.excBase_ValueError rfl (Zb Zf Za)) ⟨szA,q H1 s1⟩)
theorem Zio(T:Tx K mg){k:Nat}(h:4<=k:=by decide):Zw P w K mg base (CXF P w) k T.av.f T.av.fd ["tracks", "gate"] (Zik T "gate" T.aL):=(Zh5 T).mono h
theorem Zgg(T:Tx K mg):Zw P w K mg base (CXF P w) 4 T.ak.f T.ak.fd ["tracks", "points"] (Zik T "points" T.ax):=by
 refine T.ak.F.okX Zcy (fun vs H Q E h=>?_) (fun a9 A outer s H vs Q E hr h=>?_)
 ·obtain ⟨x,v,ps,js,sg,rfl,_⟩:=h
  rfl
 ·obtain ⟨x,v,ps,js,sg,rfl,tr,yv,hv,q⟩:=h;refine WSs.last (Z0 (Zm (r:=Wg K) (Wz hr) (pv 1) (Yj (Zdl T) hr T.cL (Zb (pv 0) Za)) (by with_unfolding_all rfl)) Zr Zn) (exR rfl (exR rfl ⟨x,ps,js,sg,rfl,tr,yv,fun gs nd hg hl l H1 s1 n1 e1=>.inl ⟨l,_,rfl,.inl (SqL.of e1),hv.1,Xt _,_,rfl,?_⟩⟩));rw [if_pos rfl,hv.2 gs fun n z=>(hg n).mp z];exact Zd3 (WSs.last (X5 T.cQ PySem.F.excBase_ValueError rfl (Zb Zf Za)) ⟨szA,q H1 s1⟩)
theorem Zg9(T:Tx K mg){k:Nat}(h:4<=k:=by decide):Zw P w K mg base (CXF P w) k T.ak.f T.ak.fd ["tracks", "points"] (Zik T "points" T.ax):=(Zgg T).mono h
def Zsy(T:Tx K mg):Sp:=fun vs H _ E=>∃v,vs=[v]/\Zwk v/\E (.ref T.aG) none H
theorem Zfx(T:Tx K mg):Zw P w K mg base (CXF P w) 1 T.aj.f T.aj.fd ["long"] (Zsy T):=by
 refine T.aj.F.okX Zcl (fun vs H Q E h=>?_) (fun a9 A outer s H vs Q E hr h=>?_)
 ·obtain ⟨v,rfl,_⟩:=h
  rfl
 ·obtain ⟨v,rfl,hv,q⟩:=h;rcases hv with ⟨i,rfl,hi⟩|⟨b,rfl⟩|rfl|⟨t,rfl⟩
  ·refine WSs.last (Z0 (PW.pt (Zbm (Xb (Yx (Zq (r:=Zdc K) Yt (by rfl) T.af PyProof.Rows.boot_isinstance (Zb (pv 0) (Zb (Xw (v:=.ty "int") (by rfl) T.dX PyProof.Rows.boot_int rfl) Za))))) (Zbm (Yx (Zq (r:=Zdc K) Yt (by rfl) T.af PyProof.Rows.boot_isinstance (Zb (pv 0) (Zb (Xw (v:=.ty "bool") (by rfl) T.dF PyProof.Rows.boot_bool rfl) Za)))) (Zcb (Xb (Zej Zfa Zfa Ze (pv 0) (Wm (by rfl) T.aX))))))) Zr Zn) (exR rfl ⟨_,_,_,_,rfl,Xo.int _,.inl (exR rfl T.gT),_,rfl,Zeq (exR rfl ⟨_,_,_,_,rfl,Xo.int _,.inl (exR rfl T.gU),_,rfl,Zeq (exR rfl (exQ rfl rfl (exR rfl (Yo (fun y=>(exQ rfl rfl (exR rfl ?_))) (fun y=>?_)))))⟩)⟩);rotate_left
   ·exact ⟨_,rfl,Zd3 (WSs.last (X5 T.cE PySem.F.excBase_ValueError rfl (Zb Zf Za)) ⟨szA,q⟩)⟩
   have y:1<=i:=of_decide_eq_true y;rw [decide_eq_false (show ¬i<=4 from fun z=>hi ⟨y,z⟩)];exact Zd3 (WSs.last (X5 T.cE PySem.F.excBase_ValueError rfl (Zb Zf Za)) ⟨szA,q⟩)
  ·exact WSs.last (Z0 (PW.pt (Zbm (Xb (Yx (Zq (r:=Zdc K) Yt (by rfl) T.af PyProof.Rows.boot_isinstance (Zb (pv 0) (Zb (Xw (v:=.ty "int") (by rfl) T.dX PyProof.Rows.boot_int rfl) Za))))) (Zbm (Yx (Zq (r:=Zdc K) Yt (by rfl) T.af PyProof.Rows.boot_isinstance (Zb (pv 0) (Zb (Xw (v:=.ty "bool") (by rfl) T.dF PyProof.Rows.boot_bool rfl) Za)))) (Zcb (Xb (Zej Zfa Zfa Ze (pv 0) (Wm (by rfl) T.aX))))))) Zr Zn) (exR rfl ⟨_,_,_,_,rfl,Xo.bl _,.inl (exR rfl T.gZ),_,rfl,Zeq (exR rfl ⟨_,_,_,_,rfl,Xo.bl _,.inl (exR rfl T.hU),_,rfl,Zd3 (WSs.last (X5 T.cE PySem.F.excBase_ValueError rfl (Zb Zf Za)) ⟨szA,q⟩)⟩)⟩)
  ·exact WSs.last (Z0 (PW.pt (Zbm (Xb (Yx (Zq (r:=Zdc K) Yt (by rfl) T.af PyProof.Rows.boot_isinstance (Zb (pv 0) (Zb (Xw (v:=.ty "int") (by rfl) T.dX PyProof.Rows.boot_int rfl) Za))))) (Zbm (Yx (Zq (r:=Zdc K) Yt (by rfl) T.af PyProof.Rows.boot_isinstance (Zb (pv 0) (Zb (Xw (v:=.ty "bool") (by rfl) T.dF PyProof.Rows.boot_bool rfl) Za)))) (Zcb (Xb (Zej Zfa Zfa Ze (pv 0) (Wm (by rfl) T.aX))))))) Zr Zn) (exR rfl ⟨_,_,_,_,rfl,Xo.non,.inl (exR rfl T.hV),_,rfl,Zd3 (WSs.last (X5 T.cE PySem.F.excBase_ValueError rfl (Zb Zf Za)) ⟨szA,q⟩)⟩)
  ·exact WSs.last (Z0 (PW.pt (Zbm (Xb (Yx (Zq (r:=Zdc K) Yt (by rfl) T.af PyProof.Rows.boot_isinstance (Zb (pv 0) (Zb (Xw (v:=.ty "int") (by rfl) T.dX PyProof.Rows.boot_int rfl) Za))))) (Zbm (Yx (Zq (r:=Zdc K) Yt (by rfl) T.af PyProof.Rows.boot_isinstance (Zb (pv 0) (Zb (Xw (v:=.ty "bool") (by rfl) T.dF PyProof.Rows.boot_bool rfl) Za)))) (Zcb (Xb (Zej Zfa Zfa Ze (pv 0) (Wm (by rfl) T.aX))))))) Zr Zn) (exR rfl ⟨_,_,_,_,rfl,Xo.str _,.inl (exR rfl T.hW),_,rfl,Zd3 (WSs.last (X5 T.cE PySem.F.excBase_ValueError rfl (Zb Zf Za)) ⟨szA,q⟩)⟩)
theorem Zha(T:Tx K mg){k:Nat}(h:1<=k:=by decide):Zw P w K mg base (CXF P w) k T.aj.f T.aj.fd ["long"] (Zsy T):=(Zfx T).mono h
def Zpy(T:Tx K mg):Sp:=fun vs H _ E=>∃(x:Addr) (v vl:V) (ps:List Zc) (js:List (Zc×Zc)) (sg:List (Str×Str×Str)),vs=[.ref x,v,vl]/\Yh T H x ps js sg/\Xx ps js sg/\(Odd v (fun n=>(("points",n):Zc)∈ps)\/∃g:Str,v=.str g/\(("points",g):Zc)∈ps/\Odd vl (fun n=>n∈Zks "points"))/\∀H',Same H H'->E (.ref T.ax) none H'
theorem Zix(T:Tx K mg):Zw P w K mg base (CXF P w) 5 T.aA.f T.aA.fd ["tracks", "points", "lie"] (Zpy T):=by
 refine T.aA.F.okX Ze8 (fun vs H Q E h=>?_) (fun a9 A outer s H vs Q E hr h=>?_)
 ·obtain ⟨x,v,vl,ps,js,sg,rfl,_⟩:=h
  rfl
 ·obtain ⟨x,v,vl,ps,js,sg,rfl,tr,yv,hv,q⟩:=h;rcases hv with hv|⟨g,rfl,hm,hl⟩
  ·exact WSs.step (Z4 (Xv (Zg9 T) hr rfl T.bS T.ak.F.kp T.ak.b .nil Wr (Zb (pv 0) (Zb (pv 1) Za)))) (exR rfl (exR rfl ⟨x,v,ps,js,sg,rfl,tr,yv,hv,q⟩))
  obtain ⟨dx,po,jo,so,si,kp,ks,kj,ko,h1,_⟩:=tr.ex;refine WSs.step (Z4 (Yj (Zcp T) hr T.bS (Zb (pv 0) (Zb (pv 1) Za)))) (exR rfl (exR rfl ⟨x,g,ps,js,sg,rfl,tr,yv,hm,fun H1 s1=>?_⟩));obtain ⟨y,C,hp,hC,⟨dy,hO⟩⟩:=(tr.mono s1).part yv hm;obtain ⟨f1,d1,m1,b1,g1⟩:=hC.lies;refine WSs.last (Z0 (Zm (r:=Wg K) (Wz hr) (pv 2) Zvd (by with_unfolding_all rfl)) Zr Zn) (exR rfl (WE.of (Yw (Yu (pv 0) T.aF T.bF (Zcq T) hr.m T.am.b .nil Yg (Zb (pv 1) Za)) hC.cls.1 m1 (g1 _ _ _ 4 (by decide)) hr b1 .nil Yg) (exR rfl ⟨x,dx,_,rfl,s1.at h1,rfl,_,rfl,x,y,g,rfl,hp,yv.name _ hm,fun H2 s2=>⟨y,dy,_,rfl,s2.at hO,rfl,_,rfl,fun p H3 s3 n3 e3=>.inl ⟨p,_,rfl,.inl (SqL.of e3),hl.1,Xt _,_,rfl,?_⟩⟩⟩)));rw [if_pos rfl,hl.2 _ fun n z=>z];exact Zd3 (WSs.last (X5 T.cQ PySem.F.excBase_ValueError rfl (Zb Zf Za)) ⟨szA,q H3 (s1.trans (s2.trans s3))⟩)
theorem Zke(T:Tx K mg){k:Nat}(h:5<=k:=by decide):Zw P w K mg base (CXF P w) k T.aA.f T.aA.fd ["tracks", "points", "lie"] (Zpy T):=(Zix T).mono h
def Ze1(T:Tx K mg)(n:Nat):Sp:=fun vs H _ E=>∃(H0:Hp) (F:Addr->Prop) (x tr:Addr) (ad:WAd) (st:WSt) (v:V) (us:List V),vs=.ref x ::v ::us/\us.length=n/\WAt T H0 H F x tr ad st/\st.1.length<64/\Odd v (fun m=>m∈st.1.map Prod.fst)/\∀H',Same H H'->E (.ref T.aI) none H'
theorem Zdx(T:Tx K mg):Zw P w K mg base (CXF P w) 2 T.ae.f T.ae.fd ["self", "name"] (Ze1 T 0):=by
 refine T.ae.F.okX Zam (fun vs H Q E h=>?_) (fun a9 A outer s H vs Q E hr h=>?_)
 ·obtain ⟨H0,F,x,tr,ad,st,v,us,rfl,hu,_⟩:=h;rw [List.length_cons,List.length_cons,hu];rfl
 ·obtain ⟨H0,F,x,tr,ad,st,v,us,rfl,hu,hw,hl,hv,q⟩:=h;obtain rfl:=List.length_eq_zero_iff.mp hu;refine WSs.step (Z0 (Zm (r:=Wg K) (Wz hr) (pv 1) (Yw (pv 0) T.ac T.aV (Xi T) hr.m T.aw.b .nil Yg) (by with_unfolding_all rfl)) Zr Zn) (exR rfl (exR rfl ⟨x,ad.dx,_,rfl,hw.obj,rfl,H0,F,x,tr,ad,st,rfl,hw,hl,fun ss hp hs l H1 s1 n1 e1=>.inl ⟨l,_,rfl,.inl (SqL.of e1),hv.1,Xt _,_,rfl,?_⟩⟩));rw [if_pos rfl,hv.2 ss fun n z=>hp.mem_iff.mp z];exact Zd3 (WSs.last (X5 T.fB PySem.F.excBase_ValueError rfl (Zb Zf Za)) ⟨szA,q H1 s1⟩)
theorem Xk(T:Tx K mg){k:Nat}(h:2<=k:=by decide):Zw P w K mg base (CXF P w) k T.ae.f T.ae.fd ["self", "name"] (Ze1 T 0):=(Zdx T).mono h
theorem Zhz(T:Tx K mg):Zw P w K mg base (CXF P w) 3 T.ap.f T.ap.fd ["self", "name"] (Ze1 T 0):=by
 refine T.ap.F.okX Zd5 (fun vs H Q E h=>?_) (fun a9 A outer s H vs Q E hr h=>?_)
 ·obtain ⟨H0,F,x,tr,ad,st,v,us,rfl,hu,_⟩:=h;rw [List.length_cons,List.length_cons,hu];rfl
 ·obtain ⟨H0,F,x,tr,ad,st,v,us,rfl,hu,hw,hl,hv,q⟩:=h;obtain rfl:=List.length_eq_zero_iff.mp hu;exact WSs.last (Zt (Xh (r:=Zpv K) Zff (by rfl) T.ez PyProof.Rows.boot_list (Zb (Yk (Yu (pv 0) T.ac T.aD (Xk T) hr T.ae.b .nil Wr (Zb (pv 1) Za)) rfl) Za))) (exR rfl ⟨x,ad.dx,_,rfl,hw.obj,rfl,_,rfl,H0,F,x,tr,ad,st,v,[],rfl,rfl,hw,hl,hv,q⟩)
theorem Zj8(T:Tx K mg){k:Nat}(h:3<=k:=by decide):Zw P w K mg base (CXF P w) k T.ap.f T.ap.fd ["self", "name"] (Ze1 T 0):=(Zhz T).mono h
theorem Zh9(T:Tx K mg):Zw P w K mg base (CXF P w) 3 T.aO.f T.aO.fd ["self", "name"] (Ze1 T 0):=by
 refine T.aO.F.okX Zer (fun vs H Q E h=>?_) (fun a9 A outer s H vs Q E hr h=>?_)
 ·obtain ⟨H0,F,x,tr,ad,st,v,us,rfl,hu,_⟩:=h;rw [List.length_cons,List.length_cons,hu];rfl
 ·obtain ⟨H0,F,x,tr,ad,st,v,us,rfl,hu,hw,hl,hv,q⟩:=h;obtain rfl:=List.length_eq_zero_iff.mp hu;exact WSs.step (Zv (i:=2) Zer.nd (Yu (pv 0) T.ac T.aD (Xk T) hr T.ae.b .nil Wr (Zb (pv 1) Za))) (exR rfl ⟨x,ad.dx,_,rfl,hw.obj,rfl,_,rfl,H0,F,x,tr,ad,st,v,[],rfl,rfl,hw,hl,hv,q⟩)
theorem Zji(T:Tx K mg){k:Nat}(h:3<=k:=by decide):Zw P w K mg base (CXF P w) k T.aO.f T.aO.fd ["self", "name"] (Ze1 T 0):=(Zh9 T).mono h
theorem Zid(T:Tx K mg):Zw P w K mg base (CXF P w) 3 T.ao.f T.ao.fd ["self", "name"] (Ze1 T 0):=by
 refine T.ao.F.okX Zd8 (fun vs H Q E h=>?_) (fun a9 A outer s H vs Q E hr h=>?_)
 ·obtain ⟨H0,F,x,tr,ad,st,v,us,rfl,hu,_⟩:=h;rw [List.length_cons,List.length_cons,hu];rfl
 ·obtain ⟨H0,F,x,tr,ad,st,v,us,rfl,hu,hw,hl,hv,q⟩:=h;obtain rfl:=List.length_eq_zero_iff.mp hu;exact WSs.last (Z4 (Zne (Yk (pv 0) rfl) (Yk (Yu (pv 0) T.ac T.aD (Xk T) hr T.ae.b .nil Wr (Zb (pv 1) Za)) rfl) ⟨rfl,rfl,rfl,rfl⟩)) (exR rfl ⟨x,_,ad.dx,_,_,rfl,hw.obj,T.ac,T.aq,rfl,ad.td,rfl,.inl ⟨_,.inl hw.trd⟩,_,rfl,x,ad.dx,_,rfl,hw.obj,rfl,_,rfl,H0,F,x,tr,ad,st,v,[],rfl,rfl,hw,hl,hv,q⟩)
theorem Zjt(T:Tx K mg){k:Nat}(h:3<=k:=by decide):Zw P w K mg base (CXF P w) k T.ao.f T.ao.fd ["self", "name"] (Ze1 T 0):=(Zid T).mono h
theorem Zma(T:Tx K mg):Zw P w K mg base (CXF P w) 3 T.bw.f T.bw.fd ["self", "name", "shows"] (Ze1 T 1):=by
 refine T.bw.F.okX Zhm (fun vs H Q E h=>?_) (fun a9 A outer s H vs Q E hr h=>?_)
 ·obtain ⟨H0,F,x,tr,ad,st,v,us,rfl,hu,_⟩:=h;rw [List.length_cons,List.length_cons,hu];rfl
 ·obtain ⟨H0,F,x,tr,ad,st,v,us,rfl,hu,hw,hl,hv,q⟩:=h;obtain ⟨u,rfl⟩:=List.length_eq_one_iff.mp hu;exact WSs.step (Zv (i:=3) Zhm.nd (Yu (pv 0) T.ac T.aD (Xk T) hr T.ae.b .nil Wr (Zb (pv 1) Za))) (exR rfl ⟨x,ad.dx,_,rfl,hw.obj,rfl,_,rfl,H0,F,x,tr,ad,st,v,[],rfl,rfl,hw,hl,hv,q⟩)
theorem Zns(T:Tx K mg){k:Nat}(h:3<=k:=by decide):Zw P w K mg base (CXF P w) k T.bw.f T.bw.fd ["self", "name", "shows"] (Ze1 T 1):=(Zma T).mono h
def Zwe(T:Tx K mg)(H:Hp)(ts:List TrD)(ps:List Zc)(v vl vg:V)(c:Addr):Prop:=(c=T.ax/\(Zjl K H v false\/∃nm:Str,v=.str nm/\Yz nm/\nm∈ts.map Prod.fst)) \/
 ∃nm:Str,v=.str nm/\Yz nm/\nm∉ts.map Prod.fst/\((c=T.aL/\Odd vg (fun n=>(("gate",n):Zc)∈ps))\/∃g:Str,vg=.str g/\(("gate",g):Zc)∈ps/\c=T.aG/\Zwk vl)
def Zpq(T:Tx K mg):Sp:=fun vs H _ E=>∃(H0:Hp) (F:Addr->Prop) (x tr:Addr) (ad:WAd) (st:WSt) (ps:List Zc) (js:List (Zc×Zc)) (sg:List (Str×Str×Str)) (v vl vg:V) (c:Addr),vs=[.ref x,v,vl,vg]/\WAt T H0 H F x tr ad st/\Yh T H0 tr ps js sg/\Xx ps js sg/\(st.1.map Prod.fst).Nodup/\Zwe T H st.1 ps v vl vg c/\∀H',Same H H'->E (.ref c) none H'
theorem Zja(T:Tx K mg):Zw P w K mg base (CXF P w) 5 T.ar.f T.ar.fd ["self", "name", "long", "gate"] (Zpq T):=by
 refine T.ar.F.okX Ze3 (fun vs H Q E h=>?_) (fun a9 A outer s H vs Q E hr h=>?_)
 ·obtain ⟨H0,F,x,tr,ad,st,ps,js,sg,v,vl,vg,c,rfl,_⟩:=h
  rfl
 ·obtain ⟨H0,F,x,tr,ad,st,ps,js,sg,v,vl,vg,c,rfl,hw,ht,yv,nd,hR,q⟩:=h;have g8:=Paired.length hw.trs;rcases hR with ⟨rfl,hn⟩|⟨nm,rfl,V0,j8,hR⟩
  ·refine WSs.step (Z4 (Xv (Zit T) hr rfl T.br T.au.F.kp T.au.b .nil Wr (Zb (pv 1) (Zb (Yk (pv 0) rfl) Za)))) (exR rfl (exR rfl ⟨x,_,ad.dx,_,_,rfl,hw.obj,T.ac,T.aq,rfl,v,ad.td,_,rfl,hw.trd,hn.imp_right fun ⟨nm,e,h1,h2⟩=>⟨nm,e,h1,?_⟩,q⟩));obtain ⟨d,hd,rfl⟩:=List.mem_map.mp h2;obtain ⟨i,hi⟩:=List.mem_iff_getElem?.mp hd;obtain ⟨a,ha,_⟩:=Paired.getL hw.trs hi;rw [Zl9 nd ha hi];rfl
  refine WSs.step (Z4 (Yj (Wy T) hr T.br (Zb (pv 1) (Zb (Yk (pv 0) rfl) Za)))) (exR rfl (exR rfl ⟨x,_,ad.dx,_,_,rfl,hw.obj,T.ac,T.aq,rfl,nm,ad.td,_,rfl,V0,hw.trd,Zjg g8 j8,fun H1 s1=>?_⟩));have t6:=hw.mono s1;rcases hR with ⟨rfl,ho⟩|⟨g,rfl,hg,rfl,ho⟩
  ·exact WSs.step (Z4 (Xv (Zio T) hr rfl T.cy T.av.F.kp T.av.b .nil Wr (Zb (Yk (pv 0) rfl) (Zb (pv 3) Za)))) (exR rfl ⟨x,_,ad.dx,_,_,rfl,t6.obj,T.ac,T.aS,rfl,_,rfl,tr,vg,ps,js,sg,rfl,ht.mono t6.same,yv,ho,fun H2 s2=>q H2 (s1.trans s2)⟩)
  refine WSs.step (Z4 (Yj (Zd2 T) hr T.cy (Zb (Yk (pv 0) rfl) (Zb (pv 3) Za)))) (exR rfl ⟨x,_,ad.dx,_,_,rfl,t6.obj,T.ac,T.aS,rfl,_,rfl,tr,g,ps,js,sg,rfl,ht.mono t6.same,yv,hg,fun H2 s2=>?_⟩);exact WSs.step (Z4 (Xv (Zha T) hr rfl T.cI T.aj.F.kp T.aj.b .nil Wr (Zb (pv 2) Za))) (exR rfl ⟨vl,rfl,ho,q H2 (s1.trans s2)⟩)
theorem Zkl(T:Tx K mg){k:Nat}(h:5<=k:=by decide):Zw P w K mg base (CXF P w) k T.ar.f T.ar.fd ["self", "name", "long", "gate"] (Zpq T):=(Zja T).mono h
def Zps(T:Tx K mg):Sp:=fun vs H _ E=>∃(H0:Hp) (F:Addr->Prop) (x tr:Addr) (ad:WAd) (st:WSt) (ps:List Zc) (js:List (Zc×Zc)) (sg:List (Str×Str×Str)) (v vl:V),vs=[.ref x,v,vl]/\WAt T H0 H F x tr ad st/\Yh T H0 tr ps js sg/\Xx ps js sg/\(Odd v (fun n=>(("points",n):Zc)∈ps)\/∃g:Str,v=.str g/\(("points",g):Zc)∈ps/\Odd vl (fun n=>n∈Zks "points"))/\∀H',Same H H'->E (.ref T.ax) none H'
theorem Zjz(T:Tx K mg):Zw P w K mg base (CXF P w) 6 T.aB.f T.aB.fd ["self", "points", "lie"] (Zps T):=by
 refine T.aB.F.okX Ze6 (fun vs H Q E h=>?_) (fun a9 A outer s H vs Q E hr h=>?_)
 ·obtain ⟨H0,F,x,tr,ad,st,ps,js,sg,v,vl,rfl,_⟩:=h
  rfl
 ·obtain ⟨H0,F,x,tr,ad,st,ps,js,sg,v,vl,rfl,hw,ht,yv,hR,q⟩:=h;exact WSs.step (Z4 (Xv (Zke T) hr rfl T.cR T.aA.F.kp T.aA.b .nil Wr (Zb (Yk (pv 0) rfl) (Zb (pv 1) (Zb (pv 2) Za))))) (exR rfl ⟨x,_,ad.dx,_,_,rfl,hw.obj,T.ac,T.aS,rfl,_,rfl,_,rfl,tr,v,vl,ps,js,sg,rfl,ht.mono hw.same,yv,hR,q⟩)
theorem Zkh(T:Tx K mg){k:Nat}(h:6<=k:=by decide):Zw P w K mg base (CXF P w) k T.aB.f T.aB.fd ["self", "points", "lie"] (Zps T):=(Zjz T).mono h
def clR(T:Tx K mg)(c:Nat):Addr:=if c=0 then T.ax else if c=1 then T.aL else if c=2 then T.aG else T.aI
def wdR(c:Nat):Str:=if c=0 then "name" else if c=1 then "end" else if c=2 then "many" else "train"
structure K4(T:Tx K mg)(C:Addr)(b:Nat->Bool):Prop where
 g:XG K C
 i0:kitOne K (.ref C) (.ref T.ax)=some (b 0)
 i1:kitOne K (.ref C) (.ref T.aL)=some (b 1)
 i2:kitOne K (.ref C) (.ref T.aG)=some (b 2)
 i3:kitOne K (.ref C) (.ref T.aI)=some (b 3)
theorem k4(T:Tx K mg):∀c,c<4->K4 T (clR T c) (fun i=>decide (i=c))/\PySem.W.kitCls K (.ref (clR T c)) (.ref T.bg)=some true
 | 0,_=>⟨⟨T.fF,T.hZ,T.ia,T.ib,T.ic⟩,T.c0⟩
 | 1,_=>⟨⟨T.fQ,T.gN,T.gB,T.gO,T.gj⟩,T.c1⟩
 | 2,_=>⟨⟨T.fG,T.gR,T.ig,T.ii,T.ij⟩,T.c2⟩
 | 3,_=>⟨⟨T.fH,T.ik,T.il,T.io,T.ip⟩,T.c3⟩
 | _+4,h=>absurd h (by lia)
def Znx(P:Program)(w:World)(base:Heap)(T:Tx K mg):Sp:=fun vs H Q _=>∃(f:Addr) (c:Nat),vs=[.ref f]/\c<4/\FnO H f/\(∀Q',Zms P w K mg base 7 f H Q' (fun cls dx H'=>cls=.ref (clR T c)/\dx=none/\Same H H'))/\∀H',Same H H'->Q (.str (wdR c)) H'
theorem Xr(T:Tx K mg):Zw P w K mg base CX0 8 T.ai.f T.ai.fd ["_law_doing"] (Znx P w base T):=by
 refine T.ai.F.okW Za8 fun a9 A outer s H vs Q E hr h=>?_
 ·obtain ⟨f,c,rfl,hc,hf,hd,q⟩:=h;intro X;obtain ⟨k,kc⟩:=k4 T c hc;let I20:=fun (_:St) (_:Hp)=>False
  refine WSs.cut I20 (WS.tryAs (x := "YardError") (n := "e") (B:=T.bg) (i:=1) (Ex:=fun cls dx H'=>cls=.ref (clR T c)/\dx=none/\Same H H') (R:=fun C dx H'=>C=clR T c/\dx=none/\Same H H') T.fk (Zph T.iq rfl) rfl Za8.nd rfl rfl rfl rfl rfl rfl rfl ?_ ?_ ?_) (fun _ _ h=>h.elim)
  ·rintro cls dx H' ⟨rfl,h2,h3⟩;exact ⟨_,rfl,kc,rfl,h2,h3⟩
  ·intro pn xe hp;exact WSs.last (Z4 (Zts (k:=7) hr (pv 0) hp)) (exR rfl ⟨f,rfl,hf,hd _⟩)
  ·rintro ea C dx σ' H1 hl ⟨rfl,rfl,s1⟩ hn;obtain ⟨o0,o1,o2,rfl⟩:∃o0 o1 o2,σ'=[o0,o1,o2]:=by
    match σ',hl with
    | [o0,o1,o2],_=>exact ⟨o0,o1,o2,rfl⟩
   have he:(upd H1 ea (Zg2 ea (clR T c) none)) ea=some (Zg2 ea (clR T c) none):=Zi;have s2:Same H (upd H1 ea (Zg2 ea (clR T c) none)):=s1.trans (Same.new hn);generalize upd H1 ea (Zg2 ea (clR T c) none)=H2 at he s2;refine WSs.step (Zv (i:=2) Za8.nd (Zo (Zb (Zq (r:=Znb K) Zex (by rfl) T.af PyProof.Rows.boot_isinstance (Zb (pv 1) (Zb (Zbr (v:=.ref T.ax) (by rfl) T.fL rfl) Za))) (Zb (Zq (r:=Znb K) Zex (by rfl) T.af PyProof.Rows.boot_isinstance (Zb (pv 1) (Zb (Zbr (v:=.ref T.aL) (by rfl) T.ge rfl) Za))) (Zb (Zq (r:=Znb K) Zex (by rfl) T.af PyProof.Rows.boot_isinstance (Zb (pv 1) (Zb (Zbr (v:=.ref T.aG) (by rfl) T.fM rfl) Za))) (Zb (Zq (r:=Znb K) Zex (by rfl) T.af PyProof.Rows.boot_isinstance (Zb (pv 1) (Zb (Zbr (v:=.ref T.aI) (by rfl) T.fN rfl) Za))) Za)))))) (exR rfl ⟨ea,_,_,_,rfl,he,k.g,.inr (exR rfl k.i0),_,rfl,ea,_,_,_,rfl,he,k.g,.inr (exR rfl k.i1),_,rfl,ea,_,_,_,rfl,he,k.g,.inr (exR rfl k.i2),_,rfl,ea,_,_,_,rfl,he,k.g,.inr (exR rfl k.i3),szA,fun l H3 s3 n3 e3=>?_⟩);have at4:∀c,c<4->[decide (0=c),decide (1=c),decide (2=c),decide (3=c)][c]? =some true/\(∀i,i<c->[decide (0=c),decide (1=c),decide (2=c),decide (3=c)][i]? ≠ some true)/\[decide (0=c),decide (1=c),decide (2=c),decide (3=c)].countP (fun x=>x ==true)=1/\[V.str "name",V.str "end",V.str "many",V.str "train"][c]? =some (.str (wdR c))/\Zf5 (wdR c) 1=wdR c/\(wdR c).length<=10:=by trivial
   obtain ⟨a1,a2,a3,a4,a5,a6⟩:=at4 c hc;refine WSs.last (Zt (Zl Zp1 (Z1 (K:=K) rfl (Zo (Zb Zf (Zb Zf (Zb Zf (Zb Zf Za))))) (Zcm PySem.F.plainAttrs_list PySem.F.slot_list_index PySem.F.type_list_index Zrr (pv 2) (Zb Zcu Za))) (Xh Zru (by rfl) T.dX PyProof.Rows.boot_int (Zb (X9 Zv5 (Zcm PySem.F.plainAttrs_list PySem.F.slot_list_count PySem.F.type_list_count Zq8 (pv 2) (Zb Zcu Za)) Ze (Zu _)) Za)))) ⟨szA,fun l2 H4 s4 n4 e4=>(exR rfl ⟨.inl ⟨rfl,_,SqL.of (s4.at e3)⟩,l,[decide (0=c),decide (1=c),decide (2=c),decide (3=c)],true,c,rfl,rfl,s4.at e3,by lia,a1,a2,.inl ⟨l2,_,_,_,rfl,rfl,SqL.of e4,Y1 a4,_,rfl,.inl ⟨rfl,_,SqL.of (s4.at e3)⟩,l,[decide (0=c),decide (1=c),decide (2=c),decide (3=c)],true,rfl,rfl,s4.at e3,?_⟩⟩)⟩;rw [a3];refine ⟨rfl,.inr ⟨_,rfl,wdR c,1,rfl,rfl,by lia,by lia,?_⟩⟩;rw [a5];exact q H4 (s2.trans (s3.trans s4))
theorem Wl(T:Tx K mg){X:Cx}{σ:St}{H:Hp}{Q:VK}{Pt fl:Addr}{ql:Str}{la:Arguments}{lb:Expr}{ls:Scope}{clos:List (Str×Addr)}{fs:List Str}{fvs:List V}{c:Nat}(cl:Clo H Pt fl ql la lb ls clos)
  (hp:Paired (fun x v=>∃(i:Nat) (a:Addr),X.N[i]? =some x/\σ[i]? =some (some v)/\X.env.scope.names.lookup x=some .cell/\X.env.cells.lookup x=some a/\ls.names.lookup x=some .free/\clos.lookup x=some a) fs fvs) (x0:∀p∈clos,p.1∈fs) (one:(clos.map Prod.fst).Nodup) (apart:(clos.map Prod.snd).Nodup)
  (hb:∀(pm a9 w6:Value),bindArgs (PySem.W.kla_fn "<lambda>" ql la lb ls clos pm a9 w6) ⟨[],[]⟩=pure []) (u9:∀y∈ls.names,y.2=.free->y.1∈fs) (hnc:∀y∈ls.names,y.2 ≠ .cell)
  (hk:ls.kind=.function) (hco:ls.isCoroutine=false) (hgen:ls.isGenerator=false) (hc:c<4)
  (body:∀(G:Hp) (c':Addr) (oc:Obj) (Pn:Addr) (A:Around) (outer:List Env) (s:Shared),Same H G->G c'=some (.frz oc (.own Pt))->Zk4 oc c' Pn->G Pn=some (.tbl #[.none])->Xj 6 (A.deeper (PySem.W.envX ql ls s.heap.objs.size fl (.ref c') clos))->WE (Zju P w K mg base fs ql ls fl (.ref c') clos A outer s G (fun cls dx H'=>cls=.ref (clR T c)/\dx=none/\Same G H')) lb (fvs.map some) G (fun _ _=>False))
  (q:∀H',Same H H'->Q (.str (wdR c)) H'):Zt1 X σ H (fun H2 Q2=>Znx P w base T [.ref fl] H2 Q2 E0) Q:=by
 intro H2 s2 cs;have nn:∀p∈clos,H p.2=none:=fun p hm=>by
  obtain ⟨j,hj,e⟩:=List.getElem_of_mem (x0 p hm);obtain ⟨v,_,i,a,h1,h2,h3,h4,h5,h6⟩:=Paired.get hp (i:=j) (a:=p.1) (by rw [List.getElem?_eq_getElem hj,e]);rw [Zce one hm] at h6;cases h6;exact (cs i _ _ _ h1 h2 h3 h4).1
 have L:Lit H2 ls clos fs fvs:=⟨Paired.mapP hp fun x v ⟨i,a,h1,h2,h3,h4,h5,h6⟩=>⟨h5,a,h6,(cs i _ _ _ h1 h2 h3 h4).2⟩,x0,one,apart⟩
 have sG:Same H (offL H2 clos):=fun b o e=>by
  rw [Zby]
  ·exact s2.at e
  ·intro z;obtain ⟨p,hm,rfl⟩:=List.mem_map.mp z;rw [nn p hm] at e;cases e
 exact ⟨fl,c,rfl,hc,(cl.mono s2).fn,fun Q'=>Znf (cl.mono s2) L hb u9 hnc hk hco hgen fun c' oc Pn A outer s h1 h2 h3 hr=>body _ c' oc Pn A outer s sG h1 h2 h3 hr,fun H4 s4 H3 _ u5 _=>q H3 fun b u z=>u5 b u u z (s4.at (s2.at z))⟩
theorem Zgr{H:Hp}{l:Addr}{ss:List Str}(h:H l=some (.lst (ss.map V.str))):Im K H 1 (.lst (ss.map Tr.str)) (.ref l):=Im.lst (n:=0) (SqL.of h) (Paired.strs _)
structure Gr(T:Tx K mg)(H0:Hp)(tr:Addr)(ps:List Zc)(js:List (Zc×Zc))(sg:List (Str×Str×Str)):Prop where
 tr:Yh T H0 tr ps js sg
 yv:Xx ps js sg
 tabs:Zo0 T H0
structure Zt3(ts:List TrD):Prop where
 len:ts.length<=1
 nd:(ts.map Prod.fst).Nodup
 ta:∀n∈ts.map Prod.fst,n = "ta"
theorem Zll:Yz "ta" :=by unfold Yz;decide +kernel
abbrev Zry:List V:=[.str "ta",.str "tb",.str "of",.str "A",.str "",.str "abcdefg",.non,.int 5,.str "t1",.str "tc"]
abbrev Zlx:List V:=[.str "A",.str "",.str "abcdefg",.non,.int 5]
theorem Zx3(T:Tx K mg){v:V}(h:v∈Zry):W4 v=true/\((inV v Zlx=true/\∀H,Zjl K H v false)\/(inV v Zlx=false/\∃m:Str,v=.str m/\Yz m)):=by
 have O3:∀m:Str,Yz m->inV (.str m) Zlx=false->W4 (.str m)=true/\((inV (.str m) Zlx=true/\∀H,Zjl K H (.str m) false)\/(inV (.str m) Zlx=false/\∃m':Str,V.str m=.str m'/\Yz m')):=fun m h1 h2=>⟨rfl,.inr ⟨h2,m,rfl,h1⟩⟩
 have bad:∀m:Str,inV (.str m) Zlx=true->(∀c∈m.cps.toList,c<128)->m.length<=100->Zk7 m=false->W4 (.str m)=true/\((inV (.str m) Zlx=true/\∀H,Zjl K H (.str m) false)\/(inV (.str m) Zlx=false/\∃m':Str,V.str m=.str m'/\Yz m')):=fun m h1 h2 h3 h4=>⟨rfl,.inl ⟨h1,fun H=>.inl ⟨m,rfl,h2,h3,h4⟩⟩⟩
 simp only [Zry,List.mem_cons,List.not_mem_nil,or_false] at h;rcases h with rfl|rfl|rfl|rfl|rfl|rfl|rfl|rfl|rfl|rfl
 ·exact O3 _ Zll (by trivial)
 ·exact O3 _ (by unfold Yz;decide +kernel) (by trivial)
 ·exact O3 _ (by unfold Yz;decide +kernel) (by trivial)
 ·exact bad _ (by trivial) (by trivial) (by trivial) (by trivial)
 ·exact bad _ (by trivial) (by trivial) (by trivial) (by trivial)
 ·exact bad _ (by trivial) (by trivial) (by trivial) (by trivial)
 ·exact ⟨rfl,.inl ⟨by trivial,fun H=>.inr ⟨rfl,_,.non,T.gX⟩⟩⟩
 ·exact ⟨rfl,.inl ⟨by trivial,fun H=>.inr ⟨rfl,_,.int 5,T.gY⟩⟩⟩
 ·exact O3 _ (by unfold Yz;decide +kernel) (by trivial)
 ·exact O3 _ (by unfold Yz;decide +kernel) (by trivial)
theorem Zm3{v:V}{ss:List Str}(h:inV v (ss.map V.str)=true):∃m∈ss,v=.str m:=by
 unfold inV at h;rw [List.any_map] at h;obtain ⟨m,hm,e⟩:=List.any_eq_true.mp h;have e:eqV (.str m) v=true:=e;refine ⟨m,hm,?_⟩;cases v with
 | str k=>rw [eq_of_beq (show (m ==k)=true from e)]
 | _=>cases e
def Zz1(T:Tx K mg)(ts:List TrD)(ps:List Zc)(v vl vg:V)(due:Str):Prop:=due = "done" \/∃c,c<4/\due=wdR c/\∀H,Zwe T H ts ps v vl vg (clR T c)
abbrev lg9:List V:=[.int 0,.int 5,.int 1,.int 4,.bl true,.non,.str "2",.int (-1),.int 2]
theorem Zw0:∀j,j<9->∃v,lg9[j]? =some v/\(inV (.int (j:Nat)) [.int 0,.int 1,.int 4,.int 5,.int 6,.int 7]=true->Zwk v)
 | 0,_=>⟨_,rfl,fun _=>.inl ⟨0,rfl,by decide⟩⟩
 | 1,_=>⟨_,rfl,fun _=>.inl ⟨5,rfl,by decide⟩⟩
 | 2,_=>⟨_,rfl,fun z=>absurd z (by trivial)⟩
 | 3,_=>⟨_,rfl,fun z=>absurd z (by trivial)⟩
 | 4,_=>⟨_,rfl,fun _=>.inr (.inl ⟨_,rfl⟩)⟩
 | 5,_=>⟨_,rfl,fun _=>.inr (.inr (.inl rfl))⟩
 | 6,_=>⟨_,rfl,fun _=>.inr (.inr (.inr ⟨_,rfl⟩))⟩
 | 7,_=>⟨_,rfl,fun _=>.inl ⟨-1,rfl,by decide⟩⟩
 | 8,_=>⟨_,rfl,fun z=>absurd z (by trivial)⟩
 | _+9,h=>absurd h (by lia)
theorem Zw1{gs:List Str}{v:V} (h:v∈gs.map V.str++[.str "zz",.str "",.non]):W4 v=true:=by
 rcases List.mem_append.mp h with z|z
 ·obtain ⟨g,_,rfl⟩:=List.mem_map.mp z
  rfl
 ·simp only [List.mem_cons,List.not_mem_nil,or_false] at z;rcases z with rfl|rfl|rfl <;>rfl
theorem Zwm{v:V}{gs:List Str}(hf:W4 v=true)(h:inV v (gs.map V.str)=false){S:Str->Prop}(hs:∀n,S n->n∈gs):Odd v S:=by
 refine ⟨hf,fun ss h2=>?_⟩;cases z:inV v (ss.map V.str) with
 | false=>rfl
 | true =>
  obtain ⟨m,hm,rfl⟩:=Zm3 z;rw [Wv,decide_eq_true (hs m (h2 m hm))] at h;cases h
def Zum(T:Tx K mg):Sp:=fun vs H Q _=>∃(H0:Hp) (F:Addr->Prop) (x tr gl:Addr) (ad:WAd) (st:WSt) (ps:List Zc) (js:List (Zc×Zc)) (sg:List (Str×Str×Str)) (gs:List Str) (cell:Int),vs=[.ref x,.ref gl,.int cell]/\WAt T H0 H F x tr ad st/\Gr T H0 tr ps js sg/\Zt3 st.1/\H gl=some (.lst (gs.map V.str))/\(∀n,n∈gs↔(("gate",n):Zc)∈ps)/\gs.length<=40/\∀H',Same H H'->Q (.bl true) H'
theorem Zmy(T:Tx K mg):Zw P w K mg base CX0 9 T.bN.f T.bN.fd ["_law_world", "_law_gates", "_law_cell"] (Zum T):=by
 refine T.bN.F.okL T.eG Y8 (fun vs H Q E h=>?_) (fun cdc A outer s H vs Q E hL hr h=>?_)
 ·obtain ⟨H0,F,x,tr,gl,ad,st,ps,js,sg,gs,cell,rfl,_⟩:=h
  rfl
 ·obtain ⟨H0,F,x,tr,gl,ad,st,ps,js,sg,gs,cell,rfl,hw,g,ta,L1,M0,hgn,q⟩:=h;have Q5:=ta.len;obtain ⟨j,hj,hj10⟩:=Wh (a:=cell) (n:=10) (by decide);have hj:cell%10=(j:Int):=hj;obtain ⟨v,hv⟩:∃v,Zry[j]? =some v:=⟨_,List.getElem?_eq_getElem (show j<Zry.length from hj10)⟩
  refine WSs.step (Zv (i:=6) Y8.nd (Z1 (K:=K) rfl (Zo (Zb Zf (Zb Zf (Zb Zf (Zb Zf (Zb Zf (Zb Zf (Zb Zeg (Zb Ze (Zb Zf (Zb Zf Za))))))))))) (Zl Yc (pv 2) Ze))) ⟨szA,fun l1 H1 s1 n1 e1=>(exR rfl (exQ rfl rfl ⟨(by show (0:Int)<10;decide),.inl ⟨l1,_,_,v,rfl,rfl,SqL.of e1,by show atI Zry (cell%10)=_;rw [hj];exact Y1 hv,?_⟩⟩))⟩;obtain ⟨hvf,hvc⟩:=Zx3 T (List.mem_of_getElem? hv);obtain ⟨j2,hj2,E8⟩:=Wh (a:=cell / 10) (n:=gs.length+3) (by lia);obtain ⟨vg,hvg⟩:∃vg,(gs.map V.str++[V.str "zz",V.str "",V.non])[j2]? =some vg:=⟨_,List.getElem?_eq_getElem (by rw [List.length_append,List.length_map];exact E8)⟩
  refine WSs.step (Zv (i:=4) Y8.nd (Z1 (K:=K) rfl (Zl Wj (pv 1) (Zo (Zb Zf (Zb Zf (Zb Zeg Za))))) (Zl Yc (Zl Z9 (pv 2) Ze) (Zl Wj (Zq (r:=W1 K) W6 (by rfl) T.bx PySem.boot_len (Zb (pv 1) Za)) Ze)))) (exR rfl ⟨szA,fun l2 H2 s2 n2 e2=>.inr (.inr ⟨gl,l2,_,_,rfl,rfl,s2.at (s1.at L1),e2,Zx (by show (List.map V.str gs).length+2<=1000;rw [List.length_map];lia),fun l3 H3 s3 n3 e3=>(exR rfl (exQ rfl rfl ⟨⟨by decide,by decide⟩,_,rfl,.inl ⟨gl,_,rfl,.inl (SqL.of (s3.at (s2.at (s1.at L1)))),.inl (exQ rfl rfl (exQ rfl rfl ⟨?_,.inl ⟨l3,_,_,vg,rfl,rfl,SqL.of e3,?_,?_⟩⟩))⟩⟩))⟩)⟩)
  ·rw [List.length_map];show (0:Int)<(gs.length:Int)+3;lia
  ·rw [List.length_map];show atI _ (cell / 10%((gs.length:Int)+3))=_;rw [show ((gs.length:Int)+3)=((gs.length+3:Nat):Int) by lia,hj2];exact Y1 hvg
  have hgf:=Zw1 (List.mem_of_getElem? hvg);obtain ⟨j3,hj3,hj39⟩:=Wh (a:=cell / 100) (n:=9) (by decide);have hj3:cell / 100%9=(j3:Int):=hj3;obtain ⟨vl,hvl,hol⟩:=Zw0 j3 hj39;refine WSs.step (Zv (i:=5) Y8.nd (Z1 (K:=K) rfl (Zo (Zb Ze (Zb Ze (Zb Ze (Zb Ze (Zb Zcu (Zb Zeg (Zb Zf (Zb (Zr0 Zor Ze) (Zb Ze Za)))))))))) (Zl Yc (Zl Z9 (pv 2) Ze) Ze))) (exR rfl ⟨szA,fun l4 H4 s4 n4 e4=>(exR rfl (exQ rfl rfl ⟨⟨by decide,by decide⟩,_,_,rfl,rfl,(by show (0:Int)<9;decide),.inl ⟨l4,_,_,vl,rfl,rfl,SqL.of e4,by show atI lg9 (cell / 100%9)=_;rw [hj3];exact Y1 hvl,?_⟩⟩))⟩);have k8:=s1.trans (s2.trans (s3.trans s4));refine WSs.step (Zv (i:=3) Y8.nd Zf) ?_;have u7:=hw.mono k8;let I21:=fun (σ:St) (H':Hp)=>∃due,σ=[some (.ref x),some (.ref gl),some (.int cell),some (.str due),some vg,some vl,some v]/\Same H H'/\Zz1 T st.1 ps v vl vg due
  refine WSs.cut I21 ?_ ?_
  ·refine WS.of (Z0 (PW.pt (Zbm (Zm (r:=Zh3 K) (Zjb hr) (pv 6) (Yw (pv 0) T.ac T.aV (Xi T) hr.m T.aw.b .nil Yg) (by with_unfolding_all rfl)) (Zcb (Zm (r:=Zh3 K) (Zjb hr) (pv 6) (Zo (Zb Zf (Zb Zf (Zb Zf (Zb Zeg (Zb Ze Za)))))) (by with_unfolding_all rfl))))) Zr Zr) (exR rfl (exR rfl ⟨x,ad.dx,_,rfl,u7.obj,rfl,H0,F,x,tr,ad,st,rfl,u7,by lia,fun ss hp hs l5 H5 s5 n5 e5=>.inl ⟨l5,_,rfl,.inl (SqL.of e5),hvf,Xt _,_,rfl,Yo (fun z=>?_) (fun z=>?_)⟩⟩))
   ·obtain ⟨m,hm,rfl⟩:=Zm3 (show inV v (ss.map V.str)=true from z);have hmn:=hp.mem_iff.mp hm;exact WSs.last (Zv (i:=3) Y8.nd Zf) ⟨"name",rfl,k8.trans s5,.inr ⟨0,by decide,rfl,fun _=>.inl ⟨rfl,.inr ⟨m,rfl,by rw [ta.ta m hmn];exact Zll,hmn⟩⟩⟩⟩
   refine (exR rfl ⟨szA,fun l6 H6 s6 n6 e6=>.inl ⟨l6,_,rfl,.inl (SqL.of e6),hvf,rfl,_,rfl,Yo (fun y=>?_) (fun y=>?_)⟩⟩)
   ·rcases hvc with ⟨_,hA⟩|⟨e,_⟩
    ·exact WSs.last (Zv (i:=3) Y8.nd Zf) ⟨"name",rfl,k8.trans (s5.trans s6),.inr ⟨0,by decide,rfl,fun G=>.inl ⟨rfl,.inl (hA G)⟩⟩⟩
    ·exact absurd ((show inV v Zlx=true from y).symm.trans e) (by decide)
   have hvm:∃m:Str,v=.str m/\Yz m:=hvc.elim (fun e=>absurd e.1 y) (fun e=>e.2);clear hvc;obtain ⟨m,rfl,hm⟩:=hvm;have j8:m∉st.1.map Prod.fst:=fun e=>z (by
    show inV (.str m) (ss.map V.str)=true;rw [Wv];exact decide_eq_true (hp.mem_iff.mpr e))
   have u0:=k8.trans (s5.trans s6);refine WSs.last (Z0 (Zm (r:=Wg K) (Wz hr) (pv 4) (pv 1) (by with_unfolding_all rfl)) Zr Zr) (exR rfl (exR rfl (.inl ⟨gl,_,rfl,.inl (SqL.of (u0.at L1)),hgf,Xt _,_,rfl,Yo (fun u=>?_) (fun u=>?_)⟩)))
   ·have u:inV vg (gs.map V.str)=false:=by simpa using u
    exact WSs.last (Zv (i:=3) Y8.nd Zf) ⟨"end",rfl,u0,.inr ⟨1,by decide,rfl,fun _=>.inr ⟨m,rfl,hm,j8,.inl ⟨rfl,Zwm hgf u fun n hn=>(M0 n).mpr hn⟩⟩⟩⟩
   have u:inV vg (gs.map V.str)=true:=by simpa using u
   obtain ⟨gn,hgm,rfl⟩:=Zm3 u;refine WSs.last (Z0 (Zm (r:=Zh3 K) (Zjb hr) (Zl Yc (Zl Z9 (pv 2) Ze) Ze) (Zj (Zb Ze (Zb Ze (Zb Ze (Zb Ze (Zb Ze (Zb Ze Za))))))) (by with_unfolding_all rfl)) Zr Zn) (exR rfl (exQ rfl rfl ⟨⟨by decide,by decide⟩,_,_,rfl,rfl,(by show (0:Int)<9;decide),szA,fun l7 H7 s7 n7 e7=>.inl ⟨l7,_,rfl,.inr (SqT.of e7),rfl,rfl,_,rfl,Yo (fun t=>?_) (fun _=>⟨"done",rfl,u0.trans s7,.inl rfl⟩)⟩⟩));have t:inV (.int (cell / 100%9)) [.int 0,.int 1,.int 4,.int 5,.int 6,.int 7]=true:=t;rw [hj3] at t;exact WSs.last (Zv (i:=3) Y8.nd Zf) ⟨"many",rfl,u0.trans s7,.inr ⟨2,by decide,rfl,fun _=>.inr ⟨m,rfl,hm,j8,.inr ⟨gn,rfl,(M0 gn).mp hgm,rfl,hol t⟩⟩⟩⟩
  rintro σ H5 ⟨due,rfl,s5,hD⟩;refine WSs.step (Z0 (Zm (r:=Wa K) (Wd hr) (pv 3) Zf (Zu _)) Zr Zn) (exR rfl (.inl ⟨rfl,_,rfl,Yo (fun z=>?_) (fun z=>?_)⟩))
  ·exact WSs.last (Zt Zcu) (q H5 s5)
  rcases hD with rfl|⟨c,hc,rfl,hR⟩
  ·exact absurd (decide_eq_true rfl) z
  have C4:=hw.mono s5;refine WSs.last (Zt (X9 (r:=Wa K) (Wd hr) (Zck (Xr T) hr.m (fun _=>rfl) rfl T.aY T.ai.F.kp T.ai.b (Zb (Zg0 (Pt:=T.bQ) rfl hL) Za)) (pv 3) (Zu _))) ⟨_,(g.tabs.mono C4.same)._law_come,List.mem_cons_self,fun fl H6 s6 n6 cl=>Wl T cl (fs:=["_law_world", "_law_name", "_law_long", "_law_gate"]) (fvs:=[.ref x,v,vl,vg]) (.cons ⟨0,_,rfl,rfl,rfl,rfl,rfl,rfl⟩ (.cons ⟨6,_,rfl,rfl,rfl,rfl,rfl,rfl⟩ (.cons ⟨5,_,rfl,rfl,rfl,rfl,rfl,rfl⟩ (.cons ⟨4,_,rfl,rfl,rfl,rfl,rfl,rfl⟩ .nil)))) ?_ ?_ ?_ (fun _ _ _=>rfl) (by trivial) (by trivial) rfl rfl rfl hc
   (fun G c' oc Pn A outer s sG _ _ _ hr=>WE.of (Yu (pv 0) T.ac T.bY (Zkl T) hr T.ar.b .nil Za5 (Zb (pv 1) (Zb (pv 2) (Zb (pv 3) Za)))) ⟨_,rfl,x,ad.dx,_,rfl,sG.at (s6.at C4.obj),rfl,_,rfl,_,rfl,_,rfl,H0,F,x,tr,ad,st,ps,js,sg,v,vl,vg,clR T c,rfl,C4.mono (s6.trans sG),g.tr,g.yv,ta.nd,hR G,fun H' s'=>⟨rfl,rfl,s'⟩⟩)
   (fun H7 s7=>⟨_,rfl,.inl ⟨rfl,?_⟩⟩)⟩
  ·simp
  ·simp;decide +kernel
  ·simp;lia
  ·rw [decide_eq_true rfl];exact q H7 (s5.trans (s6.trans s7))
def Zwy(T:Tx K mg):Sp:=fun vs H Q _=>∃(H0:Hp) (F:Addr->Prop) (x tr:Addr) (ad:WAd) (st:WSt) (ps:List Zc) (js:List (Zc×Zc)) (sg:List (Str×Str×Str)) (cell:Int),vs=[.ref x,.int cell]/\WAt T H0 H F x tr ad st/\Gr T H0 tr ps js sg/\Zt3 st.1/\∀H',Same H H'->Q (.bl true) H'
theorem Zyg{v:V} (h:v∈[V.str "zz",V.str "tx",V.str "",V.non,V.int 5]) {ts:List TrD} (ta:Zt3 ts):Odd v (fun m=>m∈ts.map Prod.fst):=by
 simp only [List.mem_cons,List.not_mem_nil,or_false] at h;rcases h with rfl|rfl|rfl|rfl|rfl
 ·exact Zae fun z=>absurd (ta.ta _ z) (by trivial)
 ·exact Zae fun z=>absurd (ta.ta _ z) (by trivial)
 ·exact Zae fun z=>absurd (ta.ta _ z) (by trivial)
 ·exact Zmz rfl fun _=>rfl
 ·exact Zmz rfl fun _=>rfl
theorem Zmn(T:Tx K mg):Zw P w K mg base CX0 9 T.bO.f T.bO.fd ["_law_world", "_law_cell"] (Zwy T):=by
 refine T.bO.F.okL T.eI Zdb (fun vs H Q E h=>?_) (fun cdc A outer s H vs Q E hL hr h=>?_)
 ·obtain ⟨H0,F,x,tr,ad,st,ps,js,sg,cell,rfl,_⟩:=h
  rfl
 ·obtain ⟨H0,F,x,tr,ad,st,ps,js,sg,cell,rfl,hw,g,ta,q⟩:=h;have Q5:=ta.len;obtain ⟨j,hj,hj5⟩:=Wh (a:=cell) (n:=5) (by decide);have hj:cell%5=(j:Int):=hj;obtain ⟨v,hv⟩:∃v,[V.str "zz",V.str "tx",V.str "",V.non,V.int 5][j]? =some v:=⟨_,List.getElem?_eq_getElem (show j<5 from hj5)⟩
  refine WSs.step (Zv (i:=3) Zdb.nd (Z1 (K:=K) rfl (Zo (Zb Zf (Zb Zf (Zb Zf (Zb Zeg (Zb Ze Za)))))) (Zl Yc (pv 1) Ze))) ⟨szA,fun l1 H1 s1 n1 e1=>(exR rfl (exQ rfl rfl ⟨(by show (0:Int)<5;decide),.inl ⟨l1,_,_,v,rfl,rfl,SqL.of e1,by show atI [V.str "zz",V.str "tx",V.str "",V.non,V.int 5] (cell%5)=_;rw [hj];exact Y1 hv,?_⟩⟩))⟩;have ho:=Zyg (List.mem_of_getElem? hv) ta;have t6:=hw.mono s1;have tb:=(g.tabs.mono t6.same)._law_none;refine WSs.step (Zv (i:=2) Zdb.nd (Zl Yc (Zl Z9 (pv 1) Ze) Ze)) (exR rfl (exQ rfl rfl ⟨⟨by decide,by decide⟩,_,_,rfl,rfl,(by show (0:Int)<4;decide),?_⟩));refine WSs.step (Z0 (Zm (r:=Wa K) (Wd hr) (pv 2) Ze (Zu _)) Zr Zn) (exR rfl (.inl ⟨rfl,_,rfl,Yo (fun z=>?_) (fun _=>?_)⟩))
  ·refine WSs.last (Zt (X9 (r:=Wa K) (Wd hr) (Zck (Xr T) hr.m (fun _=>rfl) rfl T.aY T.ai.F.kp T.ai.b (Zb (Zg0 (Pt:=T.aW) rfl hL) Za)) Zf (Zu _))) ⟨_,tb,List.mem_cons_self,fun fl H6 s6 n6 cl=>Wl (c:=3) T cl (fs:=["_law_world", "_law_name"]) (fvs:=[.ref x,v]) (.cons ⟨0,_,rfl,rfl,rfl,rfl,rfl,rfl⟩ (.cons ⟨3,_,rfl,rfl,rfl,rfl,rfl,rfl⟩ .nil)) ?_ ?_ ?_ (fun _ _ _=>rfl) (by trivial) (by trivial) rfl rfl rfl (by decide)
    (fun G c' oc Pn A outer s sG h1 h2 h3 hr=>WE.of (Yu (pv 0) T.ac T.fi (Zns T) hr T.bw.b .nil Za5 (Zb (pv 1) (Zb (Zsx rfl) Za))) ⟨_,rfl,x,ad.dx,_,rfl,sG.at (s6.at t6.obj),rfl,_,rfl,oc,_,Pn,h1,h2,h3,fun fn=>⟨H0,F,x,tr,ad,st,v,[.ref fn],rfl,rfl,t6.mono (s6.trans sG),by lia,ho,fun H' s'=>⟨rfl,rfl,s'⟩⟩⟩)
    (fun H7 s7=>.inl ⟨rfl,q H7 (s1.trans (s6.trans s7))⟩)⟩
   ·simp
   ·simp;decide +kernel
   ·simp
  refine WSs.step (Z0 (Zm (r:=Wa K) (Wd hr) (pv 2) Ze (Zu _)) Zr Zn) (exR rfl (.inl ⟨rfl,_,rfl,Yo (fun z=>?_) (fun _=>?_)⟩))
  ·refine WSs.last (Zt (X9 (r:=Wa K) (Wd hr) (Zck (Xr T) hr.m (fun _=>rfl) rfl T.aY T.ai.F.kp T.ai.b (Zb (Zg0 (Pt:=T.aW) rfl hL) Za)) Zf (Zu _))) ⟨_,tb,List.mem_cons_of_mem _ List.mem_cons_self,fun fl H6 s6 n6 cl=>Wl (c:=3) T cl (fs:=["_law_world", "_law_name"]) (fvs:=[.ref x,v]) (.cons ⟨0,_,rfl,rfl,rfl,rfl,rfl,rfl⟩ (.cons ⟨3,_,rfl,rfl,rfl,rfl,rfl,rfl⟩ .nil)) ?_ ?_ ?_ (fun _ _ _=>rfl) (by trivial) (by trivial) rfl rfl rfl (by decide)
    (fun G c' oc Pn A outer s sG h1 h2 h3 hr=>WE.of (Yu (pv 0) T.ac T.dU (Zji T) hr T.aO.b .nil Za5 (Zb (pv 1) Za)) ⟨_,rfl,x,ad.dx,_,rfl,sG.at (s6.at t6.obj),rfl,_,rfl,H0,F,x,tr,ad,st,v,[],rfl,rfl,t6.mono (s6.trans sG),by lia,ho,fun H' s'=>⟨rfl,rfl,s'⟩⟩)
    (fun H7 s7=>.inl ⟨rfl,q H7 (s1.trans (s6.trans s7))⟩)⟩
   ·simp
   ·simp;decide +kernel
   ·simp
  refine WSs.step (Z0 (Zm (r:=Wa K) (Wd hr) (pv 2) Ze (Zu _)) Zr Zn) (exR rfl (.inl ⟨rfl,_,rfl,Yo (fun z=>?_) (fun _=>?_)⟩))
  ·refine WSs.last (Zt (X9 (r:=Wa K) (Wd hr) (Zck (Xr T) hr.m (fun _=>rfl) rfl T.aY T.ai.F.kp T.ai.b (Zb (Zg0 (Pt:=T.aW) rfl hL) Za)) Zf (Zu _))) ⟨_,tb,List.mem_cons_of_mem _ (List.mem_cons_of_mem _ List.mem_cons_self),fun fl H6 s6 n6 cl=>Wl (c:=3) T cl (fs:=["_law_world", "_law_name"]) (fvs:=[.ref x,v]) (.cons ⟨0,_,rfl,rfl,rfl,rfl,rfl,rfl⟩ (.cons ⟨3,_,rfl,rfl,rfl,rfl,rfl,rfl⟩ .nil)) ?_ ?_ ?_ (fun _ _ _=>rfl) (by trivial) (by trivial) rfl rfl rfl (by decide)
    (fun G c' oc Pn A outer s sG h1 h2 h3 hr=>WE.of (Yu (pv 0) T.ac T.cC (Zjt T) hr T.ao.b .nil Za5 (Zb (pv 1) Za)) ⟨_,rfl,x,ad.dx,_,rfl,sG.at (s6.at t6.obj),rfl,_,rfl,H0,F,x,tr,ad,st,v,[],rfl,rfl,t6.mono (s6.trans sG),by lia,ho,fun H' s'=>⟨rfl,rfl,s'⟩⟩)
    (fun H7 s7=>.inl ⟨rfl,q H7 (s1.trans (s6.trans s7))⟩)⟩
   ·simp
   ·simp;decide +kernel
   ·simp
  ·refine WSs.last (Zt (X9 (r:=Wa K) (Wd hr) (Zck (Xr T) hr.m (fun _=>rfl) rfl T.aY T.ai.F.kp T.ai.b (Zb (Zg0 (Pt:=T.aW) rfl hL) Za)) Zf (Zu _))) ⟨_,tb,List.mem_cons_of_mem _ (List.mem_cons_of_mem _ (List.mem_cons_of_mem _ List.mem_cons_self)),fun fl H6 s6 n6 cl=>Wl (c:=3) T cl (fs:=["_law_world", "_law_name"]) (fvs:=[.ref x,v]) (.cons ⟨0,_,rfl,rfl,rfl,rfl,rfl,rfl⟩ (.cons ⟨3,_,rfl,rfl,rfl,rfl,rfl,rfl⟩ .nil)) ?_ ?_ ?_ (fun _ _ _=>rfl) (by trivial) (by trivial) rfl rfl rfl (by decide)
    (fun G c' oc Pn A outer s sG h1 h2 h3 hr=>WE.of (Yu (pv 0) T.ac T.cA (Zj8 T) hr T.ap.b .nil Za5 (Zb (pv 1) Za)) ⟨_,rfl,x,ad.dx,_,rfl,sG.at (s6.at t6.obj),rfl,_,rfl,H0,F,x,tr,ad,st,v,[],rfl,rfl,t6.mono (s6.trans sG),by lia,ho,fun H' s'=>⟨rfl,rfl,s'⟩⟩)
    (fun H7 s7=>.inl ⟨rfl,q H7 (s1.trans (s6.trans s7))⟩)⟩
   ·simp
   ·simp;decide +kernel
   ·simp
def Zvc(T:Tx K mg):Sp:=fun vs H Q _=>∃(H0:Hp) (F:Addr->Prop) (x tr pl ol:Addr) (ad:WAd) (st:WSt) (ps:List Zc) (js:List (Zc×Zc)) (sg:List (Str×Str×Str)) (gs os:List Str) (cell:Int),vs=[.ref x,.ref pl,.ref ol,.int cell]/\WAt T H0 H F x tr ad st/\Gr T H0 tr ps js sg/\H pl=some (.lst (gs.map V.str))/\(∀n,n∈gs↔(("points",n):Zc)∈ps)/\gs.length<=40/\H ol=some (.lst (os.map V.str))/\os.length<=40/\(∀n∈("zz" :Str) ::os,(("points",n):Zc)∉ps)/\∀H',Same H H'->Q (.bl true) H'
theorem Zw9{os:List Str}{ps:List Zc}{js:List (Zc×Zc)}{sg:List (Str×Str×Str)}(yv:Xx ps js sg) (ho:∀n∈("zz" :Str) ::os,(("points",n):Zc)∉ps) {v:V} (h:v∈os.map V.str++[.str "zz",.str "",.non]):Odd v (fun n=>(("points",n):Zc)∈ps):=by
 rcases List.mem_append.mp h with z|z
 ·obtain ⟨g,hg,rfl⟩:=List.mem_map.mp z;exact Zae (ho g (List.mem_cons_of_mem _ hg))
 ·simp only [List.mem_cons,List.not_mem_nil,or_false] at z;rcases z with rfl|rfl|rfl
  ·exact Zae (ho _ List.mem_cons_self)
  ·exact Zae fun e=>absurd (yv.name _ e).1 (by trivial)
  ·exact Zmz rfl fun _=>rfl
abbrev li5:List V:=[.str "",.str "stem",.str "Left",.non,.str "a"]
theorem Zxu{v:V}(h:v∈li5):Odd v (fun n=>n∈Zks "points"):=by
 simp only [li5,List.mem_cons,List.not_mem_nil,or_false] at h;rcases h with rfl|rfl|rfl|rfl|rfl
 ·exact Zae (by trivial)
 ·exact Zae (by trivial)
 ·exact Zae (by trivial)
 ·exact Zmz rfl fun _=>rfl
 ·exact Zae (by trivial)
theorem Zmx(T:Tx K mg):Zw P w K mg base CX0 9 T.bP.f T.bP.fd ["_law_world", "_law_points", "_law_others", "_law_cell"] (Zvc T):=by
 refine T.bP.F.okL T.eJ Wx (fun vs H Q E h=>?_) (fun cdc A outer s H vs Q E hL hr h=>?_)
 ·obtain ⟨H0,F,x,tr,pl,ol,ad,st,ps,js,sg,gs,os,cell,rfl,_⟩:=h
  rfl
 ·obtain ⟨H0,F,x,tr,pl,ol,ad,st,ps,js,sg,gs,os,cell,rfl,hw,g,i7,M0,hgn,hol,hon,P7,q⟩:=h;obtain ⟨j,hj,t9⟩:=Wh (a:=cell) (n:=os.length+3) (by lia);obtain ⟨v,hv⟩:∃v,(os.map V.str++[V.str "zz",V.str "",V.non])[j]? =some v:=⟨_,List.getElem?_eq_getElem (by rw [List.length_append,List.length_map];exact t9)⟩
  refine WSs.step (Zv (i:=5) Wx.nd (Z1 (K:=K) rfl (Zl Wj (pv 2) (Zo (Zb Zf (Zb Zf (Zb Zeg Za))))) (Zl Yc (pv 3) (Zl Wj (Zq (r:=W1 K) W6 (by rfl) T.bx PySem.boot_len (Zb (pv 2) Za)) Ze)))) (exR rfl ⟨szA,fun l2 H2 s2 n2 e2=>.inr (.inr ⟨ol,l2,_,_,rfl,rfl,s2.at hol,e2,Zx (by show (List.map V.str os).length+2<=1000;rw [List.length_map];lia),fun l3 H3 s3 n3 e3=>(exR rfl (exR rfl (.inl ⟨ol,_,rfl,.inl (SqL.of (s3.at (s2.at hol))),.inl (exQ rfl rfl (exQ rfl rfl ⟨?_,.inl ⟨l3,_,_,v,rfl,rfl,SqL.of e3,?_,?_⟩⟩))⟩)))⟩)⟩)
  ·rw [List.length_map];show (0:Int)<(os.length:Int)+3;lia
  ·rw [List.length_map];show atI _ (cell%((os.length:Int)+3))=_;rw [show ((os.length:Int)+3)=((os.length+3:Nat):Int) by lia,hj];exact Y1 hv
  have ho:=Zw9 g.yv P7 (List.mem_of_getElem? hv);have k7:=s2.trans s3;refine WSs.step (Zv (i:=4) Wx.nd Zf) ?_;let I22:=fun (σ:St) (H':Hp)=>∃u ul,σ=[some (.ref x),some (.ref pl),some (.ref ol),some (.int cell),some ul,some u]/\Same H H'/\(Odd u (fun n=>(("points",n):Zc)∈ps)\/∃g:Str,u=.str g/\(("points",g):Zc)∈ps/\Odd ul (fun n=>n∈Zks "points"))
  refine WSs.cut I22 ?_ ?_
  ·refine WS.of (Z0 (PW.pt (Zd9 (Zm (r:=Zgb K) (Zh2 hr) (pv 1) (Zo Za) (Zu _)) (Zbp (Zm (r:=Wa K) (Wd hr) (Zl Yc (Zl Z9 (pv 3) Ze) Ze) Ze (Zu _))))) Zr Zn) (exR rfl ⟨szA,fun le H4 s4 n4 e4=>.inr (.inl ⟨1,.lst (gs.map Tr.str),.lst [],by decide,.inr ⟨_,_,rfl,rfl⟩,Zgr ((k7.trans s4).at i7),Im.lst (n:=0) (SqL.of e4) .nil,_,rfl,Yo (fun z=>?_) (fun z=>⟨v,.str "left",rfl,k7.trans s4,.inl ho⟩)⟩)⟩);have u4:0<gs.length:=Nat.pos_of_ne_zero fun y=>by
    rw [List.length_eq_zero_iff.mp y,if_pos rfl,decide_eq_true (show Tr.lst (List.map Tr.str [])=Tr.lst [] from rfl)] at z;cases z
   refine (exR rfl (exQ rfl rfl ⟨⟨by decide,by decide⟩,_,_,rfl,rfl,(by show (0:Int)<2;decide),.inl ⟨rfl,_,rfl,Yo (fun _=>?_) (fun _=>⟨v,.str "left",rfl,k7.trans s4,.inl ho⟩)⟩⟩));have hp4:=(k7.trans s4).at i7;obtain ⟨j2,hj2,E8⟩:=Wh (a:=cell / 100) (n:=gs.length) u4;have hgj:(gs.map V.str)[j2]? =some (.str gs[j2]):=by rw [List.getElem?_map,List.getElem?_eq_getElem E8];rfl
   refine WSs.step (Zv (i:=5) Wx.nd (Z1 (K:=K) rfl (pv 1) (Zl Yc (Zl Z9 (pv 3) Ze) (Zq (r:=W1 K) W6 (by rfl) T.bx PySem.boot_len (Zb (pv 1) Za))))) (exR rfl (exR rfl (exQ rfl rfl ⟨⟨by decide,by decide⟩,_,rfl,.inl ⟨pl,_,rfl,.inl (SqL.of hp4),_,_,rfl,rfl,?_,.inl ⟨pl,_,_,.str gs[j2],rfl,rfl,SqL.of hp4,?_,?_⟩⟩⟩)))
   ·rw [List.length_map];show (0:Int)<(gs.length:Int);lia
   ·rw [List.length_map];show atI _ (cell / 100%(gs.length:Int))=_;rw [hj2];exact Y1 hgj
   obtain ⟨j3,hj3,hj35⟩:=Wh (a:=cell / 1000) (n:=5) (by decide);have hj3:cell / 1000%5=(j3:Int):=hj3;obtain ⟨ul,hul⟩:∃ul,li5[j3]? =some ul:=⟨_,List.getElem?_eq_getElem (show j3<li5.length from hj35)⟩
   exact WSs.last (Zv (i:=4) Wx.nd (Z1 (K:=K) rfl (Zo (Zb Zf (Zb Zf (Zb Zf (Zb Zeg (Zb Zf Za)))))) (Zl Yc (Zl Z9 (pv 3) Ze) Ze))) ⟨szA,fun l6 H6 s6 n6 e6=>(exR rfl (exQ rfl rfl ⟨⟨by decide,by decide⟩,_,_,rfl,rfl,(by show (0:Int)<5;decide),.inl ⟨l6,_,_,ul,rfl,rfl,SqL.of e6,by show atI li5 (cell / 1000%5)=_;rw [hj3];exact Y1 hul,.str gs[j2],ul,rfl,k7.trans (s4.trans s6),.inr ⟨gs[j2],rfl,(M0 _).mp (List.getElem_mem E8),Zxu (List.mem_of_getElem? hul)⟩⟩⟩))⟩
  rintro σ H5 ⟨u,ul,rfl,s5,hR⟩;have C4:=hw.mono s5;refine WSs.last (Zt (X9 (r:=Wa K) (Wd hr) (Zck (Xr T) hr.m (fun _=>rfl) rfl T.aY T.ai.F.kp T.ai.b (Zb (Zg0 (Pt:=T.bR) rfl hL) Za)) Zf (Zu _))) ⟨_,(g.tabs.mono C4.same)._law_turn,List.mem_cons_self,fun fl H6 s6 n6 cl=>Wl (c:=0) T cl (fs:=["_law_world", "_law_name", "_law_lie"]) (fvs:=[.ref x,u,ul]) (.cons ⟨0,_,rfl,rfl,rfl,rfl,rfl,rfl⟩ (.cons ⟨5,_,rfl,rfl,rfl,rfl,rfl,rfl⟩ (.cons ⟨4,_,rfl,rfl,rfl,rfl,rfl,rfl⟩ .nil))) ?_ ?_ ?_ (fun _ _ _=>rfl) (by trivial) (by trivial) rfl rfl rfl (by decide)
   (fun G c' oc Pn A outer s sG h1 h2 h3 hr=>WE.of (Yu (pv 0) T.ac T.cX (Zkh T) hr T.aB.b .nil Za5 (Zb (pv 1) (Zb (pv 2) Za))) ⟨_,rfl,x,ad.dx,_,rfl,sG.at (s6.at C4.obj),rfl,_,rfl,_,rfl,H0,F,x,tr,ad,st,ps,js,sg,u,ul,rfl,C4.mono (s6.trans sG),g.tr,g.yv,hR,fun H' s'=>⟨rfl,rfl,s'⟩⟩)
   (fun H7 s7=>.inl ⟨rfl,q H7 (s5.trans (s6.trans s7))⟩)⟩
  ·simp
  ·simp;decide +kernel
  ·simp
def Yb(n k:Nat)(d:PyData):Prop:=d.showable=true/\d.leavesShort 8=true/\d.depth<=k/\d.weight<=n
theorem Yb.str{x:Str}(hx:x.cps.toList.all anC=true)(hl:x.length<=6):Yb 6 0 (.str x):=by
 refine ⟨by simp [PyData.showable],?_,by simp [PyData.depth],by simp only [PyData.weight];exact hl⟩;simp only [PyData.leavesShort,List.all_eq_true,decide_eq_true_eq];exact fun c hc=>Nat.lt_trans (Zv8 (List.all_eq_true.mp hx c hc)) (by decide)
theorem Yb.bool(b:Bool):Yb 6 0 (.bool b):=⟨by simp [PyData.showable],by simp [PyData.leavesShort],by simp [PyData.depth],by simp [PyData.weight]⟩
theorem Yb.all{n k:Nat}:∀{ds:List PyData},(∀d∈ds,Yb n k d)->PyData.showableAll ds=true/\PyData.leavesShortAll 8 ds=true/\PyData.depthAll ds<=k/\PyData.weightAll ds<=(n+1) * ds.length
 | [],_=>⟨by simp [PyData.showableAll],by simp [PyData.leavesShortAll],by simp [PyData.depthAll],by simp [PyData.weightAll]⟩
 | d ::ds,h=>by
  obtain ⟨a1,a2,a3,a4⟩:=h d List.mem_cons_self;obtain ⟨b1,b2,b3,b4⟩:=Yb.all fun c hc=>h c (List.mem_cons_of_mem _ hc)
  refine ⟨by simp [PyData.showableAll,a1,b1],by simp [PyData.leavesShortAll,a2,b2],by simp only [PyData.depthAll];lia,?_⟩;simp only [PyData.weightAll,List.length_cons,Nat.mul_add];lia
theorem Yb.kv{n k:Nat}:∀{ds:List (PyData×PyData)},(∀d∈ds,Yb n k d.1/\Yb n k d.2)->PyData.showableKv ds=true/\PyData.leavesShortKv 8 ds=true/\PyData.depthKv ds<=k/\PyData.weightKv ds<=(2 * n+2) * ds.length
 | [],_=>⟨by simp [PyData.showableKv],by simp [PyData.leavesShortKv],by simp [PyData.depthKv],by simp [PyData.weightKv]⟩
 | (x,y) ::ds,h=>by
  obtain ⟨⟨a1,a2,a3,a4⟩,c1,c2,c3,c4⟩:=h (x,y) List.mem_cons_self;obtain ⟨b1,b2,b3,b4⟩:=Yb.kv fun c hc=>h c (List.mem_cons_of_mem _ hc)
  refine ⟨by simp [PyData.showableKv,show x.showable=true from a1,show y.showable=true from c1,b1],by simp [PyData.leavesShortKv,show x.leavesShort 8=true from a2,show y.leavesShort 8=true from c2,b2],by simp only [PyData.depthKv];exact Nat.max_le.mpr ⟨Nat.max_le.mpr ⟨a3,c3⟩,b3⟩,?_⟩;simp only [PyData.weightKv,List.length_cons,Nat.mul_add];have a4:x.weight<=n:=a4;have c4:y.weight<=n:=c4;lia
theorem Yb.list{n k m:Nat}{ds:List PyData}(h:∀d∈ds,Yb n k d)(hm:ds.length<=m):Yb ((n+1) * m) (k+1) (.list ds):=by
 obtain ⟨b1,b2,b3,b4⟩:=Yb.all h;exact ⟨by simp only [PyData.showable];exact b1,by simp only [PyData.leavesShort];exact b2,by simp only [PyData.depth];lia,by simp only [PyData.weight];exact Nat.le_trans b4 (Nat.mul_le_mul_left _ hm)⟩
theorem Yb.tuple{n k m:Nat}{ds:List PyData}(h:∀d∈ds,Yb n k d)(hm:ds.length<=m):Yb ((n+1) * m) (k+1) (.tuple ds):=by
 obtain ⟨b1,b2,b3,b4⟩:=Yb.all h;exact ⟨by simp only [PyData.showable];exact b1,by simp only [PyData.leavesShort];exact b2,by simp only [PyData.depth];lia,by simp only [PyData.weight];exact Nat.le_trans b4 (Nat.mul_le_mul_left _ hm)⟩
theorem Yb.dict{n k m:Nat}{ds:List (PyData×PyData)}(h:∀d∈ds,Yb n k d.1/\Yb n k d.2)(hm:ds.length<=m):Yb ((2 * n+2) * m) (k+1) (.dict ds):=by
 obtain ⟨b1,b2,b3,b4⟩:=Yb.kv h;exact ⟨by simp only [PyData.showable];exact b1,by simp only [PyData.leavesShort];exact b2,by simp only [PyData.depth];lia,by simp only [PyData.weight];exact Nat.le_trans b4 (Nat.mul_le_mul_left _ hm)⟩
theorem Yb.up{n m k j:Nat}{d:PyData}(h:Yb n k d)(hn:n<=m)(hk:k<=j):Yb m j d:=⟨h.1,h.2.1,Nat.le_trans h.2.2.1 hk,Nat.le_trans h.2.2.2 hn⟩
def dE(p:Zc):PyData:=.tuple [.str p.1,.str p.2]
theorem Zm8{H:Hp}{l:Addr}{ps:List Zc}(h:Zp H l ps):Rp H (.list (ps.map dE)) (.ref l):=by
 obtain ⟨ts,h1,h2⟩:=h;refine .lst h1 ?_;clear h1
 induction h2 with
 | nil=>exact .nil
 | cons r _ ih=>exact .cons (.tup r (.cons (.str _) (.cons (.str _) .nil))) ih
theorem Zqe{H:Hp}{l:Addr}{α:Type}{xs:List α}{k:α->Str}{v:α->V}{d:α->PyData}(h:H l=some (.dK (xs.map fun x=>(Z8 (k x),v x))))(hv:∀x,Rp H (d x) (v x)):Rp H (.dict (xs.map fun x=>(.str (k x),d x))) (.ref l):=by
 have h1:Rps H (xs.map d) ((xs.map fun x=>(Z8 (k x),v x)).map Prod.snd):=by
  clear h
  induction xs with
  | nil=>exact .nil
  | cons x r ih=>exact .cons (hv x) ih
 have:=Rp.dk h h1;have e:((xs.map fun x=>(Z8 (k x),v x)).map fun p=>kD p.1).zip (xs.map d)=xs.map fun x=>((.str (k x),d x):PyData×PyData):=by
  clear h h1 this
  induction xs with
  | nil=>rfl
  | cons x r ih =>
   rw [List.map_cons,List.map_cons,List.map_cons,List.map_cons,List.zip_cons_cons,ih]
   rfl
 rw [e] at this;exact this
structure S52(ps:List Zc)(st:WSt):Prop where
 ta:Zt3 st.1
 sp:∀d∈st.1,∃g,d.2.2=[((g, ""):Zc)]/\(("gate",g):Zc)∈ps
 li:∀p∈st.2.1,Yz p.1/\(p.2 = "left" \/p.2 = "right")
 ll:st.2.1.length<=40
 mi:st.2.2=[]
def dT(d:TrD):PyData:=.list [.str d.1,.list (d.2.2.map dE)]
def dL(st:WSt)(pn:List Str):PyData:=.list [.dict (st.2.1.map fun p=>(.str p.1,.str p.2)),.dict (pn.map fun n=>(.str n,.bool (decide (n∈Xm st.1)))),.list (st.2.2.map dE)]
def stT(st:WSt)(pn:List Str):Str:=(PyData.list (st.1.map dT)).shown++(dL st pn).shown
theorem Yb.half{n k:Nat}{d:PyData}(h:Yb n k d)(hn:n<=40000):d.shown.length<=8000000:=by
 have:=PyData.shown_le 8 (by decide) d h.2.1;have:=h.2.2.2;lia
theorem Zl7{x:Str}(h:Yz x):Yb 6 0 (.str x):=.str h.2.2.2 h.2.1
theorem S52.dT{ps:List Zc}{st:WSt}{js:List (Zc×Zc)}{sg:List (Str×Str×Str)}(yv:Xx ps js sg)(h:S52 ps st):Yb 100 4 (PyData.list (st.1.map K52.dT)):=by
 refine (Yb.list (n:=32) (k:=3) (m:=1) (fun d hd=>?_) (by rw [List.length_map];exact h.ta.len)).up (by decide) (by decide);obtain ⟨c,hc,rfl⟩:=List.mem_map.mp hd;obtain ⟨g,e,hg⟩:=h.sp c hc;unfold K52.dT;rw [e];refine Yb.list (n:=15) (k:=2) (m:=2) (fun d hd=>?_) (Nat.le_refl _);simp only [List.mem_cons,List.not_mem_nil,or_false] at hd;rcases hd with rfl|rfl
 ·rw [h.ta.ta c.1 (List.mem_map.mpr ⟨c,hc,rfl⟩)];exact (Zl7 Zll).up (by decide) (by decide)
 ·refine Yb.list (n:=14) (k:=1) (m:=1) (fun d hd=>?_) (Nat.le_refl _);rw [List.mem_singleton.mp hd];refine Yb.tuple (n:=6) (k:=0) (m:=2) (fun d hd=>?_) (Nat.le_refl _);simp only [List.mem_cons,List.not_mem_nil,or_false] at hd;rcases hd with rfl|rfl
  ·exact Zl7 (yv.name _ hg)
  ·exact .str (by trivial) (by trivial)
theorem S52.dL{ps:List Zc}{st:WSt}{js:List (Zc×Zc)}{sg:List (Str×Str×Str)}{pn:List Str}(yv:Xx ps js sg)(h:S52 ps st)(hp:pn.Perm (ps.map Prod.snd)):Yb 2000 2 (K52.dL st pn):=by
 unfold K52.dL;refine (Yb.list (n:=560) (k:=1) (m:=3) (fun d hd=>?_) (Nat.le_refl _)).up (by decide) (by decide);simp only [List.mem_cons,List.not_mem_nil,or_false] at hd;rcases hd with rfl|rfl|rfl
 ·refine Yb.dict (n:=6) (k:=0) (m:=40) (fun d hd=>?_) (by rw [List.length_map];exact h.ll);obtain ⟨p,hp,rfl⟩:=List.mem_map.mp hd;obtain ⟨h1,h2⟩:=h.li p hp;refine ⟨Zl7 h1,?_⟩;show Yb 6 0 (.str p.2);rcases h2 with e|e <;>rw [e] <;>exact .str (by trivial) (by trivial)
 ·refine Yb.dict (n:=6) (k:=0) (m:=40) (fun d hd=>?_) (by rw [List.length_map,hp.length_eq,List.length_map];exact yv.len);obtain ⟨n,hn,rfl⟩:=List.mem_map.mp hd;obtain ⟨p,hp,rfl⟩:=List.mem_map.mp (hp.mem_iff.mp hn);exact ⟨Zl7 (yv.name _ hp),.bool _⟩
 ·rw [h.mi];exact (Yb.list (n:=0) (k:=0) (m:=0) (fun _ z=>absurd z List.not_mem_nil) (Nat.le_refl _)).up (by decide) (by decide)
def Zur(T:Tx K mg):Sp:=fun vs H Q _=>∃(H0:Hp) (F:Addr->Prop) (x tr:Addr) (ad:WAd) (st:WSt) (ps:List Zc) (js:List (Zc×Zc)) (sg:List (Str×Str×Str)),vs=[.ref x]/\WAt T H0 H F x tr ad st/\Gr T H0 tr ps js sg/\S52 ps st/\∀pn H',pn.Perm (ps.map Prod.snd)->PyProof.Rows.sortedS pn=true->Same H H'->Q (.str (stT st pn)) H'
theorem Zj1{α:Type}{l m:List α}(h:l.Perm m)(hm:m.length<=1):l=m:=by
 rcases m with _|⟨a,_|⟨b,r⟩⟩
 ·exact h.eq_nil
 ·exact List.perm_singleton.mp h
 ·simp at hm
theorem Zfb(T:Tx K mg)(hb:∃mm,base.Ns sysModules mm):Zw P w K mg base CX0 4 T.bX.f T.bX.fd ["_law_world"] (Zur T):=by
 refine T.bX.F.okW Ze5 fun a9 A outer s H vs Q E hr h=>?_
 ·obtain ⟨H0,F,x,tr,ad,st,ps,js,sg,rfl,hw,g,h5,q⟩:=h;intro X;have Q5:=h5.ta.len;have sto:(Xm st.1).length<=1/\∀n∈Xm st.1,(("gate",n):Zc)∈ps:=by
   unfold Xm;have hs:=h5.sp;rcases e:st.1 with _|⟨d,_|⟨d2,r⟩⟩
   ·exact ⟨Nat.zero_le _,fun _ z=>nomatch z⟩
   ·obtain ⟨g,e2,hg⟩:=hs d (by rw [e];exact List.mem_cons_self);rw [List.flatMap_cons,e2];refine ⟨Nat.le_refl _,fun n hn=>?_⟩;have hn:n=g:=by simpa using hn
    rw [hn];exact hg
   ·rw [e] at Q5;simp at Q5
  refine WSs.step (Zv (i:=1) Ze5.nd (Zo (Zb (Yw (pv 0) T.ac T.cZ (Ze7 T) hr.m T.bh.b .nil Yg) (Zb (Yw (pv 0) T.ac T.cB (Zbf T) hr.m T.aQ.b .nil Yg) (Zb (Yw (pv 0) T.ac T.cY (Zfj T) hr.m T.aN.b .nil Yg) Za))))) (exR rfl ⟨x,ad.dx,_,rfl,hw.obj,rfl,H0,F,x,tr,ad,st,rfl,hw,fun D1 H1 s1 n1 e1=>(exR rfl ⟨x,ad.dx,_,rfl,s1.at hw.obj,rfl,H0,F,x,tr,ad,st,ps,js,sg,rfl,hw.mono s1,g.tr,g.yv,by lia,fun pn D2 kvs H2 T9 hso hT s2 n2 e2=>(exR rfl ⟨x,ad.dx,_,rfl,s2.at (s1.at hw.obj),rfl,H0,F,x,tr,ad,st,rfl,hw.mono (s1.trans s2),fun l3 H3 s3 n3 e3=>⟨szA,fun l4 H4 s4 n4 e4=>?_⟩⟩)⟩)⟩);have hk:kvs=pn.map fun n=>(Z8 n,V.bl (decide (n∈Xm st.1))):=hT.2.2 fun n hn=>T9.mem_iff.mpr (List.mem_map.mpr ⟨_,sto.2 n hn,rfl⟩)
  rw [hk] at e2;have k8:=s1.trans (s2.trans (s3.trans s4));have u7:=hw.mono k8;refine WSs.last (Zt (Zl Wj (Zq (r:=Ztm) (Zjj hb hr.gd hr.units) (by rfl) T.fO PyProof.Rows.boot_repr (Zb (Wt (N':=["_law_name", "_law_world"]) rfl (Ya.std 1 [0] rfl (by trivial) (by trivial) rfl ⟨rfl,trivial⟩ rfl rfl ⟨(exR rfl ⟨rfl,rfl⟩),trivial⟩) (Y0 (Yw (pv 0) T.ac T.aV (Xi T) hr.m T.aw.b .nil Yg)) (fun _ _ _ _=>(Zbo (i:=0) (by show (["_law_name", "_law_world"]:List Str).Nodup;decide +kernel))) (fun _ _ _ _=>Zda) (fun _ _ _ _=>(Zo (Zb (pv 0) (Zb (Yu (pv 1) T.ac T.cA (Zel T) hr.m T.ap.b .nil Yg (Zb (pv 0) Za)) Za))))) Za)) (Zq (r:=Ztm) (Zjj hb hr.gd hr.units) (by rfl) T.fO PyProof.Rows.boot_repr (Zb (pv 1) Za)))) (exR rfl ⟨x,ad.dx,_,rfl,u7.obj,rfl,H0,F,x,tr,ad,st,rfl,u7,by lia,fun ss R3 _ l5 H5 s5 n5 e5=>?_⟩);obtain rfl:=Zj1 R3 (by rw [List.length_map];exact Q5);refine ⟨l5,rfl,⟨_,SqL.of e5⟩,fun C hC=>Wb (xs:=(st.1.map Prod.fst).map V.str) (fun i ys H'=>(∃ls:List Addr,ys=ls.map V.ref/\Paired (fun a (d:TrD)=>∃l,H' a=some (.lst [.str d.1,.ref l])/\Zp H' l d.2.2/\a≠C/\l≠C) ls (st.1.take i))/\H' C=some (.lst ys)/\Same H5 H') ⟨⟨[],rfl,.nil⟩,Zi,Same.new hC⟩ ?_ ?_ ?_⟩
  ·rintro i ys H' _ ⟨_,_,sm⟩;exact SqL.of (sm.at e5)
  ·rintro j v ys H' hj ⟨⟨ls,rfl,hls⟩,u6,sm⟩;rw [List.map_map,List.getElem?_map] at hj;obtain ⟨d,hd,rfl⟩:=Option.map_eq_some_iff.mp hj;have hl:=Paired.length hls;rw [List.length_take] at hl;have F3:=u7.mono (s5.trans sm);unfold Zco;refine ⟨Zat.set rfl,_,rfl,_,rfl,x,ad.dx,_,rfl,F3.obj,rfl,_,rfl,H0,F,x,tr,ad,st,d,rfl,F3,by lia,h5.ta.nd,List.mem_of_getElem? hd,fun l7 H7 s7 n7 e7=>⟨szA,fun l8 H8 s8 n8 e8=>⟨s8.at (s7.at u6),?_,⟨ls++[l8],?_,?_⟩,Zi,fun b o e=>?_⟩⟩⟩
   ·rw [List.length_map];exact Zx (by lia)
   ·rw [List.map_append];rfl
   ·rw [List.take_add_one,hd];have hC8:=s8.at (s7.at u6);have c7:l7≠C:=fun z=>by rw [z,u6] at n7;cases n7
    have c8:l8≠C:=fun z=>by rw [z,s7.at u6] at n8;cases n8
    have nt:∀xs,HO.lst (ls.map V.ref) ≠ .tup xs:=fun _ z=>nomatch z
    exact Paired.append (Paired.mapP hls fun a c ⟨l,r1,r2,r3,r4⟩=>⟨l,by rw [Zd r3];exact s8.at (s7.at r1),(r2.mono (s7.trans s8)).offB r4 hC8 nt,r3,r4⟩) (.cons ⟨l7,by rw [Zd c8];exact e8,(e7.mono s8).offB c7 hC8 nt,c8,c7⟩ .nil)
   ·rw [Zd (Zg e hC)];exact s8.at (s7.at (sm.at e))
  ·rintro ys H6 ⟨⟨ls,rfl,hls⟩,hC6,s6⟩;rw [List.length_map,List.length_map,List.take_length] at hls;have d1:=h5.dT g.yv;have d2:=h5.dL g.yv T9;have z1:=d1.half (by decide);have z2:=d2.half (by decide);have e0:sizeLine=16777216:=rfl;have r1:Rp H6 (PyData.list (st.1.map K52.dT)) (.ref C):=by
    refine .lst hC6 ?_;clear hC6;generalize st.1=ds at hls ⊢
    induction hls with
    | nil=>exact .nil
    | cons r _ ih =>
     obtain ⟨l,r1,r2,_⟩:=r;exact .cons (.lst r1 (.cons (.str _) (.cons (Zm8 r2) .nil))) ih
   have s26:=s3.trans (s4.trans (s5.trans s6));have r2:Rp H6 (K52.dL st pn) (.ref l4):=.lst ((s5.trans s6).at e4) (.cons (Zqe (k:=Prod.fst) ((s2.trans s26).at e1) fun _=>.str _) (.cons (Zqe (k:=id) (s26.at e2) fun _=>.bl _) (.cons (Zm8 (e3.mono (s4.trans (s5.trans s6)))) .nil)));refine ⟨C,_,rfl,r1,d1.1,Nat.le_trans d1.2.2.1 (by decide),by lia,_,rfl,l4,_,rfl,r2,d2.1,Nat.le_trans d2.2.2.1 (by decide),by lia,.inr (.inl ⟨_,_,rfl,rfl,by lia,q pn H6 T9 hso (k8.trans (s5.trans s6))⟩)⟩
theorem WAt.inF{T:Tx K mg}{H0 H:Hp}{F:Addr->Prop}{x tr:Addr}{ad:WAd}{st:WSt}(h:WAt T H0 H F x tr ad st){b:Addr}(e:Zog ad b):F b:=by
 rcases e with e|e|e|e
 ·rw [e];exact h.fl
 ·rw [e];exact h.ft
 ·rw [e];exact h.fm
 ·exact h.fa b e
theorem Zro{ps:List Zc}{st:WSt}(h5:S52 ps st):(Xm st.1).length<=1:=by
 have Q5:=h5.ta.len;unfold Xm;rcases e:st.1 with _|⟨d,_|⟨d2,r⟩⟩
 ·exact Nat.zero_le _
 ·obtain ⟨g,e2,hg⟩:=h5.sp d (by rw [e];exact List.mem_cons_self);rw [List.flatMap_cons,e2];exact Nat.le_refl _
 ·rw [e] at Q5;simp at Q5
def Zw8(T:Tx K mg):Sp:=fun vs H Q _=>∃(H0:Hp) (F:Addr->Prop) (x tr gl pl:Addr) (ad:WAd) (st:WSt) (ps:List Zc) (js:List (Zc×Zc)) (sg:List (Str×Str×Str)) (gs os:List Str),vs=[.ref x,.ref gl,.ref pl]/\WAt T H0 H F x tr ad st/\Gr T H0 tr ps js sg/\S52 ps st/\H gl=some (.lst (gs.map V.str))/\(∀n∈gs,(("gate",n):Zc)∈ps)/\H pl=some (.lst (os.map V.str))/\(∀n∈os,(("points",n):Zc)∈ps/\n∈st.2.1.map Prod.fst)/\¬F gl/\¬F pl/\∀H',Q (.bl true) H'
theorem Zlv(T:Tx K mg):Zw P w K mg base CX0 7 T.cp.f T.cp.fd ["_law_world", "_law_gates", "_law_points"] (Zw8 T):=by
 refine T.cp.F.okW Zf6 fun a9 A outer s H vs Q E hr h=>?_
 ·obtain ⟨H0,F,x,tr,gl,pl,ad,st,ps,js,sg,gs,os,rfl,hw,g,h5,L1,M0,i7,hos,ngl,npl,q⟩:=h;intro X;have Q5:=h5.ta.len;have sto:=Zro h5;have mi0:st.2.2.length=0:=by rw [h5.mi];rfl
  have ll:=h5.ll;let I23:=fun (σ:St) (H':Hp)=>σ=[some (.ref x),some (.ref gl),some (.ref pl),none]/\∃lw ms,WAt T H0 H' F x tr ad (st.1,lw,ms)/\ms.length<=1/\H' gl=some (.lst (gs.map V.str))
  refine WSs.cut I23 ?_ ?_
  ·refine WS.of (Z0 (Zm (r:=Zgb K) (Zh2 hr) (pv 2) (Zo Za) (Zu _)) Zr Zn) (exR rfl ⟨szA,fun le H1 s1 n1 e1=>.inr (.inl ⟨1,.lst (os.map Tr.str),.lst [],by decide,.inr ⟨_,_,rfl,rfl⟩,Zgr (s1.at i7),Im.lst (n:=0) (SqL.of e1) .nil,_,rfl,Yo (fun z=>?_) (fun _=>⟨rfl,st.2.1,st.2.2,hw.mono s1,by lia,s1.at L1⟩)⟩)⟩);obtain ⟨p0,r,rfl⟩:∃p0 r,os=p0 ::r:=by
    cases os with
    | nil =>
     rw [if_pos rfl,decide_eq_true (show Tr.lst (List.map Tr.str [])=Tr.lst [] from rfl)] at z;cases z
    | cons p0 r=>exact ⟨p0,r,rfl⟩
   obtain ⟨hm,hn⟩:=hos p0 List.mem_cons_self;have t6:=hw.mono s1;have hp1:=s1.at i7;refine WSs.step (Z4 (Yu (pv 0) T.ac T.cX (Zko T) hr.m T.aB.b .nil Yg (Zb (Z1 (K:=K) rfl (pv 2) Ze) (Zb Zf Za)))) (exR rfl ⟨x,ad.dx,_,rfl,t6.obj,rfl,_,rfl,.inl ⟨pl,_,0,.str p0,rfl,rfl,SqL.of hp1,Y1 (j:=0) rfl,H0,F,x,tr,ad,st,ps,js,sg,p0, "right",rfl,t6,g.tr,g.yv,by lia,by lia,by lia,hm,hn,.inr rfl,fun H2 o2 A5=>?_⟩⟩);have hp2:=o2 _ _ (fun z=>npl (t6.inF z)) hp1;have hv:Yv (Zcr (Zvb st.2.1 p0 "right")) (Z8 p0)=some (.str "right"):=by rw [<-Zqa hn,Znk,if_pos rfl]
   refine WSs.last (Z0 (Zm (r:=Zgb K) (Zh2 hr) (Zbx (W5 hr) (Yw (pv 0) T.ac T.cZ (Ze7 T) hr.m T.bh.b .nil Yg) (Z1 (K:=K) rfl (pv 2) Ze) (fun _ _=>rfl)) Zf (Zu _)) Zr Zn) (exR rfl ⟨x,ad.dx,_,rfl,A5.obj,rfl,H0,F,x,tr,ad,_,rfl,A5,fun D H3 s3 n3 e3=>(exR rfl (.inl ⟨pl,_,0,.str p0,rfl,rfl,SqL.of (s3.at hp2),Y1 (j:=0) rfl,D,_,rfl,by rw [<-hv];exact Zab.k (k:=Z8 p0) e3,.inl ⟨rfl,_,rfl,Yo (fun y=>absurd y (by decide)) (fun _=>⟨rfl,_,_,A5.mono s3,?_,s3.at (o2 _ _ (fun z=>ngl (t6.inF z)) (s1.at L1))⟩)⟩⟩))⟩);show (Zjm st p0 "right").2.2.length<=1;unfold Zjm;split
   ·rw [List.length_append];show st.2.2.length+1<=1;lia
   ·show st.2.2.length<=1;lia
  rintro σ H1 ⟨rfl,lw,ms,t6,hms,hg1⟩;refine WSs.step (Z0 (Zm (r:=Wa K) (Wd hr) (pv 1) (Zo Za) (Zu _)) Zr Zn) (exR rfl ⟨szA,fun le H2 s2 n2 e2=>.inr (.inl ⟨1,.lst (gs.map Tr.str),.lst [],by decide,.inr ⟨_,_,rfl,rfl⟩,Zgr (s2.at hg1),Im.lst (n:=0) (SqL.of e2) .nil,_,rfl,Yo (fun _=>WSs.last (Zt Zcu) (q H2)) (fun z=>?_)⟩)⟩);have u4:gs≠[]:=fun y=>z (by rw [y,if_neg (by decide)];exact decide_eq_true rfl)
  have A5:=t6.mono s2;have hg2:=s2.at hg1;refine WSs.step (We PassesOwn.never rfl (Y0 (Yw (pv 0) T.ac T.aV (Xi T) hr.m T.aw.b .nil Yg)) (Xn (i:=3) Zf6.nd) Zr) (exR rfl ⟨x,ad.dx,_,rfl,A5.obj,rfl,H0,F,x,tr,ad,_,rfl,A5,(by show st.1.length<64;lia),fun ss R3 _ l3 H3 s3 n3 e3=>?_⟩);obtain rfl:=Zj1 R3 (by rw [List.length_map];exact Q5);have nl3:¬F l3:=fun z=>by
   obtain ⟨o,y⟩:=A5.live l3 z;rw [n3] at y;cases y
  let I24:=fun (i:Nat) (σ:St) (H':Hp)=>(∃o,σ=[some (.ref x),some (.ref gl),some (.ref pl),o])/\H' l3=some (.lst ((st.1.map Prod.fst).map V.str))/\H' gl=some (.lst (gs.map V.str))/\∃ad,WAt T H0 H' F x tr ad (st.1.drop i,lw,ms)
  refine ⟨l3,rfl,⟨_,SqL.of e3⟩,Zbg (K:=K) (xs:=(st.1.map Prod.fst).map V.str) I24 ⟨⟨none,rfl⟩,e3,s3.at hg2,ad,A5.mono s3⟩ ?_ ?_ ?_⟩
  ·rintro i σ H' _ ⟨_,h,_⟩;exact SqL.of h
  ·rintro i v σ H4 hi ⟨⟨o,rfl⟩,h3,hg4,ad4,u7⟩;rw [List.map_map,List.getElem?_map] at hi;obtain ⟨d,hd,rfl⟩:=Option.map_eq_some_iff.mp hi;have L5:=(List.getElem?_eq_some_iff.mp hd).1;have hdr:st.1.drop i=d ::st.1.drop (i+1):=by
    rw [List.drop_eq_getElem_cons L5];rw [List.getElem?_eq_getElem L5] at hd;rw [Option.some.inj hd]
   rw [hdr] at u7;refine WSs.last (Z4 (Yu (pv 0) T.ac T.cC (Zei T) hr.m T.ao.b .nil Yg (Zb (pv 3) Za))) (exR rfl ⟨x,ad4.dx,_,rfl,u7.obj,rfl,_,rfl,H0,F,x,tr,ad4,_,0,d,rfl,u7,?_,?_,rfl,fun H5 o5 C4=>⟨⟨_,rfl⟩,o5 _ _ (fun z=>nl3 (u7.inF z)) h3,o5 _ _ (fun z=>ngl (u7.inF z)) hg4,_,C4⟩⟩)
   ·show (d ::st.1.drop (i+1)).length<64;rw [<-hdr,List.length_drop];lia
   ·show ((d ::st.1.drop (i+1)).map Prod.fst).Nodup;rw [<-hdr,List.map_drop];exact h5.ta.nd.sublist (List.drop_sublist _ _)
  rintro σ H4 ⟨⟨o,rfl⟩,_,hg4,ad4,u7⟩;rw [List.length_map,List.length_map,List.drop_length] at u7;clear t6 A5 s2 s3 e3 n3 nl3 hg1 hg2;obtain ⟨gn,hgn⟩:∃gn,gs.getLast? =some gn:=⟨_,List.getLast?_eq_some_getLast u4⟩
  obtain ⟨gp,rfl⟩:=List.getLast?_eq_some_iff.mp hgn;have hla:atI ((gp++[gn]).map V.str) (-1)=some (.str gn):=by
   rw [List.map_append];exact Zr1 _ _
  refine WSs.step (Z4 (Yu (pv 0) T.ac T.bY (Zb0 T) hr.m T.ar.b .nil Yg (Zb Zf (Zb Ze (Zb (Z1 (K:=K) rfl (pv 1) (Zr0 Zor Ze)) Za))))) (exR rfl ⟨x,ad4.dx,_,rfl,u7.obj,rfl,_,rfl,_,rfl,.inl ⟨gl,_,_,.str gn,rfl,rfl,SqL.of hg4,hla,H0,F,x,tr,ad4,_,ps,js,sg, "ta",gn,2,rfl,u7,g.tr,g.yv,Nat.zero_le _,(by show ms.length<=400;lia),Nat.zero_le _,Zll,(fun z=>nomatch z),M0 gn (by simp),by decide,by decide,fun H5 F5 ad5 f1 f2 _ o5 C4=>?_⟩⟩);have c5:Zlm ([],lw,ms) "ta" 2 gn=([(("ta" :Str),2,[((gn, ""):Zc)])],lw,ms):=if_neg List.not_mem_nil;rw [c5] at C4;have ngl5:¬F5 gl:=fun z=>(f2 gl z).elim ngl fun y=>by rw [hg4] at y;cases y
  have hg5:=o5 _ _ (fun z=>ngl (u7.inF z)) hg4;refine WSs.step (Z4 (Yu (pv 0) T.ac T.cC (Zei T) hr.m T.ao.b .nil Yg (Zb Zf Za))) (exR rfl ⟨x,ad5.dx,_,rfl,C4.obj,rfl,H0,F5,x,tr,ad5,_,0,("ta",2,[((gn, ""):Zc)]),rfl,C4,(by show 1<64;decide),List.pairwise_singleton _ _,rfl,fun H6 o6 F3=>?_⟩);have hg6:=o6 _ _ (fun z=>ngl5 (C4.inF z)) hg5;obtain ⟨g0,r,e0⟩:∃g0 r,gp++[gn]=g0 ::r:=by
   cases gp with
   | nil=>exact ⟨gn,[],rfl⟩
   | cons a b=>exact ⟨a,b++[gn],rfl⟩
  rw [e0] at hg6 M0;clear hla hgn u4 z u7 hg4 C4 hg5 o5 o6;generalize hA:(⟨ad5.dx,ad5.ld,ad5.td,ad5.ml,ad5.as.eraseIdx 0⟩:WAd)=ad6 at F3
  replace F3:WAt T H0 H6 F5 x tr ad6 ([],lw,ms):=F3
  refine WSs.step (Z4 (Yu (pv 0) T.ac T.bY (Zb0 T) hr.m T.ar.b .nil Yg (Zb Zf (Zb Ze (Zb (Z1 (K:=K) rfl (pv 1) Ze) Za))))) (exR rfl ⟨x,ad6.dx,_,rfl,F3.obj,rfl,_,rfl,.inl ⟨gl,_,0,.str g0,rfl,rfl,SqL.of hg6,Y1 (j:=0) rfl,H0,F5,x,tr,ad6,_,ps,js,sg, "ta",g0,1,rfl,F3,g.tr,g.yv,Nat.zero_le _,(by show ms.length<=400;lia),Nat.zero_le _,Zll,(fun z=>nomatch z),M0 g0 List.mem_cons_self,by decide,by decide,fun H7 F7 ad7 _ _ _ o7 L0=>?_⟩⟩);have c7:Zlm ([],lw,ms) "ta" 1 g0=([(("ta" :Str),1,[((g0, ""):Zc)])],lw,ms):=if_neg List.not_mem_nil;rw [c7] at L0;have hg7:=o7 _ _ (fun z=>ngl5 (F3.inF z)) hg6;refine WSs.last (Zt (Zgw (X9 (r:=Wa K) (Wd hr) (Yw (pv 0) T.ac T.aV (Xi T) hr.m T.aw.b .nil Yg) (Zo (Zb Zf Za)) (Zu _)) (Zmt (X9 (r:=Wa K) (Wd hr) (Yu (pv 0) T.ac T.cA (Zel T) hr.m T.ap.b .nil Yg (Zb Zf Za)) (Zo (Zb (Zj (Zb (Z1 (K:=K) rfl (pv 1) Ze) (Zb Zf Za))) Za)) (Zu _))))) (exR rfl ⟨x,ad7.dx,_,rfl,L0.obj,rfl,H0,F7,x,tr,ad7,_,rfl,L0,(by show 1<64;decide),fun ss R3 _ l8 H8 s8 n8 e8=>⟨szA,fun l9 H9 s9 n9 e9=>?_⟩⟩);obtain rfl:=Zj1 R3 (Nat.le_refl 1);have I0:=L0.mono (s8.trans s9);refine .inr (.inl ⟨1,.lst [.str "ta"],.lst [.str "ta"],by decide,.inr ⟨_,_,rfl,rfl⟩,Zgr (ss:=["ta"]) (s9.at e8),Im.lst (n:=0) (SqL.of e9) (.cons (.str _) .nil),?_⟩);rw [if_neg (by decide),decide_eq_true rfl];refine (exR rfl (Zd3 (exR rfl ⟨x,ad7.dx,_,rfl,I0.obj,rfl,H0,F7,x,tr,ad7,_,("ta",1,[((g0, ""):Zc)]),rfl,I0,(by show 1<64;decide),List.pairwise_singleton _ _,List.mem_cons_self,fun lA HA sA nA eA=>(exR rfl (.inl ⟨gl,_,0,.str g0,rfl,rfl,SqL.of (sA.at (s9.at (s8.at hg7))),Y1 (j:=0) rfl,szA,fun tB HB sB nB eB=>⟨szA,fun lC HC sC nC eC=>.inr (.inl ⟨2,.lst [trP (g0, "")],.lst [trP (g0, "")],by decide,.inr ⟨_,_,rfl,rfl⟩,Zp.im (eA.mono (sB.trans sC)),Zp.im (ps:=[(g0, "")]) ⟨[tB],eC,.cons (sC.at eB) .nil⟩,?_⟩)⟩⟩))⟩)));rw [if_neg (by decide),decide_eq_true rfl];exact q HC
theorem Zdw.offL{H:Hp}{c x C:Addr}{o:HO}{xs:List V}{nm:Str}(h:Zdw H C x nm)(hc:H c=some (.lst xs)):Zdw (upd H c o) C x nm:=by
 obtain ⟨dx,h⟩:=h;exact ⟨dx,(Zd fun z=>by rw [z,hc] at h;cases h).trans h⟩
def Zxx(H:Hp)(t:Addr)(ps:List Zc)(js:List (Zc×Zc))(sg:List (Str×Str×Str)):Prop:=∃pl jl sl,H t=some (.tup [.ref pl,.ref jl,.ref sl])/\Zp H pl ps/\Yi H jl js/\Zb5 H sl sg
def Zyn(T:Tx K mg):Sp:=fun vs H Q _=>∃(t:Addr) (ps:List Zc) (js:List (Zc×Zc)) (sg:List (Str×Str×Str)),vs=[.ref t]/\Zxx H t ps js sg/\Xx ps js sg/\∀x H',Same H H'->H x=none->Yh T H' x ps js sg->Q (.ref x) H'
theorem Zj9(T:Tx K mg):Zw P w K mg base CX0 7 T.bL.f T.bL.fd ["_law_yard"] (Zyn T):=by
 refine T.bL.F.okW Ziy fun a9 A outer s H vs Q E hr h=>?_
 ·obtain ⟨t,ps,js,sg,rfl,⟨pl,jl,sl,ht,⟨ts,i7,i8⟩,t9,U5⟩,yv,q⟩:=h;intro X;have htl:=Paired.length i8;have ylen:=yv.len;refine WSs.last (Zt (Zah (Zlf T) T.fK (Zfq T) hr.m rfl T.fZ T.aM.b .nil Yg (Zqt T) (Zb (Wt (N':=["_law_kind", "_law_name"]) rfl (Ya.std 2 [] rfl (by trivial) (by trivial) rfl trivial rfl rfl trivial) (Y0 (Z1 (K:=K) rfl (pv 0) Ze)) (fun _ _ _ _=>(Zgf (K:=K) (n:=2) rfl rfl (Z7 (Zbo (i:=0) (by show (["_law_kind", "_law_name"]:List Str).Nodup;decide +kernel)) (Z7 (Zbo (i:=1) (by show (["_law_kind", "_law_name"]:List Str).Nodup;decide +kernel)) X8)))) (fun _ _ _ _=>Zda) (fun _ _ _ _=>(Yj (Zl2 T) hr T.eL (Zb (pv 0) (Zb (pv 1) Za))))) (Zb (Z1 (K:=K) rfl (pv 0) Ze) (Zb (Z1 (K:=K) rfl (pv 0) Ze) Za))))) (exR rfl (ixT ht 0 rfl ⟨pl,rfl,⟨_,SqL.of i7⟩,fun D hD=>Wb (K:=K) (xs:=ts.map V.ref) (fun i ys H'=>(∃xs:List Addr,ys=xs.map V.ref/\Paired (PO T H') xs (ps.take i))/\H' D=some (.lst ys)/\Same H H') ⟨⟨[],rfl,.nil⟩,Zi,Same.new hD⟩ ?_ ?_ ?_⟩))
  ·rintro i ys H' _ ⟨_,_,sm⟩;exact SqL.of (sm.at i7)
  ·rintro i v ys H1 hi ⟨⟨xs,rfl,hxs⟩,L7,s1⟩;rw [List.getElem?_map] at hi;obtain ⟨u,hu,rfl⟩:=Option.map_eq_some_iff.mp hi;obtain ⟨p,hp,hpu⟩:=Paired.get i8 hu;have hpu:H u=some (.tup [.str p.1,.str p.2]):=hpu;have hm:p∈ps:=List.mem_of_getElem? hp;have hxl:xs.length<=100:=by
    have:=Paired.length hxs;rw [List.length_take] at this;lia
   refine ⟨u,_,rfl,SqT.of (s1.at hpu),rfl,_,_,rfl,_,_,rfl,rfl,(Zat.set rfl).trans (Zat.set rfl),_,rfl,_,rfl,p.1,p.2,rfl,yv.net.kind p hm,(yv.name p hm).2.1,fun x C H2 s2 n2 hC hO=>⟨s2.at L7,by rw [List.length_map];exact Zx (by lia),⟨xs++[x],by rw [List.map_append];rfl,?_⟩,Zi,fun b o z=>?_⟩⟩
   ·rw [List.take_add_one,hp];exact Paired.append (Paired.mapP hxs fun _ _ ⟨C,z1,z2⟩=>⟨C,z1,(z2.mono s2).offL (s2.at L7)⟩) (.cons ⟨C,hC,hO.offL (s2.at L7)⟩ .nil)
   ·rw [Zd (Zg z hD)];exact s2.at (s1.at z)
  ·rintro ys H1 ⟨⟨xs,rfl,hxs⟩,L7,s1⟩;rw [List.length_map,htl,List.take_length] at hxs;exact ⟨_,rfl,(ixT (s1.at ht) 1 rfl ⟨_,rfl,(ixT (s1.at ht) 2 rfl ⟨D,jl,sl,xs,ps,js,sg,rfl,L7,hxs,t9.mono s1,U5.mono s1,yv,fun x H2 s2 n2 tr=>q x H2 (s1.trans s2) (s1.free n2) tr⟩)⟩)⟩
theorem nmY.zz{s:Str}(h:nmY s):s ≠ "zz" :=by
 have lz:Zfe "zz" =122:=by trivial
 rcases h with rfl|rfl|⟨kd,c,j,_,hj,rfl⟩|⟨j,hj,rfl⟩
 ·decide +kernel
 ·decide +kernel
 ·intro z;have:=Zlc (kd:=kd) (c:=c) (show j<100 by lia);rw [z,lz] at this;lia
 ·intro z;have:=Zn1 (show j<100 by lia);rw [z,lz] at this;lia
def Xy(f:Str->Bool)(ps:List Zc):List Str:=(ps.filter fun p=>f p.1).map Prod.snd
theorem Zdm(f:Str->Bool)(ps:List Zc):(Xy f ps).length<=ps.length:=by
 unfold Xy;rw [List.length_map];exact List.length_filter_le _ _
theorem Zfs{f:Str->Bool}{ps:List Zc}{n:Str}:n∈Xy f ps↔∃k,((k,n):Zc)∈ps/\f k=true:=by
 unfold Xy
 constructor
 ·intro h;obtain ⟨p,hp,rfl⟩:=List.mem_map.mp h;obtain ⟨h1,h2⟩:=List.mem_filter.mp hp;exact ⟨p.1,h1,h2⟩
 ·rintro ⟨k,h1,h2⟩;exact List.mem_map.mpr ⟨_,List.mem_filter.mpr ⟨h1,h2⟩,rfl⟩
theorem Zl4{f:Str->Bool}{pl D:Addr}{ts:List Addr}{ps:List Zc}{H1:Hp}{Q:VK}{σ:St}(hl:H1 pl=some (.lst (ts.map V.ref)))(hp:Paired (Zs H1) ts ps)(hn:ps.length<=100)(hD:H1 D=none)(q:∀H',Same H1 H'->H' D=some (.lst ((Xy f ps).map V.str))->Q (.ref D) H'){fr:St->St}(u9:fr σ=[none,none]){tf:TT}(htf:∀σ H Q k',σ[0]? =some (some (V.str k'))->Q (f k') H->tf σ H Q){te:TE}(L8:te=Zic 1) :
  Zfd (Itl K pl) fr (Zx2 K 2 (Ztf (Zdt 0) (Ztf (Zdt 1) Zz3))) tf te Q σ H1 D:=by
 refine Wb (xs:=ts.map V.ref) (fun i ys H'=>ys=(Xy f (ps.take i)).map V.str/\H' D=some (.lst ys)/\Same H1 H') ⟨rfl,Zi,Same.new hD⟩ ?_ ?_ ?_
 ·rintro i ys H' _ ⟨_,_,sm⟩;exact SqL.of (sm.at hl)
 ·rintro j v ys H' hj ⟨rfl,u6,sm⟩;rw [List.getElem?_map] at hj;obtain ⟨t,htj,rfl⟩:=Option.map_eq_some_iff.mp hj;obtain ⟨⟨k',n'⟩,hq,J6⟩:=Paired.get hp htj;have B9:=Zdm f (ps.take j);rw [List.length_take] at B9;have hsn:Xy f (ps.take (j+1))=Xy f (ps.take j)++if f k'=true then [n'] else []:=by
   unfold Xy;rw [List.take_add_one,hq,List.filter_append,List.map_append,show (some ((k',n'):Zc)).toList=[(k',n')] from rfl,List.filter_cons];split <;>rfl
  unfold Zco;rw [u9,L8];refine ⟨t,_,rfl,SqT.of (sm.at J6),rfl,_,_,rfl,_,_,rfl,rfl,(Zat.set rfl).trans (Zat.set rfl),htf _ _ _ k' rfl (Yo (fun z=>?_) (fun z=>?_))⟩
  ·rw [hsn,if_pos z];refine (exR rfl ⟨u6,by rw [List.length_map];exact Zx (by lia),by rw [List.map_append];rfl,Zi,fun b o y=>?_⟩);rw [Zd (Zg y hD)];exact sm.at y
  ·rw [hsn,if_neg z,List.append_nil];exact ⟨rfl,u6,sm⟩
 ·rintro ys H6 ⟨rfl,E5,s6⟩;refine q H6 s6 ?_;rw [E5,List.length_map,Paired.length hp,List.take_length]
theorem Zxz{f:Addr}{fd:FuncData} (F:Fun K "law" "law" Zgn f fd) (T:Tx K mg) (hb:∃mm,base.Ns sysModules mm):Zw P w K mg base CX0 10 f fd ["_law_script"] (Zjy K T.tabs):=by
 refine F.okW Zca fun a9 A outer s H vs Q E hr h=>?_
 ·obtain ⟨a,ns,rfl,hS,R1,P5,q⟩:=h;intro X;have tb:=Zo0.of P5;refine WSs.step (Zv (i:=1) Zca.nd (Yj (Zhw T) hr T.dz (Zb (Yj (Zkc T) hr T.dZ (Zb (pv 0) (Zb Ze (Zb Ze Za)))) (Zb (Xv (X2 T) hr rfl T.bf T.ag.F.kp T.ag.b .nil Yg (Zb (pv 0) (Zb Ze Za))) Za)))) (exR rfl ⟨a,ns,12,26,rfl,hS,R1,by decide,by decide,fun cl H1 cs s1 n1 e1 hc p7=>(exR rfl ⟨a,ns,0,rfl,s1.seq hS,cl,_,cs,rfl,SqL.of e1,fun c h=>(hc c h).1,p7,fun t pl jl gl H2 ps js sg s2 ht hP hJ hG yo=>?_⟩)⟩);have A3:=s1.trans s2;have yv:=yo.v;have ylen:=yv.len;refine WSs.step (Zv (i:=2) Zca.nd (Zah (Zn3 T) T.gc (Zgh T) hr.m rfl T.gw T.aU.b .nil Yg (Zth T) (Zb (Yj (Zj9 T) hr T.dO (Zb (pv 1) Za)) Za))) (exR rfl ⟨t,ps,js,sg,rfl,⟨pl,jl,gl,ht,hP,hJ,hG⟩,yv,fun tr H0 s0 n0 ht0=>⟨tr,ps,js,sg,rfl,ht0,yv,fun x gs H3 F ad gnd hg L1 hx hw=>?_⟩⟩);have gr:Gr T H0 tr ps js sg:=⟨ht0,yv,tb.mono (A3.trans s0)⟩
  have hS0:=(A3.trans s0).seq hS;obtain ⟨ts0,y2,y2'⟩:=hP.mono s0;have y1:=hw.same.at (s0.at ht)
  replace y2:=hw.same.at y2
  replace y2':=Paired.mapP y2' fun _ _ r=>r.mono hw.same
  clear hP hJ hG ht s1 n1 e1 s2 hc p7 hS tb P5 A3;refine WSs.cut (fun σ H'=>∃l1,σ=[some (.ref a),some (.ref t),some (.ref x),some (.ref l1),none,none,none,none,none,none]/\Same H3 H'/\H3 l1=none/\H' l1=some (.lst ((Xy (fun k=>decide (V.str k=V.str "gate")) ps).map V.str))) ?_ ?_
  ·refine WS.of (Zad (i:=3) (N':=["_law_kind", "_law_name"]) Zca.nd rfl (Or.inl rfl) rfl (Ya.std 2 [] rfl (by trivial) (by trivial) rfl trivial rfl rfl trivial) (Y0 (Z1 (K:=K) rfl (pv 1) Ze)) (fun _ _ _ _=>(Zgf (K:=K) (n:=2) rfl rfl (Z7 (Zbo (i:=0) (by show (["_law_kind", "_law_name"]:List Str).Nodup;decide +kernel)) (Z7 (Zbo (i:=1) (by show (["_law_kind", "_law_name"]:List Str).Nodup;decide +kernel)) X8)))) (fun _ _ _ _=>(Zd4 (Zm (r:=Wa K) (Wd hr) (pv 0) Zf (Zu _)))) (fun _ _ _ _=>(pv 1))) (exR rfl (ixT y1 0 rfl ⟨pl,rfl,⟨_,SqL.of y2⟩,fun D hD=>Zl4 (f:=fun k=>decide (V.str k=V.str "gate")) y2 y2' (by lia) hD (fun HD sD eD=>⟨D,rfl,sD,hD,eD⟩) ?aa ?bb ?cc⟩))
   case aa=>rfl
   case bb=>exact fun σ H Q k' h q=>⟨_,h,.inl ⟨rfl,_,rfl,q⟩⟩
   case cc=>rfl
  rintro σ H4 ⟨l1,rfl,s4,n4,e4⟩;refine WSs.cut (fun σ H'=>∃l2,σ=[some (.ref a),some (.ref t),some (.ref x),some (.ref l1),some (.ref l2),none,none,none,none,none]/\Same H4 H'/\H4 l2=none/\H' l2=some (.lst ((Xy (fun k=>decide (V.str k=V.str "points")) ps).map V.str))) ?_ ?_
  ·refine WS.of (Zad (i:=4) (N':=["_law_kind", "_law_name"]) Zca.nd rfl (Or.inl rfl) rfl (Ya.std 2 [] rfl (by trivial) (by trivial) rfl trivial rfl rfl trivial) (Y0 (Z1 (K:=K) rfl (pv 1) Ze)) (fun _ _ _ _=>(Zgf (K:=K) (n:=2) rfl rfl (Z7 (Zbo (i:=0) (by show (["_law_kind", "_law_name"]:List Str).Nodup;decide +kernel)) (Z7 (Zbo (i:=1) (by show (["_law_kind", "_law_name"]:List Str).Nodup;decide +kernel)) X8)))) (fun _ _ _ _=>(Zd4 (Zm (r:=Wa K) (Wd hr) (pv 0) Zf (Zu _)))) (fun _ _ _ _=>(pv 1))) (exR rfl (ixT (s4.at y1) 0 rfl ⟨pl,rfl,⟨_,SqL.of (s4.at y2)⟩,fun D hD=>Zl4 (f:=fun k=>decide (V.str k=V.str "points")) (s4.at y2) (Paired.mapP y2' fun _ _ r=>r.mono s4) (by lia) hD (fun HD sD eD=>⟨D,rfl,sD,hD,eD⟩) ?aa ?bb ?cc⟩))
   case aa=>rfl
   case bb=>exact fun σ H Q k' h q=>⟨_,h,.inl ⟨rfl,_,rfl,q⟩⟩
   case cc=>rfl
  rintro σ H5 ⟨l2,rfl,s5,n5,e5⟩;have O1:=s4.trans s5;refine WSs.cut (fun σ H'=>∃l3,σ=[some (.ref a),some (.ref t),some (.ref x),some (.ref l1),some (.ref l2),some (.ref l3),none,none,none,none]/\Same H5 H'/\H5 l3=none/\H' l3=some (.lst ((Xy (fun k=>!decide (V.str k=V.str "points")) ps).map V.str))) ?_ ?_
  ·refine WS.of (Zad (i:=5) (N':=["_law_kind", "_law_name"]) Zca.nd rfl (Or.inl rfl) rfl (Ya.std 2 [] rfl (by trivial) (by trivial) rfl trivial rfl rfl trivial) (Y0 (Z1 (K:=K) rfl (pv 1) Ze)) (fun _ _ _ _=>(Zgf (K:=K) (n:=2) rfl rfl (Z7 (Zbo (i:=0) (by show (["_law_kind", "_law_name"]:List Str).Nodup;decide +kernel)) (Z7 (Zbo (i:=1) (by show (["_law_kind", "_law_name"]:List Str).Nodup;decide +kernel)) X8)))) (fun _ _ _ _=>(Zd4 (Zm (r:=Zgb K) (Zh2 hr) (pv 0) Zf (Zu _)))) (fun _ _ _ _=>(pv 1))) (exR rfl (ixT (O1.at y1) 0 rfl ⟨pl,rfl,⟨_,SqL.of (O1.at y2)⟩,fun D hD=>Zl4 (f:=fun k=>!decide (V.str k=V.str "points")) (O1.at y2) (Paired.mapP y2' fun _ _ r=>r.mono O1) (by lia) hD (fun HD sD eD=>⟨D,rfl,sD,hD,eD⟩) ?aa ?bb ?cc⟩))
   case aa=>rfl
   case bb=>exact fun σ H Q k' h q=>⟨_,h,.inl ⟨rfl,_,rfl,q⟩⟩
   case cc=>rfl
  rintro σ H6 ⟨l3,rfl,s6,n6,e6⟩;have T4:∀n,n∈Xy (fun k=>decide (V.str k=V.str "gate")) ps↔(("gate",n):Zc)∈ps:=fun n=>Zfs.trans ⟨fun ⟨k,h1,h2⟩=>by rw [V.str.inj (of_decide_eq_true h2)] at h1;exact h1,fun h=>⟨_,h,decide_eq_true rfl⟩⟩
  have T5:∀n,n∈Xy (fun k=>decide (V.str k=V.str "points")) ps↔(("points",n):Zc)∈ps:=fun n=>Zfs.trans ⟨fun ⟨k,h1,h2⟩=>by rw [V.str.inj (of_decide_eq_true h2)] at h1;exact h1,fun h=>⟨_,h,decide_eq_true rfl⟩⟩
  have omem:∀n∈("zz" :Str) ::Xy (fun k=>!decide (V.str k=V.str "points")) ps,(("points",n):Zc)∉ps:=fun n hn hp=>by
   rcases List.mem_cons.mp hn with rfl|hn
   ·exact nmY.zz (yo.name _ hp).nm rfl
   ·obtain ⟨k,h1,h2⟩:=Zfs.mp hn;have:=Zse yv.net.nd h1 hp rfl;cases this;rw [decide_eq_true rfl] at h2;cases h2
  have gl1:=Zdm (fun k=>decide (V.str k=V.str "gate")) ps;have pl1:=Zdm (fun k=>decide (V.str k=V.str "points")) ps;have ol1:=Zdm (fun k=>!decide (V.str k=V.str "points")) ps;generalize Xy (fun k=>decide (V.str k=V.str "gate")) ps=gts at e4 T4 gl1;generalize Xy (fun k=>decide (V.str k=V.str "points")) ps=pts at e5 T5 pl1;generalize Xy (fun k=>!decide (V.str k=V.str "points")) ps=ots at e6 omem ol1;have F3:=hw.mono (O1.trans s6);have f1:¬F l1:=fun z=>by
   obtain ⟨o,e⟩:=hw.live l1 z;rw [n4] at e;cases e
  have f2:¬F l2:=fun z=>by
   obtain ⟨o,e⟩:=(hw.mono s4).live l2 z;rw [n5] at e;cases e
  have f3:¬F l3:=fun z=>by
   obtain ⟨o,e⟩:=(hw.mono O1).live l3 z;rw [n6] at e;cases e
  have e4':=(s5.trans s6).at e4;have e5':=s6.at e5;have lwk:∀p∈(gs.map fun n=>(n,("left" :Str))),Yz p.1/\(p.2 = "left" \/p.2 = "right"):=fun p hp=>by
   obtain ⟨n,hn,rfl⟩:=List.mem_map.mp hp;exact ⟨yv.name _ ((hg n).mp hn),.inl rfl⟩
  have lwl:(gs.map fun n=>(n,("left" :Str))).length<=40:=by rw [List.length_map];exact L1
  have lwm:∀n∈pts,(("points",n):Zc)∈ps/\n∈(gs.map fun n=>(n,("left" :Str))).map Prod.fst:=fun n hn=>⟨(T5 n).mp hn,List.mem_map.mpr ⟨(n, "left"),List.mem_map.mpr ⟨n,(hg n).mpr ((T5 n).mp hn),rfl⟩,rfl⟩⟩
  clear hw e4 e5 n4 n5 n6 s4 s5 s6 O1 y1 y2 y2' hx gnd hg L1;generalize (gs.map fun n=>(n,("left" :Str)))=lw at F3 lwk lwl lwm;let I25:=fun (σ:St) (H':Hp)=>σ=[some (.ref a),some (.ref t),some (.ref x),some (.ref l1),some (.ref l2),some (.ref l3),none,none,none,none]/\∃(F:Addr->Prop) (ad:WAd) (ts:List TrD),WAt T H0 H' F x tr ad (ts,lw,[])/\S52 ps (ts,lw,[])/\H' l1=some (.lst (gts.map V.str))/\H' l2=some (.lst (pts.map V.str))/\H' l3=some (.lst (ots.map V.str))/\¬F l1/\¬F l2
  refine WSs.cut I25 ?_ ?_
  ·have s52:S52 ps ([],lw,[]):=⟨⟨Nat.zero_le _,.nil,fun _ z=>nomatch z⟩,(fun _ z=>nomatch z),lwk,lwl,rfl⟩
   refine WS.of (Z0 (PW.pt (Zd9 (Zm (r:=Zgb K) (Zh2 hr) (pv 3) (Zo Za) (Zu _)) (Zbp (Zm Zls (Zl Yc (Xv (X2 T) hr rfl T.bf T.ag.F.kp T.ag.b .nil Yg (Zb (pv 0) (Zb Ze Za))) Ze) Ze (Zu _))))) Zr Zn) (exR rfl ⟨szA,fun le H7 s7 n7 e7=>.inr (.inl ⟨1,.lst (gts.map Tr.str),.lst [],by decide,.inr ⟨_,_,rfl,rfl⟩,Zgr (s7.at e4'),Im.lst (n:=0) (SqL.of e7) .nil,_,rfl,Yo (fun z=>?_) (fun _=>⟨rfl,F,ad,[],F3.mono s7,s52,s7.at e4',s7.at e5',s7.at e6,f1,f2⟩)⟩)⟩);have u4:0<gts.length:=Nat.pos_of_ne_zero fun y=>by
    rw [List.length_eq_zero_iff.mp y,if_pos rfl,decide_eq_true (show Tr.lst (List.map Tr.str [])=Tr.lst [] from rfl)] at z;cases z
   have L0:=F3.mono s7;have hS7:=L0.same.seq hS0;have e47:=s7.at e4';refine (exR rfl ⟨a,ns,1,rfl,hS7,_,_,rfl,rfl,(by show (0:Int)<3;decide),_,_,rfl,rfl,_,rfl,Yo (fun _=>?_) (fun _=>⟨rfl,F,ad,[],L0,s52,e47,s7.at e5',s7.at e6,f1,f2⟩)⟩);obtain ⟨j,hj,hj4⟩:=Wh (a:=Zdi ns 1 / 3) (n:=4) (by decide);have hn:(1:Int)+Zdi ns 1 / 3%4=((1+j:Nat):Int):=by
    have hj:Zdi ns 1 / 3%4=(j:Int):=hj;lia
   obtain ⟨j2,hj2,E8⟩:=Wh (a:=Zdi ns 1 / 12) (n:=gts.length) u4;have hgj:(gts.map V.str)[j2]? =some (.str gts[j2]):=by rw [List.getElem?_map,List.getElem?_eq_getElem E8];rfl
   have hgm:(("gate",gts[j2]):Zc)∈ps:=(T4 _).mp (List.getElem_mem E8);have c8:Zlm ([],lw,[]) "ta" (1+j) gts[j2]=([(("ta" :Str),1+j,[((gts[j2], ""):Zc)])],lw,[]):=if_neg List.not_mem_nil;refine WSs.last (Z4 (Yu (pv 2) T.ac T.bY (Zb0 T) hr.m T.ar.b .nil Yg (Zb Zf (Zb (Zl Wj Ze (Zl Yc (Zl Z9 (Xv (X2 T) hr rfl T.bf T.ag.F.kp T.ag.b .nil Yg (Zb (pv 0) (Zb Ze Za))) Ze) Ze)) (Zb (Z1 (K:=K) rfl (pv 3) (Zl Yc (Zl Z9 (Xv (X2 T) hr rfl T.bf T.ag.F.kp T.ag.b .nil Yg (Zb (pv 0) (Zb Ze Za))) Ze) (Zq (r:=W1 K) W6 (by rfl) T.bx PySem.boot_len (Zb (pv 3) Za)))) Za))))) (exR rfl ⟨x,ad.dx,_,rfl,L0.obj,rfl,_,rfl,a,ns,1,rfl,hS7,_,_,rfl,rfl,⟨by decide,by decide⟩,_,_,rfl,rfl,(by show (0:Int)<4;decide),.inl (exQ rfl rfl (exR rfl (exR rfl ⟨a,ns,1,rfl,hS7,_,_,rfl,rfl,⟨by decide,by decide⟩,_,rfl,.inl ⟨l1,_,rfl,.inl (SqL.of e47),_,_,rfl,rfl,?_,.inl ⟨l1,_,_,.str gts[j2],rfl,rfl,SqL.of e47,?_,H0,F,x,tr,ad,([],lw,[]),ps,js,sg, "ta",gts[j2],1+j,congrArg (fun i=>[V.ref x,.str "ta",.int i,.str gts[j2]]) hn,L0,ht0,yv,Nat.zero_le _,Nat.zero_le _,Nat.zero_le _,Zll,(fun z=>nomatch z),hgm,by lia,by lia,fun H8 F8 ad8 _ m2 _ o8 hw8=>⟨rfl,F8,ad8,_,by rw [c8] at hw8;exact hw8,?_,o8 _ _ (fun z=>f1 (L0.inF z)) e47,o8 _ _ (fun z=>f2 (L0.inF z)) (s7.at e5'),o8 _ _ (fun z=>f3 (L0.inF z)) (s7.at e6),fun z=>?_,fun z=>?_⟩⟩⟩⟩)))⟩)
   ·rw [List.length_map];show (0:Int)<(gts.length:Int);lia
   ·rw [List.length_map];show atI _ (Zdi ns 1 / 12%(gts.length:Int))=_;rw [hj2];exact Y1 hgj
   ·refine ⟨⟨Nat.le_refl _,List.pairwise_singleton _ _,fun n hn=>List.mem_singleton.mp hn⟩,fun d hd=>?_,lwk,lwl,rfl⟩;rw [List.mem_singleton.mp hd];exact ⟨_,rfl,hgm⟩
   ·rcases m2 _ z with y|y
    ·exact f1 y
    ·rw [e47] at y;cases y
   ·rcases m2 _ z with y|y
    ·exact f2 y
    ·rw [s7.at e5'] at y;cases y
  clear F3 e4' e5' e6 f1 f2 f3 lwk lwl F ad;rintro σ H7 ⟨rfl,F,ad,ts,hw,h5,e1,e2,e3,f1,f2⟩;refine WSs.step (Zv (i:=6) Zca.nd (Yj (Zfb T hb) hr T.cT (Zb (pv 2) Za))) (exR rfl ⟨H0,F,x,tr,ad,(ts,lw,[]),ps,js,sg,rfl,hw,gr,h5,fun pn H8 T9 hso s8=>?_⟩);generalize htx:stT (ts,lw,[]) pn=tx;let I26:=fun (σ:St) (H':Hp)=>(∃o7 o8 o9,σ=[some (.ref a),some (.ref t),some (.ref x),some (.ref l1),some (.ref l2),some (.ref l3),some (.str tx),o7,o8,o9])/\Same H7 H'
  refine WSs.cut I26 ?_ ?_
  ·let I27:=fun (i:Nat) (σ:St) (H':Hp)=>(∃o7 o8 o9,σ=[some (.ref a),some (.ref t),some (.ref x),some (.ref l1),some (.ref l2),some (.ref l3),some (.str tx),o7,o8,o9])/\Same H7 H'
   refine WS.of (We PassesOwn.never rfl (Zky rfl T.eu (Zb Ze (Zb Ze Za))) (Xn (i:=7) Zca.nd) Zr) ⟨2,12,rfl,by decide,Zlk (lo:=2) (n:=10) I27 ⟨⟨_,_,_,rfl⟩,s8⟩ ?_ ?_⟩
   ·rintro i σ H9 hi ⟨⟨o7,o8,o9,rfl⟩,s9⟩;have I0:=hw.mono s9;refine WSs.step (Zv (i:=8) Zca.nd (Xv (X2 T) hr rfl T.bf T.ag.F.kp T.ag.b .nil Yg (Zb (pv 0) (Zb (pv 7) Za)))) (exR rfl (exR rfl ⟨a,ns,2+i,rfl,I0.same.seq hS0,?_⟩));generalize Zdi ns (2+i)=cell;refine WSs.step (Zv (i:=9) Zca.nd (Zl Yc (pv 8) Ze)) (exR rfl (exQ rfl rfl ⟨(by show (0:Int)<3;decide),?_⟩));let I28:=fun (σ:St) (H':Hp)=>σ=[some (.ref a),some (.ref t),some (.ref x),some (.ref l1),some (.ref l2),some (.ref l3),some (.str tx),some (.int (2+(i:Int))),some (.int cell),some (.int (cell%3))]/\Same H7 H'
    refine WSs.cut I28 ?_ ?_
    ·refine WS.of (Z0 (PW.pt (Zd9 (Zm (r:=Wa K) (Wd hr) (pv 9) Ze (Zu _)) (Zbp (Xb (Yx (Yj (Zmy T) hr T.eM (Zb (pv 2) (Zb (pv 3) (Zb (Zl Z9 (pv 8) Ze) Za))))))))) Zr Zn) (exR rfl (.inl ⟨rfl,_,rfl,Yo (fun _=>?_) (fun _=>⟨rfl,s9⟩)⟩));exact ⟨_,rfl,_,rfl,_,rfl,_,_,rfl,rfl,⟨by decide,by decide⟩,H0,F,x,tr,l1,ad,(ts,lw,[]),ps,js,sg,gts,_,rfl,I0,gr,h5.ta,s9.at e1,T4,by lia,fun HA sA=>⟨_,rfl,Zeq ⟨rfl,s9.trans sA⟩⟩⟩
    clear I0 s9;rintro σ H9 ⟨rfl,s9⟩;have I0:=hw.mono s9;let I29:=fun (σ:St) (H':Hp)=>σ=[some (.ref a),some (.ref t),some (.ref x),some (.ref l1),some (.ref l2),some (.ref l3),some (.str tx),some (.int (2+(i:Int))),some (.int cell),some (.int (cell%3))]/\Same H7 H'
    refine WSs.cut I29 ?_ ?_
    ·refine WS.of (Z0 (PW.pt (Zd9 (Zm (r:=Wa K) (Wd hr) (pv 9) Ze (Zu _)) (Zbp (Xb (Yx (Yj (Zmn T) hr T.eN (Zb (pv 2) (Zb (Zl Z9 (pv 8) Ze) Za)))))))) Zr Zn) (exR rfl (.inl ⟨rfl,_,rfl,Yo (fun _=>?_) (fun _=>⟨rfl,s9⟩)⟩));exact ⟨_,rfl,_,rfl,_,_,rfl,rfl,⟨by decide,by decide⟩,H0,F,x,tr,ad,(ts,lw,[]),ps,js,sg,_,rfl,I0,gr,h5.ta,fun HA sA=>⟨_,rfl,Zeq ⟨rfl,s9.trans sA⟩⟩⟩
    clear I0 s9;rintro σ H9 ⟨rfl,s9⟩;have I0:=hw.mono s9;let I30:=fun (σ:St) (H':Hp)=>σ=[some (.ref a),some (.ref t),some (.ref x),some (.ref l1),some (.ref l2),some (.ref l3),some (.str tx),some (.int (2+(i:Int))),some (.int cell),some (.int (cell%3))]/\Same H7 H'
    refine WSs.cut I30 ?_ ?_
    ·refine WS.of (Z0 (PW.pt (Zd9 (Zm (r:=Wa K) (Wd hr) (pv 9) Ze (Zu _)) (Zbp (Xb (Yx (Yj (Zmx T) hr T.eO (Zb (pv 2) (Zb (pv 4) (Zb (pv 5) (Zb (Zl Z9 (pv 8) Ze) Za)))))))))) Zr Zn) (exR rfl (.inl ⟨rfl,_,rfl,Yo (fun _=>?_) (fun _=>⟨rfl,s9⟩)⟩));exact ⟨_,rfl,_,rfl,_,rfl,_,rfl,_,_,rfl,rfl,⟨by decide,by decide⟩,H0,F,x,tr,l2,l3,ad,(ts,lw,[]),ps,js,sg,pts,ots,_,rfl,I0,gr,s9.at e2,T5,by lia,s9.at e3,by lia,omem,fun HA sA=>⟨_,rfl,Zeq ⟨rfl,s9.trans sA⟩⟩⟩
    clear I0 s9;rintro σ H9 ⟨rfl,s9⟩;have I0:=hw.mono s9;refine WSs.last (Z0 (Zm (r:=Zgb K) (Zh2 hr) (Yj (Zfb T hb) hr T.cT (Zb (pv 2) Za)) (pv 6) (Zu _)) Zr Zn) (exR rfl ⟨H0,F,x,tr,ad,(ts,lw,[]),ps,js,sg,rfl,I0,gr,h5,fun pn2 HA hpn2 hso2 sA=>(exR rfl (.inl ⟨rfl,_,rfl,?_⟩))⟩);rw [Zpb hso2 hso (hpn2.trans T9.symm),htx,decide_eq_true rfl];exact Zeq ⟨⟨_,_,_,rfl⟩,s9.trans sA⟩
   ·rintro σ H9 ⟨h,s9⟩;exact ⟨h,s9⟩
  rintro σ H9 ⟨⟨o7,o8,o9,rfl⟩,s9⟩;exact WSs.last (Zt (Yj (Zlv T) hr T.eP (Zb (pv 2) (Zb (pv 3) (Zb (pv 4) Za))))) (exR rfl (exR rfl (exR rfl ⟨H0,F,x,tr,l1,l2,ad,(ts,lw,[]),ps,js,sg,gts,pts,rfl,hw.mono s9,gr,h5,s9.at e1,fun n hn=>(T4 n).mp hn,s9.at e2,lwm,f1,f2,fun H'=>q H'⟩)))
end
end K52
end
namespace K52
open PySem L2 NM YM
section
end
theorem Zza{α:Type}{us:List α}(h:us.length=1):∃a,us=[a]:=by
 rcases us with _|⟨a,_|_⟩ <;>first|exact ⟨_,rfl⟩|cases h
theorem Zwb{α:Type}{us:List α}(h:us.length=2):∃a b,us=[a,b]:=by
 rcases us with _|⟨a,_|⟨b,_|_⟩⟩ <;>first|exact ⟨_,_,rfl⟩|cases h
theorem Zsp{α:Type}{us:List α}(h:us.length=3):∃a b c,us=[a,b,c]:=by
 rcases us with _|⟨a,_|⟨b,_|⟨c,_|_⟩⟩⟩ <;>first|exact ⟨_,_,_,rfl⟩|cases h
theorem Zr8{α:Type}{us:List α}(h:us.length=4):∃a b c d,us=[a,b,c,d]:=by
 rcases us with _|⟨a,_|⟨b,_|⟨c,_|⟨d,_|_⟩⟩⟩⟩ <;>first|exact ⟨_,_,_,_,rfl⟩|cases h
def NI(K:Frag)(x:Str)(f:Addr):Prop:=nsIn K mainGlobals x=some (some (.ref f))
inductive FG(K:Frag)(f:Addr)(x:Str)(st:Stmt):Prop
 | mk {oc od kV dc pm an cd ct sl} (a:nsIn K mainGlobals x=some (some (.ref f))) (l:K.lookup f=some ⟨oc,od,.func (fnOf x x (Xa st) (Ys st) (Zh st) .none kV dc pm an cd ct),sl⟩) (e:codeIn K cd x=true) (k:keepIn K (.ref f)=true)
inductive FM(K:Frag)(f c:Addr)(x q:Str)(st:Stmt):Prop
 | mk {oc od kV dc pm an cd ct sl} (a:findIn K (.ref c) x=some (some (.ref f))) (l:K.lookup f=some ⟨oc,od,.func (fnOf x q (Xa st) (Ys st) (Zh st) .none kV dc pm an cd ct),sl⟩) (e:codeIn K cd q=true) (k:keepIn K (.ref f)=true)
theorem FG.ex{K:Frag}{f:Addr}{x:Str}{st:Stmt}(h:FG K f x st):∃fd,Fun K x x st f fd:=let ⟨_,l,e,k⟩:=h;⟨_,Zdp l e k⟩
theorem FM.ex{K:Frag}{f c:Addr}{x q:Str}{st:Stmt}(h:FM K f c x q st):∃fd,Fun K x q st f fd:=let ⟨_,l,e,k⟩:=h;⟨_,Zdp l e k⟩
theorem FG.m{K:Frag}{f:Addr}{x:Str}{st:Stmt}{h:Heap}{mg:Str->Option Value}(X:K.In h)(G:h.Ns mainGlobals mg)(h:FG K f x st):mg x=some (.ref f):=let ⟨a,_,_,_⟩:=h;mg_of X G a
noncomputable def W3 {K:Frag} {f:Addr} {x q:Str} {st:Stmt} {p1:Str} (h:∃fd,Fun K x q st f fd) (b:∀kV m9 pm an a9 ct a1,bindArgs (fnOf x q (Xa st) (Ys st) (Zh st) .none kV m9 pm an a9 ct) ⟨[a1],[]⟩=pure ([p1].zip [a1]):=by intros;rfl):Dn K x q st [p1]:=⟨f,Classical.choose h,Classical.choose_spec h,(Classical.choose_spec h).binds fun _ _ _ _ _ _ _ hl=>by obtain ⟨_,rfl⟩:=Zza hl;exact b _ _ _ _ _ _ _⟩
noncomputable def Zdk {K:Frag} {f:Addr} {x q:Str} {st:Stmt} {p1 p2:Str} (h:∃fd,Fun K x q st f fd) (b:∀kV m9 pm an a9 ct a1 a2,bindArgs (fnOf x q (Xa st) (Ys st) (Zh st) .none kV m9 pm an a9 ct) ⟨[a1,a2],[]⟩=pure ([p1,p2].zip [a1,a2]):=by intros;rfl):Dn K x q st [p1,p2]:=⟨f,Classical.choose h,Classical.choose_spec h,(Classical.choose_spec h).binds fun _ _ _ _ _ _ _ hl=>by obtain ⟨_,_,rfl⟩:=Zwb hl;exact b _ _ _ _ _ _ _ _⟩
noncomputable def Znh {K:Frag} {f:Addr} {x q:Str} {st:Stmt} {p1 p2 p3:Str} (h:∃fd,Fun K x q st f fd) (b:∀kV m9 pm an a9 ct a1 a2 a3,bindArgs (fnOf x q (Xa st) (Ys st) (Zh st) .none kV m9 pm an a9 ct) ⟨[a1,a2,a3],[]⟩=pure ([p1,p2,p3].zip [a1,a2,a3]):=by intros;rfl):Dn K x q st [p1,p2,p3]:=⟨f,Classical.choose h,Classical.choose_spec h,(Classical.choose_spec h).binds fun _ _ _ _ _ _ _ hl=>by obtain ⟨_,_,_,rfl⟩:=Zsp hl;exact b _ _ _ _ _ _ _ _ _⟩
noncomputable def Zwh {K:Frag} {f:Addr} {x q:Str} {st:Stmt} {p1 p2 p3 p4:Str} (h:∃fd,Fun K x q st f fd) (b:∀kV m9 pm an a9 ct a1 a2 a3 a4,bindArgs (fnOf x q (Xa st) (Ys st) (Zh st) .none kV m9 pm an a9 ct) ⟨[a1,a2,a3,a4],[]⟩=pure ([p1,p2,p3,p4].zip [a1,a2,a3,a4]):=by intros;rfl):Dn K x q st [p1,p2,p3,p4]:=⟨f,Classical.choose h,Classical.choose_spec h,(Classical.choose_spec h).binds fun _ _ _ _ _ _ _ hl=>by obtain ⟨_,_,_,_,rfl⟩:=Zr8 hl;exact b _ _ _ _ _ _ _ _ _ _⟩
theorem all_mk{l:PySem.W.OpenLaw}{w:World}{K:Frag}{h:Heap}{mg:Str->Option Value}{fa f0 f1 f2 f3 f4 f5 f6 f7 f8 f9 f10 f11 f12 f13 f14 f15 f16 f17 f18 f19 f20 f21 f22 f23 f24 f25 f26 f27 f28 f29 f30 f31 f32 f33 f34 f35 f36 f37 f38 f39 f40 f41 f42 f43 f44 f45 f46 f47 f48 f49 f50 f51 f52 f53 f54 f55 f56 f57 f58 f59 f60 f61 f62 j5 j0 m7 i9 d4 i6 d9 t4 b9 i4 d6 g7 d7 d8:Addr}(X:K.In h)(G:h.Ns mainGlobals mg) (hfa:mg "law" =some (.ref fa)) {od20 an20:Option Addr} {sl20:Array (Option Value)} {oc20 kV20 dc20 pm20 cd20 ct20:Value} {td20:Addr} {dod20:Option Addr} {dsl20:Array (Option Value)} {doc20:Value} {dn20:Nat} {od57 an57:Option Addr} {sl57:Array (Option Value)} {oc57 kV57 dc57 pm57 cd57 ct57:Value} {od58 an58:Option Addr} {sl58:Array (Option Value)} {oc58 kV58 dc58 pm58 cd58 ct58:Value} {od59 an59:Option Addr} {sl59:Array (Option Value)} {oc59 kV59 dc59 pm59 cd59 ct59:Value} {od62 an62:Option Addr} {sl62:Array (Option Value)} {oc62 kV62 dc62 pm62 cd62 ct62:Value} {F1:Tok} {F2:Tok} {x8:Tok} {B1:Tok} {x9:Tok} {v7:Tok} {O9 K3:Addr} {cod57:Option Addr} {cvs57:Array Value} {csl57:Array (Option Value)} {P0 K5:Addr} {cod58:Option Addr} {cvs58:Array Value} {csl58:Array (Option Value)} {P2 K6:Addr} {cod59:Option Addr} {cvs59:Array Value} {csl59:Array (Option Value)}
  (z_aa:NI K "Part" j5) (z_ab:NI K "Plain" j0) (z_ac:NI K "Stop" m7) (z_ad:NI K "Gate" i9) (z_ae:NI K "Points" d4) (z_af:NI K "Cross" i6) (z_ag:NI K "Tracks" d9) (z_ah:NI K "Train" t4) (z_ai:NI K "World" b9) (z_aj:NI K "YardError" i4) (z_ak:NI K "BadName" d6) (z_al:NI K "BadEnd" g7) (z_am:NI K "TooMany" d7) (z_an:NI K "NoTrain" d8) (l0:FG K f0 "is_name" Zhc) (l1:FM K f1 j5 "__init__" "Part.__init__" Zar) (l2:FM K f2 j5 "ends" "Part.ends" Zek) (l3:FM K f3 j5 "lies" "Part.lies" Zeh) (l4:FM K f4 j5 "bears" "Part.bears" Zde) (l5:FM K f5 m7 "ends" "Stop.ends" Zeo) (l6:FM K f6 d4 "ends" "Points.ends" Zb2) (l7:FM K f7 d4 "lies" "Points.lies" Zcj) (l8:FM K f8 d4 "bears" "Points.bears" Zba) (l9:FM K f9 i6 "ends" "Cross.ends" Zc9) (l10:FM K f10 i6 "bears" "Cross.bears" Zb4) (l11:FG K f11 "is_pair" Zgy) (l12:FG K f12 "is_known" Zfl) (l13:FG K f13 "refuse_name" Zb6) (l14:FG K f14 "parts_by_name" Zaz) (l15:FG K f15 "ends_to_parts" Zap) (l16:FG K f16 "refuse_join" Zcd) (l17:FG K f17 "joined_ends" Zb8) (l18:FG K f18 "refuse_post" Zb7) (l19:FG K f19 "posts_of" Zfk) (l21:FM K f21 d9 "names" "Tracks.names" Zbk) (l22:FM K f22 d9 "named" "Tracks.named" Zbl) (l23:FG K f23 "gates_of" Zfr) (l24:FG K f24 "points_of" Zem) (l25:FG K f25 "lies_at_first" Zas) (l26:FG K f26 "refuse_gate" Zb1) (l27:FG K f27 "refuse_length" Zaw) (l28:FG K f28 "refuse_points" Zax) (l29:FG K f29 "refuse_lie" Zc8) (l30:FM K f30 t4 "__init__" "Train.__init__" W8) (l31:FM K f31 b9 "__init__" "World.__init__" Zac) (l32:FM K f32 b9 "train_there" "World.train_there" Wc) (l33:FM K f33 b9 "come" "World.come" Zdh) (l34:FM K f34 b9 "go" "World.go" Zfm) (l35:FM K f35 b9 "about" "World.about" Zb9) (l36:FM K f36 b9 "leave" "World.leave" Zci) (l37:FM K f37 b9 "turn" "World.turn" Zc3) (l38:FM K f38 b9 "lies" "World.lies" Zc6) (l39:FM K f39 b9 "spots" "World.spots" Zb3) (l40:FM K f40 b9 "trains" "World.trains" Zbd) (l41:FM K f41 b9 "taken" "World.taken" Zcf) (l42:FM K f42 b9 "accidents" "World.accidents" Wu) (l43:FG K f43 "_law_mixed" Zdo) (l44:FG K f44 "_law_cell_at" Za6) (l45:FG K f45 "_law_cells" Zc5) (l46:FG K f46 "_law_ends" Zd1) (l47:FG K f47 "_law_name_by" Zbi) (l48:FG K f48 "_law_block" Zdf) (l49:FG K f49 "_law_line" Zep) (l50:FG K f50 "_law_closed" Zcg) (l51:FG K f51 "_law_drawn" Zc4) (l52:FG K f52 "_law_signals_by" Ws) (l53:FG K f53 "_law_yard_by" Za9) (l54:FG K f54 "_law_part" Zen) (l55:FG K f55 "_law_tracks" Zch) (l56:FG K f56 "_law_caught" Zcc) (l60:FG K f60 "_law_state" Zdn) (l61:FG K f61 "_law_good" Zdz) (a20:findIn K (.ref d9) "__init__" =some (some (.ref f20))) (l20:K.lookup f20=some ⟨oc20,od20,.func (fnOf "__init__" "Tracks.__init__" (Xa Y4) (Ys Y4) (Zh Y4) (.ref td20) kV20 dc20 pm20 an20 cd20 ct20),sl20⟩) (ld20:K.lookup td20=some ⟨doc20,dod20,.seq #[.none] dn20,dsl20⟩) (gR:codeIn K cd20 "Tracks.__init__" =true) (k20:keepIn K (.ref f20)=true) (a57:nsIn K mainGlobals "_law_come" =some (some (.ref f57))) (l57:K.lookup f57=some ⟨oc57,od57,.func (fnOf "_law_come" "_law_come" (Xa X4) (Ys X4) (Zh X4) .none kV57 dc57 pm57 an57 cd57 ct57),sl57⟩) (e57:codeIn K cd57 "_law_come" =true) (k57:keepIn K (.ref f57)=true) (a58:nsIn K mainGlobals "_law_none" =some (some (.ref f58))) (l58:K.lookup f58=some ⟨oc58,od58,.func (fnOf "_law_none" "_law_none" (Xa Xz) (Ys Xz) (Zh Xz) .none kV58 dc58 pm58 an58 cd58 ct58),sl58⟩) (e58:codeIn K cd58 "_law_none" =true) (k58:keepIn K (.ref f58)=true) (a59:nsIn K mainGlobals "_law_turn" =some (some (.ref f59))) (l59:K.lookup f59=some ⟨oc59,od59,.func (fnOf "_law_turn" "_law_turn" (Xa X1) (Ys X1) (Zh X1) .none kV59 dc59 pm59 an59 cd59 ct59),sl59⟩) (e59:codeIn K cd59 "_law_turn" =true) (k59:keepIn K (.ref f59)=true) (a62:nsIn K mainGlobals "law" =some (some (.ref f62))) (l62:K.lookup f62=some ⟨oc62,od62,.func (fnOf "law" "law" (Xa Zgn) (Ys Zgn) (Zh Zgn) .none kV62 dc62 pm62 an62 cd62 ct62),sl62⟩) (e62:codeIn K cd62 "law" =true) (k62:keepIn K (.ref f62)=true) (z_ao:Cls K j5) (z_ap:Cls K j0) (z_aq:Cls K m7) (z_ar:Cls K i9) (z_as:Cls K d4) (z_at:Cls K i6) (z_au:Cls K d9) (z_av:Cls K t4) (z_aw:Cls K b9) (z_ax:Mk K j5 f1) (z_ay:Mk K j0 f1) (z_az:Mk K m7 f1) (z_a0:Mk K i9 f1) (z_a1:Mk K d4 f1) (z_a2:Mk K i6 f1) (z_a3:Mk K d9 f20) (z_a4:Mk K t4 f30) (z_a5:Mk K b9 f31) (z_a6:Yn K j5 "ends" f2) (z_a7:Yn K j5 "lies" f3) (z_a8:Yn K j5 "bears" f4) (z_a9:Yn K j0 "ends" f2) (z_ba:Yn K j0 "lies" f3) (z_bb:Yn K j0 "bears" f4) (z_bc:Yn K m7 "ends" f5) (z_bd:Yn K m7 "lies" f3) (z_be:Yn K m7 "bears" f4) (z_bf:Yn K i9 "ends" f5) (z_bg:Yn K i9 "lies" f3) (z_bh:Yn K i9 "bears" f4) (z_bi:Yn K d4 "ends" f6) (z_bj:Yn K d4 "lies" f7) (z_bk:Yn K d4 "bears" f8) (z_bl:Yn K i6 "ends" f9) (z_bm:Yn K i6 "lies" f3) (z_bn:Yn K i6 "bears" f10) (z_bo:Yn K d9 "names" f21) (z_bp:Yn K d9 "named" f22) (z_bq:Yn K b9 "train_there" f32) (z_br:Yn K b9 "come" f33) (z_bs:Yn K b9 "go" f34) (z_bt:Yn K b9 "about" f35) (z_bu:Yn K b9 "turn" f37) (z_bv:Yn K b9 "spots" f39) (z_bw:Yn K b9 "trains" f40) (z_bx:Yn K b9 "taken" f41) (z_by:Yn K b9 "accidents" f42) (z_bz:Yn K b9 "leave" f36) (z_b0:Yn K b9 "lies" f38) (z_b1:findIn K (.ref j5) "name" =some none) (z_b2:findIn K (.ref j0) "name" =some none) (z_b3:findIn K (.ref m7) "name" =some none) (z_b4:findIn K (.ref i9) "name" =some none) (z_b5:findIn K (.ref d4) "name" =some none) (z_b6:findIn K (.ref i6) "name" =some none) (z_b7:findIn K (.ref d9) "part_of" =some none) (z_b8:findIn K (.ref d9) "joined" =some none) (z_b9:findIn K (.ref d9) "post_of" =some none) (z_ca:findIn K (.ref d9) "signal_on" =some none) (z_cb:findIn K (.ref t4) "name" =some none) (z_cc:findIn K (.ref t4) "long" =some none) (z_cd:findIn K (.ref t4) "stands" =some none) (z_ce:findIn K (.ref b9) "tracks" =some none) (z_cf:findIn K (.ref b9) "lie_of" =some none) (z_cg:findIn K (.ref b9) "train_of" =some none) (z_ch:findIn K (.ref b9) "mishaps" =some none) (z_ci:nsIn K mainGlobals "len" =some none) (z_cj:nsIn K mainGlobals "range" =some none) (z_ck:nsIn K mainGlobals "isinstance" =some none) (z_cl:nsIn K mainGlobals "list" =some none) (z_cm:nsIn K mainGlobals "dict" =some none) (z_cn:nsIn K mainGlobals "tuple" =some none) (z_co:nsIn K mainGlobals "str" =some none) (z_cp:nsIn K mainGlobals "enumerate" =some none) (z_cq:nsIn K mainGlobals "max" =some none) (z_cr:nsIn K mainGlobals "min" =some none) (z_cs:nsIn K mainGlobals "sum" =some none) (z_ct:nsIn K mainGlobals "sorted" =some none) (z_cu:nsIn K mainGlobals "all" =some none) (z_cv:nsIn K mainGlobals "bool" =some none) (z_cw:nsIn K mainGlobals "int" =some none) (z_cx:nsIn K mainGlobals "repr" =some none) (z_cy:nsIn K mainGlobals "LETTERS" =some (some (.str "abcdefghijklmnopqrstuvwxyz" F1))) (z_cz:nsIn K mainGlobals "FIGURES" =some (some (.str "0123456789" F2))) (z_c0:nsIn K mainGlobals "LONGEST_NAME" =some (some (.int 6 x8))) (z_c1:nsIn K mainGlobals "MOST_PARTS" =some (some (.int 40 B1))) (z_c2:nsIn K mainGlobals "MOST_SIGNALS" =some (some (.int 40 x9))) (z_c3:nsIn K mainGlobals "LONGEST_TRAIN" =some (some (.int 4 v7))) (tG:PySem.W.specialIn K (.builtin "object.__class__") "__get__" =some (some (.builtin "getset_descriptor.__get__"))) (tK:PySem.W.takesIn K (.builtin "object.__class__")=some true) (z_c4:findIn K (.ref j5) "__class__" =some (some (.builtin "object.__class__"))) (z_c5:findIn K (.ref j0) "__class__" =some (some (.builtin "object.__class__"))) (z_c6:findIn K (.ref m7) "__class__" =some (some (.builtin "object.__class__"))) (z_c7:findIn K (.ref i9) "__class__" =some (some (.builtin "object.__class__"))) (z_c8:findIn K (.ref d4) "__class__" =some (some (.builtin "object.__class__"))) (z_c9:findIn K (.ref i6) "__class__" =some (some (.builtin "object.__class__"))) (z_da:PySem.W.mroIn K j5 (.type "object")=some true) (z_db:PySem.W.mroIn K j0 (.type "object")=some true) (z_dc:PySem.W.mroIn K m7 (.type "object")=some true) (z_dd:PySem.W.mroIn K i9 (.type "object")=some true) (z_de:PySem.W.mroIn K d4 (.type "object")=some true) (z_df:PySem.W.mroIn K i6 (.type "object")=some true) (z_dg:kitOne K (.type "tuple") (.type "tuple")=some true) (z_dh:kitOne K (.type "str") (.type "str")=some true) (z_di:kitOne K (.type "NoneType") (.type "str")=some false) (z_dj:kitOne K (.type "int") (.type "str")=some false) (z_dk:kitOne K (.type "int") (.type "int")=some true) (z_dl:kitOne K (.type "int") (.type "bool")=some false) (z_dm:kitOne K (.type "bool") (.type "int")=some true) (z_dn:kitOne K (.type "bool") (.type "bool")=some true) (z_do:kitOne K (.type "NoneType") (.type "int")=some false) (z_dp:kitOne K (.type "str") (.type "int")=some false) (z_dq:kitOne K (.ref j5) (.ref i9)=some false) (z_dr:kitOne K (.ref j0) (.ref i9)=some false) (z_ds:kitOne K (.ref m7) (.ref i9)=some false) (z_dt:kitOne K (.ref i9) (.ref i9)=some true) (z_du:kitOne K (.ref d4) (.ref i9)=some false) (z_dv:kitOne K (.ref i6) (.ref i9)=some false) (z_dw:kitOne K (.ref j5) (.ref d4)=some false) (z_dx:kitOne K (.ref j0) (.ref d4)=some false) (z_dy:kitOne K (.ref m7) (.ref d4)=some false) (z_dz:kitOne K (.ref i9) (.ref d4)=some false) (z_d0:kitOne K (.ref d4) (.ref d4)=some true) (z_d1:kitOne K (.ref i6) (.ref d4)=some false) (z_d2:kitOne K (.ref d6) (.ref d6)=some true) (z_d3:kitOne K (.ref d6) (.ref g7)=some false) (z_d4:kitOne K (.ref d6) (.ref d7)=some false) (z_d5:kitOne K (.ref d6) (.ref d8)=some false) (z_d6:kitOne K (.ref g7) (.ref d6)=some false) (z_d7:kitOne K (.ref g7) (.ref g7)=some true) (z_d8:kitOne K (.ref g7) (.ref d7)=some false) (z_d9:kitOne K (.ref g7) (.ref d8)=some false) (z_ea:kitOne K (.ref d7) (.ref d6)=some false) (z_eb:kitOne K (.ref d7) (.ref g7)=some false) (z_ec:kitOne K (.ref d7) (.ref d7)=some true) (z_ed:kitOne K (.ref d7) (.ref d8)=some false) (z_ee:kitOne K (.ref d8) (.ref d6)=some false) (z_ef:kitOne K (.ref d8) (.ref g7)=some false) (z_eg:kitOne K (.ref d8) (.ref d7)=some false) (z_eh:kitOne K (.ref d8) (.ref d8)=some true) (y_c0:PySem.W.kitCls K (.ref d6) (.ref i4)=some true) (y_c1:PySem.W.kitCls K (.ref g7) (.ref i4)=some true) (y_c2:PySem.W.kitCls K (.ref d7) (.ref i4)=some true) (y_c3:PySem.W.kitCls K (.ref d8) (.ref i4)=some true) (z_ei:kitOne K (.ref i4) (.type "BaseException")=some true) (z_ej:PySem.W.excIn K d6 [.type "ValueError",.type "Exception",.type "BaseException",.type "object"] "ValueError.__new__" =true) (z_ek:PySem.W.excIn K g7 [.type "ValueError",.type "Exception",.type "BaseException",.type "object"] "ValueError.__new__" =true) (z_el:PySem.W.excIn K d7 [.type "ValueError",.type "Exception",.type "BaseException",.type "object"] "ValueError.__new__" =true) (z_em:PySem.W.excIn K d8 [.type "ValueError",.type "Exception",.type "BaseException",.type "object"] "ValueError.__new__" =true) (z_en:XG K d6) (z_eo:XG K g7) (z_ep:XG K d7) (z_eq:XG K d8) (ce57:cd57=.ref O9) (cv57:K.lookup O9=some ⟨.type "code",cod57,.fields cvs57,csl57⟩) (cp57:cvs57[11]? =some (.ref K3)) (ch57:PySem.W.codeHdIn K O9 K3=true) (ce58:cd58=.ref P0) (cv58:K.lookup P0=some ⟨.type "code",cod58,.fields cvs58,csl58⟩) (cp58:cvs58[11]? =some (.ref K5)) (ch58:PySem.W.codeHdIn K P0 K5=true) (ce59:cd59=.ref P2) (cv59:K.lookup P2=some ⟨.type "code",cod59,.fields cvs59,csl59⟩) (cp59:cvs59[11]? =some (.ref K6)) (ch59:PySem.W.codeHdIn K P2 K6=true) (tm:∀p∈([K3,K5,K6]:List Addr),h.get? p=some (PySem.W.tabObj #[])) (tn:([K3,K5,K6]:List Addr).Nodup) (tq:PySem.W.noTabs K=true)
  :∃(fd:FuncData) (tabs:List (Addr×Array Value)),Zi1 K h tabs/\(∀(s:Shared) (v:Value),BindsTo s fd ⟨[v],[]⟩ [("_law_script",v)])/\∀base:Heap,K.In base->base.Ns mainGlobals mg->(∃mm,base.Ns sysModules mm)->Zw l.prog w K mg base CX0 10 fa fd ["_law_script"] (Zjy K tabs):=by
 have e:=hfa.symm.trans (mg_of X G a62);cases e;let T:Tx K mg:=⟨W3 l0.ex,l0.m X G,Zdk l1.ex,W3 l2.ex,W3 l3.ex,W3 l4.ex,W3 l5.ex,W3 l6.ex,W3 l7.ex,W3 l8.ex,W3 l9.ex,W3 l10.ex,W3 l11.ex,l11.m X G,Zdk l12.ex,l12.m X G,Zdk l13.ex,l13.m X G,W3 l14.ex,l14.m X G,W3 l15.ex,l15.m X G,Znh l16.ex,l16.m X G,Zdk l17.ex,l17.m X G,Znh l18.ex,l18.m X G,Zdk l19.ex,l19.m X G,⟨f20,_,_,Zuq (st:=Y4) l20 gR k20,fun s us KX hl=>by
   rw [List.append_nil] at hl ⊢;obtain ⟨_,_,_,_,rfl⟩:=Zr8 hl;exact BindsTo.of_defaults rfl (KX _ _ ld20) rfl rfl rfl,.none,rfl,fun s us KX hl=>by
   have h2:us.length=3:=by simpa using hl
   obtain ⟨_,_,_,rfl⟩:=Zsp h2;exact BindsTo.of_defaults rfl (KX _ _ ld20) rfl rfl rfl⟩,W3 l21.ex,Zdk l22.ex,W3 l23.ex,l23.m X G,W3 l24.ex,l24.m X G,W3 l25.ex,l25.m X G,Zdk l26.ex,l26.m X G,W3 l27.ex,l27.m X G,Zdk l28.ex,l28.m X G,Znh l29.ex,l29.m X G,Zwh l30.ex,Zdk l31.ex,Zdk l32.ex,Zwh l33.ex,Znh l34.ex,Zdk l35.ex,Zdk l36.ex,Znh l37.ex,W3 l38.ex,Zdk l39.ex,W3 l40.ex,W3 l41.ex,W3 l42.ex,Zdk l43.ex,l43.m X G,Zdk l44.ex,l44.m X G,Znh l45.ex,l45.m X G,W3 l46.ex,l46.m X G,Znh l47.ex,l47.m X G,Zdk l48.ex,l48.m X G,W3 l49.ex,l49.m X G,Zwh l50.ex,l50.m X G,W3 l51.ex,l51.m X G,Zdk l52.ex,l52.m X G,Zdk l53.ex,l53.m X G,Zdk l54.ex,l54.m X G,W3 l55.ex,l55.m X G,W3 l56.ex,l56.m X G,⟨f57,_,Zdp (st:=X4) l57 e57 k57,(Zdp (st:=X4) l57 e57 k57).binds (ps:=["_law_world", "_law_gates", "_law_cell"]) fun _ _ _ _ _ _ us hl=>by obtain ⟨_,_,_,rfl⟩:=Zsp hl;rfl⟩,mg_of X G a57,⟨f58,_,Zdp (st:=Xz) l58 e58 k58,(Zdp (st:=Xz) l58 e58 k58).binds (ps:=["_law_world", "_law_cell"]) fun _ _ _ _ _ _ us hl=>by obtain ⟨_,_,rfl⟩:=Zwb hl;rfl⟩,mg_of X G a58,⟨f59,_,Zdp (st:=X1) l59 e59 k59,(Zdp (st:=X1) l59 e59 k59).binds (ps:=["_law_world", "_law_points", "_law_others", "_law_cell"]) fun _ _ _ _ _ _ us hl=>by obtain ⟨_,_,_,_,rfl⟩:=Zr8 hl;rfl⟩,mg_of X G a59,W3 l60.ex,l60.m X G,Znh l61.ex,l61.m X G,j5,mg_of X G z_aa,z_ao,z_b1,z_ax,z_a6,z_a7,z_a8,j0,mg_of X G z_ab,z_ap,z_b2,z_ay,z_a9,z_ba,z_bb,m7,mg_of X G z_ac,z_aq,z_b3,z_az,z_bc,z_bd,z_be,i9,mg_of X G z_ad,z_ar,z_b4,z_a0,z_bf,z_bg,z_bh,d4,mg_of X G z_ae,z_as,z_b5,z_a1,z_bi,z_bj,z_bk,i6,mg_of X G z_af,z_at,z_b6,z_a2,z_bl,z_bm,z_bn,d9,mg_of X G z_ag,z_au,z_b7,z_b8,z_b9,z_ca,z_a3,z_bo,z_bp,t4,mg_of X G z_ah,z_av,z_cb,z_cc,z_cd,z_a4,b9,mg_of X G z_ai,z_aw,z_ce,z_cf,z_cg,z_ch,z_a5,z_bq,z_br,z_bs,z_bt,z_bu,z_bv,z_bw,z_bx,z_by,z_bz,z_b0,i4,mg_of X G z_aj,d6,mg_of X G z_ak,g7,mg_of X G z_al,d7,mg_of X G z_am,d8,mg_of X G z_an,PySem.W.mg_none_of X G z_ci,PySem.W.mg_none_of X G z_cj,PySem.W.mg_none_of X G z_ck,PySem.W.mg_none_of X G z_cl,PySem.W.mg_none_of X G z_cm,PySem.W.mg_none_of X G z_cn,PySem.W.mg_none_of X G z_co,PySem.W.mg_none_of X G z_cp,PySem.W.mg_none_of X G z_cq,PySem.W.mg_none_of X G z_cr,PySem.W.mg_none_of X G z_cs,PySem.W.mg_none_of X G z_ct,PySem.W.mg_none_of X G z_cu,PySem.W.mg_none_of X G z_cv,PySem.W.mg_none_of X G z_cw,PySem.W.mg_none_of X G z_cx,z_dg,z_dh,z_di,z_dj,z_dk,z_dl,z_dm,z_dn,z_do,z_dp,z_dq,z_dr,z_ds,z_dt,z_du,z_dv,z_dw,z_dx,z_dy,z_dz,z_d0,z_d1,z_d2,z_d3,z_d4,z_d5,z_d6,z_d7,z_d8,z_d9,z_ea,z_eb,z_ec,z_ed,z_ee,z_ef,z_eg,z_eh,y_c0,y_c1,y_c2,y_c3,z_ei,Zf4 (mg_of X G z_ak) z_ej,Zf4 (mg_of X G z_al) z_ek,Zf4 (mg_of X G z_am) z_el,Zf4 (mg_of X G z_an) z_em,⟨_,mg_of X G z_cy⟩,⟨_,mg_of X G z_cz⟩,z_en,z_eo,z_ep,z_eq,⟨_,mg_of X G z_c0⟩,⟨_,mg_of X G z_c1⟩,⟨_,mg_of X G z_c2⟩,⟨_,mg_of X G z_c3⟩,tG,tK,z_c4,z_da,z_c5,z_db,z_c6,z_dc,z_c7,z_dd,z_c8,z_de,z_c9,z_df,K3,⟨O9,ce57,ch57⟩,K5,⟨P0,ce58,ch58⟩,K6,⟨P2,ce59,ch59⟩⟩
 have TO:Zi1 K h T.tabs:=⟨List.forall_mem_cons.mpr ⟨⟨O9,ch57⟩,List.forall_mem_cons.mpr ⟨⟨P0,ch58⟩,List.forall_mem_cons.mpr ⟨⟨P2,ch59⟩,fun _ z=>nomatch z⟩⟩⟩,List.forall_mem_cons.mpr ⟨tm K3 (by simp),List.forall_mem_cons.mpr ⟨tm K5 (by simp),List.forall_mem_cons.mpr ⟨tm K6 (by simp),fun _ z=>nomatch z⟩⟩⟩,List.forall_mem_cons.mpr ⟨⟨_,rfl,by decide⟩,List.forall_mem_cons.mpr ⟨⟨_,rfl,by decide⟩,List.forall_mem_cons.mpr ⟨⟨_,rfl,by decide⟩,fun _ z=>nomatch z⟩⟩⟩,tn,tq⟩
 exact ⟨fnOf "law" "law" (Xa Zgn) (Ys Zgn) (Zh Zgn) .none kV62 dc62 pm62 an62 cd62 ct62,T.tabs,TO,fun s v=>.of_eq rfl,fun base _ _=>Zxz (Zdp (st:=Zgn) l62 e62 k62) T⟩
theorem tabs_all{K:Params->Frag}{as:List Addr}{e:∀P,as=(K P).map (·.1)}{ts ps:List Addr}{w:World}{h:Heap}(Y:(PySem.W.kmHook K as e ts).says w h)(i:(ps.all fun p=>ts.contains p)=true:=by decide):∀p∈ps,h.get? p=some (PySem.W.tabObj #[]):=fun p hp =>
 PySem.W.km_tabs_of Y p (List.contains_iff_mem.mp (List.all_eq_true.mp i p hp))
theorem walk{l:PySem.W.OpenLaw}{q:Program}{B6:List Str}{XP:(Str->Option Value)->Heap->Prop}{YP:World->Heap->Prop}{d:DefRec}{K:Params->Frag}(hn:l.most=some 63)(hdf:d.params.defaults=[])
  (hY:∀(w:World) (h:Heap),YP w h->(K w.params).In h)
  (F:∀(w:World) (mg:Str->Option Value) (fa:Addr) (h:Heap),YP w h->(K w.params).In h->h.Ns mainGlobals mg->mg d.name=some (.ref fa) ->
   ∃(fd:FuncData) (tabs:List (Addr×Array Value)),Zi1 (K w.params) h tabs/\(∀(s:Shared) (u:Value),BindsTo s fd ⟨[u],[]⟩ [("_law_script",u)])/\∀base:Heap,(K w.params).In base->base.Ns mainGlobals mg->(∃mm,base.Ns sysModules mm)->Zw l.prog w (K w.params) mg base CX0 10 fa fd ["_law_script"] (Zjy (K w.params) tabs)) (hq:PyProof.Rows.importsNone q=true) :
  PySem.W.WalkO q B6 XP YP l.row.toRowW d [] (fun f vs=>PySem.call f vs):=L2.walk_ofS (k:=10) (x := "_law_script") hn hdf ⟨rfl,by decide,by decide,rfl⟩ hY F hq
end K52
namespace PySem.W.Fast
def tw4493396189319896956:=True
def tw14479310285811894355:=True
def tw18368191926834516649:=True
def tw10851422268646731067:=True
def tw6210858537480715486:=True
def tw16185866584722674501:=True
def tw8364393858856213934:=True
def tw9812831023684422147:=True
def tw3537064858674863373:=True
def tw159635261362707739:=True
def tw8688229465329090575:=True
def tw192141410413782463:=True
def tw4667534879980623241:=True
def tw6687387635733282036:=True
def tw4652031330606281494:=True
def tw4814908074443803553:=True
def tw7840994162431877192:=True
def tw4899522122122350945:=True
def tw3276311481680299176:=True
def tw5216843945103941430:=True
def tw15210343501117264081:=True
def tw16447167207360300448:=True
def tw11260961371008865872:=True
def tw7854141036625875840:=True
def tw9653140075692064040:=True
def tw15971499601228602744:=True
def tw7525589750746543191:=True
def tw17780223961499070056:=True
def tw1076495974435292352:=True
def tw15235091403040359777:=True
def tw12164370328141488962:=True
def tw6910628902365174990:=True
def tw17998989417537534675:=True
def tw13789688136980025627:=True
def tw18339281914402445700:=True
def tw7920456438749894722:=True
def tw11986599747898087929:=True
def tw4068617556287110562:=True
def tw8759184212541475368:=True
def tw2809419083197284727:=True
def tw17435227482800196673:=True
def tw5709828291218939162:=True
def tw10611577442524758666:=True
def tw18434263028058664792:=True
def tw8722609843731138361:=True
def tw15104730708714229470:=True
def tw2118381260604898958:=True
def tw3685641350307939655:=True
def tw12640110081731880370:=True
def tw7698805522244126959:=True
def tw15616949309152268516:=True
def tw13565041148815715808:=True
def tw9119153568137019760:=True
def tw9804494958113917001:=True
def tw1456438376033093522:=True
def tw7291221797614656216:=True
def tw11572548299203648120:=True
def tw2886144412744415154:=True
def tw15521044841413162302:=True
def tw11483922239029715349:=True
def tw17411612909424606083:=True
def tw9600549229283906130:=True
def tw9410102495453443594:=True
def tw8878672876716075521:=True
def tw11364969591854782477:=True
def tw5569666132152981827:=True
def tw16099409923518905771:=True
def tw8720502521909538943:=True
def tw7979903754458457725:=True
def tw8165835364634463179:=True
def tw10329879474230879003:=True
def tw16277813374245334094:=True
def tw6516785211336295589:=True
def tw16439105788239925504:=True
def tw5428759171314823056:=True
def tw4728957016283127338:=True
def tw16014517787954802589:=True
def tw14479810563380324613:=True
def tw11924233066843485127:=True
def tw1347720949812377094:=True
def tw13342922417091224184:=True
def tw7056184273520677235:=True
def tw6729851090429253584:=True
def tw8196605519924186914:=True
def tw17064323533275744259:=True
def tw4459910283356952940:=True
def tw3864405703968747514:=True
def tw17893599939351818286:=True
def tw16113839188383854107:=True
def tw15164504444742246306:=True
def tw13544205818037476522:=True
def tw3002924545957151547:=True
def tw12906915856626138981:=True
def tw12265447609832394870:=True
def tw2752565600387738970:=True
def tw8035606769370166718:=True
def tw1573781473018151856:=True
def tw18117041966847488576:=True
def tw7689208484947801596:=True
def tw231955578189267340:=True
def tw2001636915023002629:=True
def tw15535244514073618689:=True
def tw8970586070969115220:=True
def tw11816694201968384033:=True
def tw4616612284831001313:=True
def tw5465576993870108541:=True
def tw6627565292992823365:=True
def tw6195176769605160536:=True
def tw16438780712875231932:=True
def tw3019422681658328210:=True
def tw6929947588304949526:=True
def tw8545444621911615129:=True
def tw11373292712799350125:=True
def tw12221966380906822595:=True
def tw760976094476769565:=True
def tw14549607232956262294:=True
def tw12234738274820382381:=True
def tw401134537831161095:=True
def tw13149520875715062583:=True
def tw7973723541020054093:=True
def tw3399287933279094257:=True
def tw14370853046091381650:=True
def tw12123530276468330787:=True
def tw12741383475800998581:=True
def tw16585891600212215478:=True
def tw7057510336289327365:=True
def tw3161193199610546278:=True
def tw11470136362749235622:=True
def tw17439183691323514004:=True
def tw16345370456267209085:=True
def tw10238923290155236970:=True
def tw14181463029730170702:=True
def tw15955154046490554895:=True
def tw1175852757039685966:=True
def tw14694720344578536863:=True
def tw4963455092155862506:=True
def tw18154085602925493752:=True
def tw11477272208182334865:=True
def tw9792623727383252524:=True
def tw3369826794193931206:=True
def tw3919289974947303598:=True
def tw16253425851222796804:=True
def tw17336410428952466802:=True
def tw13476775062540817342:=True
def tw164879025938321526:=True
def tw8706162253919805799:=True
def tw9239598526209603139:=True
def tw8081368167992165946:=True
def tw16903453795738151872:=True
def tw3145381968622637599:=True
def tw2649160086249632820:=True
def tw1297128489639367739:=True
def tw1175919376381032113:=True
def tw15179113816854219412:=True
def tw9618339162367490960:=True
def tw9071598977530527652:=True
def tw7798435543427917707:=True
def tw9753288918144573007:=True
def tw11267902472618303186:=True
def tw6428353374743373523:=True
def tw4361642159488325697:=True
def tw2090678792274261000:=True
def tw14148691040481822648:=True
def tw14188530486926497460:=True
def tw7576480507513614453:=True
def tw16586827110444246880:=True
def tw713748733473923337:=True
def tw2661434869760970369:=True
def tw3230663282502019876:=True
def tw5815208403551784061:=True
def tw6492589376213553439:=True
def tw12693158017718238796:=True
def tw3079426524509632271:=True
def tw7711140782016867520:=True
def tw11175033964035777223:=True
def tw2155329414797540101:=True
def tw5959360208022550018:=True
def tw11745538682890632929:=True
def tw3761463039945510876:=True
def tw7565317834201830041:=True
def tw9318418983964466344:=True
def tw2466541594380257956:=True
def tw1485829379787618398:=True
def tw8973611247803576741:=True
def tw12046986058064222638:=True
def tw14147230449539076405:=True
def tw11220529350018585537:=True
def tw12994297705569256185:=True
def tw10063662159067122026:=True
def tw31339264470259882:=True
def tw11022423333059918303:=True
def tw6305102546287773238:=True
def tw7838550711811457094:=True
def tw18065648675402264106:=True
def tw1834859934080037052:=True
def tw6351403215929710452:=True
def tw10013355236038392910:=True
def tw4189994066923878169:=True
def tw9520781202425853368:=True
def tw12017902493677401287:=True
def tw2126983122144001878:=True
def tw13888696705734557713:=True
def tw12317452940162791293:=True
def tw8734007423646782317:=True
def tw11337646549838178210:=True
def tw1586260302834271425:=True
def tw1784395387169634858:=True
def tw11266894569741737659:=True
def tw1417403711833127051:=True
def tw8050122401939817784:=True
def tw14595840795897251966:=True
def tw8745007815830853681:=True
def tw1257354315363372805:=True
def tw14140712637655926783:=True
def tw16387031620140956049:=True
def tw14944817050110890591:=True
def tw14875970737141571161:=True
def tw9024829554766839519:=True
def tw8747894734525799391:=True
def tw5235171772194075749:=True
def tw7125044931717561717:=True
def tw11756849942323618294:=True
def tw8183852930624399750:=True
def tw13093821443536531940:=True
def tw3171047641972366129:=True
def tw9640815894890315441:=True
def tw7927481033314566462:=True
def tw17370493261947932979:=True
def tw9552401845550430018:=True
def tw7858329088271258088:=True
def tw1036964889621471924:=True
def tw13996544957969493145:=True
def tw12444917131380392005:=True
def tw12495248144493193537:=True
def tw10954670555588917722:=True
def tw3399442752531619832:=True
def tw10554074619061752393:=True
def tw5500978984683429605:=True
def tw9699811952624156083:=True
def tw15127386972702427944:=True
def tw6450972774107158499:=True
def tw10690843958757884471:=True
def tw6988316346799477679:=True
def tw11599571798565969837:=True
def tw3724840179162803076:=True
def tw11885219092742991248:=True
def tw15810425351295970203:=True
def tw10150344656293992761:=True
def tw17971755864888628789:=True
def tw15080551604418866761:=True
def tw4807774619601850012:=True
def tw10157999218942195029:=True
def tw6894849065929495058:=True
def tw204965460645588134:=True
def tw17539920260392110829:=True
def tw12715226612828933993:=True
def tw4289230003474509140:=True
def tw1324399876847213086:=True
def tw14240021139419061143:=True
def tw16435955318424311510:=True
def tw16780663644413671825:=True
def tw6965620751633202722:=True
def tw40705419859299535:=True
def tw557544104028489270:=True
def tw5128641090224556242:=True
def tw18144627024735022090:=True
def tw7638230167999230034:=True
def tw8704969227709128159:=True
def tw16879835950831233984:=True
def tw11984904765460625896:=True
def tw10789374590967062277:=True
def tw5856681936972387854:=True
def tw14312001903296899739:=True
def tw12322214925325635155:=True
def tw2574841335635882874:=True
def tw765560159567629798:=True
def tw8342866824870567020:=True
def tw6176474412353081709:=True
def tw13210249790275797941:=True
def tw6981238064359913976:=True
def tw10869452068248597076:=True
def tw984823028257933370:=True
def tw832931271925541939:=True
def tw18420538280227359036:=True
def tw7511685188058602105:=True
def tw7514641038596835449:=True
def tw17635088504877503212:=True
def tw4733612724032123964:=True
def tw5194125848805971622:=True
def tw13587149272371805974:=True
def tw5244706310129610137:=True
def tw13521867092097774283:=True
def tw255312153230773671:=True
def tw11264911140515358634:=True
def tw8229150701293210197:=True
def tw16112182714009188576:=True
def tw10431694713706937827:=True
def tw18039365745571051587:=True
def tw6921995662133846964:=True
def tw5328610487461782676:=True
def tw15346184280055016599:=True
def tw707639926468627669:=True
def tw15122600366800086509:=True
def tw13782972476895958423:=True
def tw3596520963711863028:=True
def tw15340611028365172232:=True
def tw17853764132243748961:=True
def tw11728863476878006584:=True
def tw2241679809859743436:=True
def tw6834273844808263554:=True
def tw14881254915299415328:=True
def tw15947800382713639137:=True
def tw720002630910352340:=True
def tw11815618947964446627:=True
def tw13607034095408548371:=True
def tw7345904539092503546:=True
def tw10461778716100268151:=True
def tw2748762602492307764:=True
def tw16149565673330864714:=True
def tw574747564493380326:=True
def tw17180602092478079609:=True
def tw3936889432647815191:=True
def tw8984918047112212140:=True
def tw12450432716685312441:=True
def tw15461489818813934252:=True
def tw14219232100666134454:=True
def tw7907206634099022528:=True
def tw5076772344947853675:=True
def tw4749676587527349994:=True
def tw11382466335121386320:=True
def tw18300356823391010846:=True
def tw14311499161932582189:=True
def tw10501361845877933798:=True
def tw12636202070158533772:=True
def tw13393065945899155712:=True
def tw18366024136395899503:=True
def tw101855704822026782:=True
def tw9235845849515322090:=True
def tw8249506400821785188:=True
def tw9519552548342385253:=True
def tw14501321664455332119:=True
def tw9188830348218631394:=True
def tw11426014633358282007:=True
def tw17490902433027596533:=True
def tw5844224588723207280:=True
def tw2365867556543855092:=True
def tw4875088950633622273:=True
def tw8286304099436491107:=True
def tw12082393794492436718:=True
def tw4965726003787105476:=True
def tw5148424820317814997:=True
def tw13207425205216431514:=True
def tw4943414918041887970:=True
def tw348275771588212778:=True
def tw4849345333345418699:=True
def tw9893197648035748382:=True
def tw17915980031154077697:=True
def tw226762780136960264:=True
def tw2815574389771182996:=True
def tw12662666437972060626:=True
def tw7286445555076571264:=True
def tw2575955742141476507:=True
def tw4404362142228286651:=True
def tw8199160263169865542:=True
def tw10511162243315956197:=True
def tw8723918764662641118:=True
def tw10891426821065505436:=True
def tw1017937573532738430:=True
def tw5079355401390534411:=True
def tw18007114282583156822:=True
def tw17425187055375900258:=True
def tw17538679393435496495:=True
def tw1796533518324601761:=True
def tw8061488465972965809:=True
def tw13655863181121588482:=True
def tw10017366161231227541:=True
def tw10180534741746765595:=True
def tw14268576190507845912:=True
def tw8208833882838592755:=True
def tw16158636427099748587:=True
def tw11028045919564481961:=True
def tw11969314515626267571:=True
def tw3966121663736506307:=True
def tw6124844002770020128:=True
def tw12831872318567696842:=True
def tw6426186421760545841:=True
def tw12737353846396728674:=True
def tw14673546588909876630:=True
def tw12031478327365533253:=True
def tw17492694985845148371:=True
def tw804542837879779536:=True
def tw631172961122389648:=True
def tw6524761293500633831:=True
def tw5819973713587748971:=True
def tw18394817539746850231:=True
def tw7870125321728798780:=True
def tw15160722041181266156:=True
def tw4773842636220508363:=True
def tw8698924136752537534:=True
def tw15485571686762262345:=True
def tw11850913403218818752:=True
def tw17014236184497865168:=True
def tw17494220787707228337:=True
def tw8072720737913614845:=True
def tw12971322681637896844:=True
def tw8671030932606380565:=True
def tw10864403127870881935:=True
def tw8453126259990109612:=True
def tw769129215162489103:=True
def tw7692954856861891703:=True
def tw3340052790672504143:=True
def tw13727184606661663633:=True
def tw6709388528012101837:=True
def tw2938063839160348857:=True
def tw1950939676358460415:=True
def tw5731076054000960875:=True
def tw5436405207214356150:=True
def tw7561733169298983307:=True
def tw15743877650613101820:=True
def tw4173439039507963070:=True
def tw12980985918305415240:=True
def tw9350219142307859042:=True
def tw4494871349609516071:=True
def tw10623761708183257699:=True
def tw8615314253002551916:=True
def tw10340099965552528979:=True
def tw7086729833793163529:=True
def tw11349826190959650356:=True
def tw2826801480586795050:=True
def tw12704796261754562671:=True
def tw5116698232676947912:=True
def tw2963022910410428056:=True
def tw1225088232834965865:=True
def tw8956974936829002844:=True
def tw17990943252381476679:=True
def tw3920131465461099237:=True
def tw10287727605884684890:=True
def tw4987010781258737287:=True
def tw14102033512692522897:=True
def tw7100540232559915837:=True
def tw8407905743508391714:=True
def tw7248949866581542119:=True
def tw11497359153048027498:=True
def tw10973488669116608958:=True
def tw11708138168476860998:=True
def tw15573710141557364607:=True
def tw8632400724454585697:=True
def tw10798790640686051010:=True
def tw7071273138251459494:=True
def tw2596016672600379984:=True
def tw9429647542921204752:=True
def tw4846894284975492676:=True
def tw16861940039970703335:=True
def tw3491562519185301679:=True
def tw58916976001544382:=True
def tw4972061661921447729:=True
def tw1769109766505332059:=True
def tw7800990635301111570:=True
def tw14048220470465648423:=True
def tw7302834910897756092:=True
def tw4014035046045319328:=True
def tw14412485792816088888:=True
def tw8524955468646714701:=True
def tw7902288633229795861:=True
def tw6396577297910299586:=True
def tw12732579507347218931:=True
def tw16896759147339978046:=True
def tw133751909798496119:=True
def tw12315192542029648579:=True
def tw4191212581874561866:=True
def tw1345848213869493592:=True
def tw7291114752446267343:=True
def tw11722060439703287738:=True
def tw13456928335540081310:=True
def tw403040155433948476:=True
def tw3473651200656817223:=True
def tw2267118916829096915:=True
def tw9414033840926956042:=True
def tw8296437849647167288:=True
def tw7531470338165673817:=True
def tw10352556092505026326:=True
def tw4827137711980221916:=True
def tw18185448039255010576:=True
def tw13667232661066676940:=True
def tw547261699421179654:=True
def tw16054989023350284481:=True
def tw5303136095030690580:=True
def tw13848002771110546435:=True
def tw7368231533961188048:=True
def tw9652453188813600298:=True
def tw13341211704130521288:=True
def tw14698214031627676328:=True
def tw4688619046475933837:=True
def tw1818838651686735053:=True
def tw8049911389875574587:=True
def tw8911459813180850106:=True
def tw17494859662616456213:=True
def tw15775326585083405295:=True
def tw8914044637647870777:=True
def tw2461048408581446222:=True
def tw13154343281235655091:=True
def tw8014827589255424485:=True
def tw2310358869287457552:=True
def tw11545195847302896844:=True
def tw8158910502510410732:=True
def tw7838751213144484754:=True
def tw223044108861771704:=True
def tw18357252544525935562:=True
def tw2855582767565140433:=True
def tw16636915660302205033:=True
def tw18311113131981363661:=True
def tw10881724411651809987:=True
def tw2980780933521351870:=True
def tw15615598008612464121:=True
def tw3819251987639117806:=True
def tw7893665984874679788:=True
def tw1451689059022055059:=True
def tw6688098245606855959:=True
def tw6841059794401310297:=True
def tw252522885745799344:=True
def tw10260855305022818276:=True
def tw14906913168731148572:=True
def tw1782523088551884943:=True
def tw3560057270352852855:=True
def tw10515090272648002015:=True
def tw7469705629383665971:=True
def tw6070751615989818049:=True
def tw16431207540898148547:=True
def tw11955526696179047512:=True
def tw15827720994228852173:=True
def tw12274714967890629013:=True
def tw15224663750071346571:=True
def tw6255450329499290353:=True
def tw3236149597286870285:=True
def tw661771922412749761:=True
def tw2809153006953652598:=True
def tw17135768124835129427:=True
def tw6318614627819310815:=True
def tw10375783570970255488:=True
def tw18162477936781825644:=True
def tw11360362780044815313:=True
def tw16724433738036095494:=True
def tw15124167055172757131:=True
def tw29877132036271399:=True
def tw628290195154197779:=True
def tw9856508063661007290:=True
def tw4708935511913209485:=True
def tw8276541794789324496:=True
def tw15674307533845903167:=True
def tw751880381885048523:=True
def tw4466107328215398900:=True
def tw1722137058805335637:=True
def tw13119786674429181049:=True
def tw7067072677128253249:=True
def tw9605358138329097526:=True
def tw9906401679589181894:=True
def tw7417528332055640581:=True
def tw17931809180265002691:=True
def tw15232761673609680684:=True
def tw7467616062447438001:=True
def tw1617851702078692127:=True
def tw7836924438263152407:=True
def tw12923378531376805353:=True
def tw5162066699256929038:=True
def tw5785826647920724243:=True
def tw16903578384869653958:=True
def tw16836374468177872985:=True
def tw16033375814704263298:=True
def tw6481720552851801465:=True
def tw7848905650491513908:=True
def tw10464177973406361757:=True
def tw5416604723828181246:=True
def tw8298245705404555720:=True
def tw1043137566508877311:=True
def tw18204137408447417845:=True
def tw4707710131053986709:=True
def tw2727638191681168307:=True
def tw15940552310309043571:=True
def tw8157299967094592733:=True
def tw14416069467745874730:=True
def tw10805409293732782545:=True
def tw7268059641147287102:=True
def tw3455108029868583587:=True
def tw278943257745974330:=True
def tw16228335414214611680:=True
def tw1995559718032220301:=True
def tw7125147418033236909:=True
def tw8087933925449089435:=True
def tw292495997106070935:=True
def tw1490782640855410603:=True
def tw8246280871857502018:=True
def tw17597456612262510073:=True
def tw1606278292700755276:=True
def tw11209911804821523679:=True
def tw15868068509981753028:=True
def tw10255397718932977603:=True
def tw7635305414003670158:=True
def tw11477741050863110684:=True
def tw3438436759230162577:=True
def tw3674845300263314885:=True
def tw10474668374388580076:=True
def tw5704552337483250993:=True
def tw12412282070207168030:=True
def tw549579400944559071:=True
def tw16713962938360749113:=True
def tw18292732608979695845:=True
def tw10792257848146697923:=True
def tw88691597204092576:=True
def tw14488861004618894707:=True
def tw6520470944933727235:=True
def tw17662809220531102712:=True
def tw8736077132581595757:=True
def tw12617737540265614116:=True
def tw8404896721310700129:=True
def tw2887153473377976780:=True
def tw11714056045032261399:=True
def tw7979610788914401462:=True
def tw11317373944333406937:=True
def tw5276168265651307377:=True
def tw14632155535931979810:=True
def tw3109569284400186808:=True
def tw2093902626506403631:=True
def tw11120234444782784704:=True
def tw6389502411952678287:=True
def tw17685061400480904999:=True
def tw7306436293026988499:=True
def tw4527356616879525306:=True
def tw3989827582721694685:=True
def tw6149813652158498288:=True
def tw6422475369884262797:=True
def tw15764484384747999903:=True
def tw6242622973886930741:=True
def tw3382411636925107700:=True
def tw627469438340879749:=True
def tw14601388404426412076:=True
def tw14705825486018905074:=True
def tw18272858237830765068:=True
def tw16988078940806650295:=True
def tw15808579569526703446:=True
def tw12069631716123580743:=True
def tw9827004033128386466:=True
def tw8825323367753652365:=True
def tw672720249094548706:=True
def tw694884825399576377:=True
def tw17631031169507940868:=True
def tw15573100810321185410:=True
def tw12899191886759315724:=True
def tw8575447269342128382:=True
def tw13474104080381937771:=True
def tw11550768890996318784:=True
def tw10163239675375658320:=True
def tw7171165577146151604:=True
def tw7563045200834617608:=True
def tw8754676851611664560:=True
def tw3450868740136228671:=True
def tw17110346410614696227:=True
def tw6102654294288871570:=True
def tw7271086100773931891:=True
def tw6997451929449636132:=True
def tw11691033572442193718:=True
def tw16938040130878973055:=True
def tw14241714152808780279:=True
def tw8851692976760020737:=True
def tw12791923855651261358:=True
def tw16005647302695394607:=True
def tw15511367487622973760:=True
def tw8746129795110481982:=True
def tw3757495544627584406:=True
def tw13344852876607055082:=True
def tw16778716141962200501:=True
def tw12443256004250874396:=True
def tw16241836398180507683:=True
def tw13965097041869490157:=True
def tw9951999169855021246:=True
def tw847269886101259555:=True
def tw11160506675784041005:=True
def tw10061169990421118108:=True
def tw10412572510170007601:=True
def tw11220033201596990523:=True
def tw18090265877439851429:=True
def tw8215334291204051672:=True
def tw1002270194838609302:=True
def tw790533962557435283:=True
def tw3884509478983708969:=True
def tw5808766613333951300:=True
def tw10476767571475894595:=True
def tw5058508561403069245:=True
end PySem.W.Fast
open PySem PySem.W PyProof.Rows
set_option maxRecDepth 100000 in
set_option maxHeartbeats 0 in
theorem PySem.Challenge.cw_yardkeep_k52_world_refuses_holds : PySem.Challenge.rw_yardkeep_k52_world_refuses.Holds := by
  w_on; o_law; k_head; (case hw=>w_witness2)
  k_fill
  refine K52.walk (l:=PySem.Challenge.rw_yardkeep_k52_world_refuses) rfl rfl (fun w h Y=>PySem.W.km_in_of Y) ?F ?Qz
  case Qz=>kernel_rfl
  case F =>
    intro w mg fa h Y KX G hmg
    refine' K52.all_mk KX G hmg ?q0a ?q0b ?q0c ?q0d ?q0e ?q0f ?q0g ?q0h ?q0i ?q0j ?q0k ?q0l ?q0m ?q0n ?q0o ?q0p ?q0q ?q0r ?q0s ?q0t ?q0u ?q0v ?q0w ?q0x ?q0y ?q0z ?q00 ?q01 ?q02 ?q03 ?q04 ?q05 ?q06 ?q07 ?q08 ?q09 ?q1a ?q1b ?q1c ?q1d ?q1e ?q1f ?q1g ?q1h ?q1i ?q1j ?q1k ?q1l ?q1m ?q1n ?q1o ?q1p ?q1q ?q1r ?q1s ?q1t ?q1u ?q1v ?q1w ?q1x ?q1y ?q1z ?q10 ?q11 ?q12 ?q13 ?q14 ?q15 ?q16 ?q17 ?q18 ?q19 ?q2a ?q2b ?q2c ?q2d ?q2e ?q2f ?q2g ?q2h ?q2i ?q2j ?q2k ?q2l ?q2m ?q2n ?q2o ?q2p ?q2q ?q2r ?q2s ?q2t ?q2u ?q2v ?q2w ?q2x ?q2y ?q2z ?q20 ?q21 ?q22 ?q23 ?q24 ?q25 ?q26 ?q27 ?q28 ?q29 ?q3a ?q3b ?q3c ?q3d ?q3e ?q3f ?q3g ?q3h ?q3i ?q3j ?q3k ?q3l ?q3m ?q3n ?q3o ?q3p ?q3q ?q3r ?q3s ?q3t ?q3u ?q3v ?q3w ?q3x ?q3y ?q3z ?q30 ?q31 ?q32 ?q33 ?q34 ?q35 ?q36 ?q37 ?q38 ?q39 ?q4a ?q4b ?q4c ?q4d ?q4e ?q4f ?q4g ?q4h ?q4i ?q4j ?q4k ?q4l ?q4m ?q4n ?q4o ?q4p ?q4q ?q4r ?q4s ?q4t ?q4u ?q4v ?q4w ?q4x ?q4y ?q4z ?q40 ?q41 ?q42 ?q43 ?q44 ?q45 ?q46 ?q47 ?q48 ?q49 ?q5a ?q5b ?q5c ?q5d ?q5e ?q5f ?q5g ?q5h ?q5i ?q5j ?q5k ?q5l ?q5m ?q5n ?q5o ?q5p ?q5q ?q5r ?q5s ?q5t ?q5u ?q5v ?q5w ?q5x ?q5y ?q5z ?q50 ?q51 ?q52 ?q53 ?q54 ?q55 ?q56 ?q57 ?q58 ?q59 ?q6a ?q6b ?q6c ?q6d ?q6e ?q6f ?q6g ?q6h ?q6i ?q6j ?q6k ?q6l ?q6m ?q6n ?q6o ?q6p ?q6q ?q6r ?q6s ?q6t ?q6u ?q6v ?q6w ?q6x ?q6y ?q6z ?q60 ?q61 ?q62 ?q63 ?q64 ?q65 ?q66 ?q67 ?q68 ?q69 ?q7a ?q7b ?q7c ?q7d ?q7e ?q7f ?q7g ?q7h ?q7i
    case q0a|q0b|q0c|q0d|q0e|q0f|q0g|q0h|q0i|q0j|q0k|q0l|q0m|q0n=>(delta K52.NI;k_is)
    case q0o|q0p|q0q|q0r|q0s|q0t|q0u|q0v|q0w|q0x|q0y|q0z|q00|q01|q02|q03|q04|q05|q06|q07|q08|q09|q1a|q1b|q1c|q1d|q1e|q1f|q1g|q1h|q1i|q1j|q1k|q1l|q1m|q1n|q1o|q1p|q1q|q1r|q1s|q1t|q1u|q1v|q1w|q1x|q1y|q1z|q10|q11|q12|q13|q14|q15|q16|q17|q18|q19=>(refine' ⟨?xqz,?xqa,?xqb,?xqc⟩;(case xqz=>k_is);(case xqa=>k_is);(case xqb=>k_is);(case xqc=>k_is))
    case q2a|q2b|q2c|q2d|q2e|q2f|q2g|q2h|q2i|q2j|q2k|q2l|q2m|q2n|q2o|q2p|q2q|q2r|q2s|q2t|q2u=>k_is
    case q2v|q2w|q2x|q2y|q2z|q20|q21|q22|q23|q24|q25|q26|q27|q28|q29|q3a|q3b|q3c=>refine ⟨?_,?_,?_,?_⟩<;>k_is
    case q3d|q3e|q3f|q3g|q3h|q3i|q3j|q3k|q3l|q3m|q3n|q3o|q3p|q3q|q3r|q3s|q3t|q3u|q3v|q3w|q3x|q3y|q3z|q30|q31|q32|q33|q34|q35|q36|q37=>refine ⟨?_,?_,?_⟩<;>k_is
    case q38|q39|q4a|q4b|q4c|q4d|q4e|q4f|q4g|q4h|q4i|q4j|q4k|q4l|q4m|q4n|q4o|q4p|q4q|q4r|q4s|q4t|q4u|q4v|q4w|q4x|q4y|q4z|q40|q41|q42|q43|q44|q45|q46|q47|q48|q49|q5a|q5b|q5c|q5d|q5e|q5f|q5g|q5h|q5i|q5j|q5k|q5l|q5m|q5n|q5o=>k_is
    case q5p|q5q|q5r|q5s|q5t|q5u|q5v|q5w|q5x|q5y|q5z|q50|q51|q52|q53|q54|q55|q56|q57|q58|q59|q6a|q6b|q6c|q6d|q6e|q6f|q6g|q6h|q6i|q6j|q6k|q6l|q6m|q6n|q6o|q6p|q6q=>kit_is
    case q6r|q6s|q6t|q6u=>kernel_rfl
    case q6v=>kit_is
    case q6w|q6x|q6y|q6z=>k_exc
    case q60|q61|q62|q63=>(refine' ⟨⟨?xqa,?xqb,?xqc⟩,?xqd,?xqe,?xqf,?xqg,?xqh⟩;(case xqa=>k_is);(case xqb=>k_is);(case xqc=>k_is);(case xqd=>show PySem.W.isClsIn _ _=true;k_is);(case xqe=>k_is);(case xqf=>k_is);(case xqg=>k_is);(case xqh=>k_is))
    case q64=>rfl
    case q65=>k_is
    case q66=>rfl
    case q67=>kernel_rfl
    case q68=>rfl
    case q69=>k_is
    case q7a=>rfl
    case q7b=>kernel_rfl
    case q7c=>rfl
    case q7d=>k_is
    case q7e=>rfl
    case q7f=>kernel_rfl
    case q7g=>exact K52.tabs_all Y
    case q7h=>decide
    case q7i=>kernel_rfl
