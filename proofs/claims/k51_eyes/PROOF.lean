import PyProof.Rows.All
import Wide.All
import OpenK.AllK
import Wide.FinOn
import Lean
import PyProof.EqAt
import PyProof.EqKinds
import PyProof.TupleCall
import PyProof.NeKinds
import KE.KEqDict
import KE.KPairComp
import PyProof.EnumStmt
import PyProof.EnumMake
import PyProof.Rows.EnumRows
import KE.KDictList
import PyProof.ListRange
import PyProof.StationsW
import PyProof.Rows.SortStr
import KE.KDictSum
import PyProof.InstStoreFacts
import KE.KIsAll
import PyProof.ExcAttrAll.ValueError
import PyProof.ExcClass2
import PyProof.RulesAs
import KE.KDictOf
import PyProof.IsiH_list
import KE.KLam
import KE.KNestM
import PyProof.Rows.TupAssign
import PySem.Challenge.RW_yardkeep_k51_eyes
-- the row comes behind
set_option Elab.async false
set_option linter.all false
set_option maxRecDepth 100000
/-! THE HAND LAYER, for ints, bools, texts, own classes, LISTS and tuples (index, slices, in, append, pop ..), calls, loops. Paste it whole ahead of your own text; what your proof does not reach may be deleted. -/
namespace L2
open PySem PySem.Spec PyProof.Rows
/-- a key: an int or a str -/
abbrev Key := Sum Int Str
def keyIs : Key → Value → Bool
  | .inl k, v => Value.isInt k v
  | .inr x, v => Value.isStrOf x v
def keyH (w : World) : Key → Int
  | .inl k => hashInt k
  | .inr x => hashStr w x
theorem keyIs_shape : ∀ {k : Key} {v : Value}, keyIs k v = true → (∃ i t, k = Sum.inl i ∧ v = Value.int i t) ∨ (∃ x t, k = Sum.inr x ∧ v = Value.str x t)
  | .inl i, v, h => by
    obtain ⟨t, e⟩ := Value.isInt_shape (k := i) (v := v) h
    exact .inl ⟨i, t, rfl, e⟩
  | .inr x, v, h => by
    obtain ⟨t, e⟩ := Value.isStrOf_shape (x := x) (v := v) h
    exact .inr ⟨x, t, rfl, e⟩
theorem keyIs_int (i : Int) (t : Tok) : keyIs (.inl i) (.int i t) = true := by simp [keyIs, Value.isInt]
theorem keyIs_str (x : Str) (t : Tok) : keyIs (.inr x) (.str x t) = true := by simp [keyIs, Value.isStrOf]
theorem key_ll (a b : Int) : decide ((Sum.inl a : Key) = Sum.inl b) = (a == b) := by
  by_cases e : a = b
  · subst e; simp
  · have h : ¬ (Sum.inl a : Key) = Sum.inl b := fun q => e (Sum.inl.inj q)
    rw [decide_eq_false h]
    exact (beq_eq_false_iff_ne.mpr e).symm
theorem key_rr (a b : Str) : decide ((Sum.inr a : Key) = Sum.inr b) = decide (a = b) := by
  by_cases e : a = b
  · subst e; simp
  · have h : ¬ (Sum.inr a : Key) = Sum.inr b := fun q => e (Sum.inr.inj q)
    rw [decide_eq_false h, decide_eq_false e]
theorem key_lr (a : Int) (b : Str) : decide ((Sum.inl a : Key) = Sum.inr b) = false := decide_eq_false (fun q => nomatch q)
theorem key_rl (a : Str) (b : Int) : decide ((Sum.inr a : Key) = Sum.inl b) = false := decide_eq_false (fun q => nomatch q)
def mixKind (prog : Program) (w : World) : PySem.KeyKind prog w Key where
  is := keyIs
  hash := keyH w
  inj := fun v a b ha hb => by
    rcases keyIs_shape ha with ⟨i, t, rfl, rfl⟩ | ⟨x, t, rfl, rfl⟩
    · rcases keyIs_shape hb with ⟨j, u, rfl, e⟩ | ⟨y, u, rfl, e⟩
      · injection e with e1 _; rw [e1]
      · exact nomatch e
    · rcases keyIs_shape hb with ⟨j, u, rfl, e⟩ | ⟨y, u, rfl, e⟩
      · exact nomatch e
      · injection e with e1 _; rw [e1]
  byValue := fun k v h => by
    rcases keyIs_shape h with ⟨i, t, rfl, rfl⟩ | ⟨x, t, rfl, rfl⟩ <;> rfl
  pyHash := fun hv h => by
    rcases keyIs_shape hv with ⟨i, t, rfl, rfl⟩ | ⟨x, t, rfl, rfl⟩
    · exact wpAny_pyHash_int h
    · exact wpAny_pyHash_str h
  eqBool := fun hu hv h => by
    rcases keyIs_shape hu with ⟨i, t, rfl, rfl⟩ | ⟨x, t, rfl, rfl⟩
    · rcases keyIs_shape hv with ⟨j, u, rfl, rfl⟩ | ⟨y, u, rfl, rfl⟩
      · rw [key_ll] at h; exact wpAny_eqBool_int h
      · rw [key_lr] at h; exact SeqAt.EqAt.int_str i t y u _ _ _ _ h
    · rcases keyIs_shape hv with ⟨j, u, rfl, rfl⟩ | ⟨y, u, rfl, rfl⟩
      · rw [key_rl] at h; exact SeqAt.EqAt.str_int x t j u _ _ _ _ h
      · rw [key_rr] at h; exact wpAny_eqBool_str h
  «strs» := fun k x t v h => by
    rcases keyIs_shape h with ⟨i, u, rfl, e⟩ | ⟨y, u, rfl, e⟩
    · exact nomatch e
    · injection e with e1 _
      subst e1
      cases v <;> rfl
theorem mixKind_int (prog : Program) (w : World) (i : Int) (t : Tok) : (mixKind prog w).is (.inl i) (.int i t) = true := keyIs_int i t
theorem mixKind_str (prog : Program) (w : World) (x : Str) (t : Tok) : (mixKind prog w).is (.inr x) (.str x t) = true := keyIs_str x t
end L2
namespace L2
open PySem PySem.Spec PyProof.Rows
/-- a value, without the heap -/
inductive V where
  | non | bl (b : Bool) | int (i : Int) | str (x : Str) | byt (b : Array UInt8) | flt (b : UInt64) | ref (a : Addr) | ty (n : String)
  deriving DecidableEq
def RelV : V → Value → Prop
  | .non, u => u = Value.none
  | .bl b, u => u = Value.bool b
  | .int i, u => ∃ t, u = Value.int i t
  | .str x, u => ∃ t, u = Value.str x t
  | .byt b, u => ∃ t, u = Value.bytes b t
  | .flt b, u => ∃ t, u = Value.float b t
  | .ref a, u => u = Value.ref a
  | .ty n, u => u = Value.type n
abbrev Vals : List V → List Value → Prop := Paired RelV
theorem Vals.length {xs : List V} {us : List Value} (r : Vals xs us) : xs.length = us.length := Paired.length r
theorem Vals.get : ∀ {xs : List V} {us : List Value} {i : Nat} {x : V}, Vals xs us → xs[i]? = some x → ∃ u, us[i]? = some u ∧ RelV x u
  | _, _, _, _, .nil, e => by simp at e
  | _, _, 0, _, .cons r _, e => by simp at e; subst e; exact ⟨_, rfl, r⟩
  | _, _, i + 1, x, .cons _ t, e => by
    obtain ⟨u, h1, h2⟩ := Vals.get (i := i) (x := x) t (by simpa using e)
    exact ⟨u, by simpa using h1, h2⟩
theorem Vals.set {x : V} {u : Value} (r : RelV x u) : ∀ {xs : List V} {us : List Value} (i : Nat), Vals xs us → Vals (xs.set i x) (us.set i u)
  | _, _, _, .nil => .nil
  | _, _, 0, .cons _ t => .cons r t
  | _, _, i + 1, .cons q t => .cons q (Vals.set r i t)
theorem Vals.append : ∀ {xs ys : List V} {us ws : List Value}, Vals xs us → Vals ys ws → Vals (xs ++ ys) (us ++ ws)
  | _, _, _, _, .nil, s => s
  | _, _, _, _, .cons r t, s => .cons r (Vals.append t s)
theorem Vals.take : ∀ {xs : List V} {us : List Value} (n : Nat), Vals xs us → Vals (xs.take n) (us.take n)
  | _, _, 0, _ => .nil
  | _, _, _ + 1, .nil => .nil
  | _, _, n + 1, .cons r t => .cons r (Vals.take n t)
theorem Vals.drop : ∀ {xs : List V} {us : List Value} (n : Nat), Vals xs us → Vals (xs.drop n) (us.drop n)
  | _, _, 0, r => r
  | _, _, _ + 1, .nil => .nil
  | _, _, n + 1, .cons _ t => Vals.drop n t
theorem Vals.none_of : ∀ {xs : List V} {us : List Value} {i : Nat}, Vals xs us → xs[i]? = none → us[i]? = none := fun {xs us i} r e => by
  have h1 := r.length
  have h2 : xs.length ≤ i := List.getElem?_eq_none_iff.mp e
  exact List.getElem?_eq_none_iff.mpr (by omega)
def RelO : Option V → Option Value → Prop
  | some v, some u => RelV v u
  | none, none => True
  | _, _ => False
def KV {κ : Type} : List (κ × V) → List (κ × Value) → Prop := Paired fun (p : κ × V) (q : κ × Value) => p.1 = q.1 ∧ RelV p.2 q.2
/-- a key of a dict (00_mix): an int or a text -/
def kV : Key → V
  | .inl i => .int i
  | .inr x => .str x
/-- what stands at a tracked address -/
inductive HO where
  /-- a list -/
  | lst (xs : List V)
  /-- a tuple (never changes) -/
  | tup (xs : List V)
  /-- a dict whose keys are ints and texts; one whose keys are tuples of ints and texts (the empty one is both) -/
  | dK (kvs : List (Key × V)) | dT (kvs : List (List Key × V))
  /-- a set of ints: its members, its size -/
  | set (S : Int → Bool) (n : Nat)
  /-- an instance of the class at C, its dict at dx, its attributes -/
  | ins (C dx : Addr) (fs : List (Str × V))
  /-- the dict of the instance at x -/
  | own (x : Addr)
  /-- the dict of an exception -/
  | xd (fs : List (Str × V))
  /-- a bound method, f of x -/
  | met (f x : Addr)
  /-- a range object lo, lo + 1, .. below hi -/
  | rng (lo hi : Int)
  /-- a thing that is known to the object (the script; a dict while a loop walks it): read, never written while it is so -/
  | frz (o : Obj) (u : HO)
  /-- a code object's table -/
  | tbl (ps : Array Value)
  /-- any other thing, by what is true of its one object (a def of one's own: SetO a S n := HO.ext fun h => ..) -/
  | ext (φ : Heap → Prop)
abbrev Hp := Addr → Option HO
def upd (H : Hp) (a : Addr) (o : HO) : Hp := fun b => if b = a then some o else H b
theorem upd_same {H : Hp} {a : Addr} {o : HO} : upd H a o a = some o := by unfold upd; rw [if_pos rfl]
theorem upd_ne {H : Hp} {a b : Addr} {o : HO} (h : b ≠ a) : upd H a o b = H b := by unfold upd; rw [if_neg h]
theorem upd_upd {H : Hp} {a : Addr} {o u : HO} : upd (upd H a o) a u = upd H a u := by
  funext b; unfold upd; split <;> rfl
/-- two objects of different content stand apart -/
theorem ne_of {H : Hp} {a b : Addr} {o u : HO} (h : H a = some o) (h' : H b = some u) (d : o ≠ u) : a ≠ b := by
  intro e; subst e; rw [h] at h'; exact d (Option.some.inj h')
theorem ne_of_none {H : Hp} {a b : Addr} {o : HO} (h : H a = some o) (h' : H b = none) : a ≠ b := by
  intro e; subst e; rw [h] at h'; cases h'
section
variable (P : Program) (w : World)
def ObjOk (H : Hp) (h : Heap) (a : Addr) : HO → Prop
  | .lst xs => xs.length ≤ sizeLine ∧ ∃ (its : List Value) (n : Nat), Vals xs its ∧ h.get? a = some { cls := .type "list", data := .seq its.toArray n }
  | .tup xs => xs.length ≤ sizeLine ∧ ∃ its : List Value, Vals xs its ∧ IsTup h a its.toArray
  | .dK kvs => kvs.length ≤ sizeLine ∧ (a == sysModules) = false ∧ ∃ vs, KV kvs vs ∧ h.DictOf (mixKind P w) a vs
  | .dT kvs => kvs.length ≤ sizeLine ∧ (a == sysModules) = false ∧ ∃ xs : List (List Key × Addr × Value),
      Paired (fun (p : List Key × V) (q : List Key × Addr × Value) => p.1 = q.1 ∧ H q.2.1 = some (.tup (p.1.map kV)) ∧ RelV p.2 q.2.2) kvs xs ∧
      ∃ o es ep, h.get? a = some o ∧ o.ExactDict ∧ o.data = .dict es ep ∧ es.toList = xs.map (entryOfKey (tupleKind (mixKind P w))) ∧ (xs.map (·.1)).Nodup
  | .set S n => h.SetOf (intKind P w) a S n
  | .ins C dx fs => H dx = some (.own a) ∧ fs.length ≤ 1000 ∧ dx ≠ a ∧ h.get? a = some (PySem.W.instObj C dx) ∧
      ∃ mA, h.Ns1 dx mA ∧ (∀ f, RelO (fs.lookup f) (mA f)) ∧ PySem.Within mA (fs.map (·.1))
  | .own _ => ∃ o, h.get? a = some o
  | .xd fs => ∃ mA, h.Ns1 a mA ∧ ∀ f, RelO (fs.lookup f) (mA f)
  | .rng lo hi => ∃ t u v, h.get? a = some { cls := .type "range", data := .fields #[.int lo t, .int hi u, .int 1 v] }
  | .frz o u => h.get? a = some o ∧ ObjOk H h a u
  | .tbl ps => ∃ (ln cl : Value) (q : Str) (t : Nat), ps[0]? = some ln ∧ ps[1]? = some cl ∧ ps[2]? = some (.str q t) ∧
      (h.get? a = some { cls := .none, data := .fields #[] } ∨ ∃ (c : Addr) (oc : Obj) (vs : Array Value) (tt : Nat), H c = some (.frz oc (.own a)) ∧ oc.data = .fields vs ∧ vs[1]? = some (.str q tt) ∧
        h.get? a = some { cls := .none, data := .fields #[ln, cl, .ref c] })
  | .met f x => h.get? a = some (PySem.W.methodObj (.ref f) (.ref x))
  | .ext φ => φ h ∧ (∃ o, h.get? a = some o) ∧ ∀ h1 h2 : Heap, φ h1 → (∀ o, h1.get? a = some o → h2.get? a = some o) → φ h2
/-- the abstract heap is held -/
def HOk (H : Hp) (h : Heap) : Prop := ∀ a o, H a = some o → ObjOk P w H h a o
end
section
variable {P : Program} {w : World} {H H' : Hp} {h h' : Heap} {a : Addr} {o : HO}
theorem ObjOk.lt (x : ObjOk P w H h a o) : a < h.objs.size := by
  cases o with
  | lst xs => obtain ⟨_, _, _, _, e⟩ := x; exact Heap.lt_size e
  | tup xs => obtain ⟨_, _, _, p⟩ := x; exact p.lt
  | dK kvs => obtain ⟨_, _, _, _, o, _, _, e, _⟩ := x; exact Heap.lt_size e
  | dT kvs => obtain ⟨_, _, _, _, o, _, _, e, _⟩ := x; exact Heap.lt_size e
  | set S n => obtain ⟨o, _, _, _, e, _⟩ := x; exact Heap.lt_size e
  | ins C dx fs => obtain ⟨_, _, _, e, _⟩ := x; exact Heap.lt_size e
  | own y => obtain ⟨_, e⟩ := x; exact Heap.lt_size e
  | xd fs => obtain ⟨_, ⟨_, _, _, e, _⟩, _⟩ := x; exact Heap.lt_size e
  | rng lo hi => obtain ⟨_, _, _, e⟩ := x; exact Heap.lt_size e
  | frz ob u => obtain ⟨e, _⟩ := x; exact Heap.lt_size e
  | tbl ps =>
    obtain ⟨_, _, _, _, _, _, _, e | ⟨_, _, _, _, _, _, _, e⟩⟩ := x
    · exact Heap.lt_size e
    · exact Heap.lt_size e
  | met f y => exact Heap.lt_size (show h.get? a = some _ from x)
  | ext φ => obtain ⟨_, ⟨_, e⟩, _⟩ := x; exact Heap.lt_size e
theorem Paired.mapP {α β : Type} {F G : α → β → Prop} : ∀ {l₁ : List α} {l₂ : List β}, Paired F l₁ l₂ → (∀ a b, F a b → G a b) → Paired G l₁ l₂
  | _, _, .nil, _ => .nil
  | _, _, .cons r t, f => .cons (f _ _ r) (Paired.mapP t f)
/-- what an object's description leans on: its own object, its own dict, the tuples -/
theorem ObjOk.stay (x : ObjOk P w H h a o) (k : ∀ b u, (b = a ∨ H b = some (.own a)) → h.get? b = some u → h'.get? b = some u)
    (ho : ∀ b, H b = some (.own a) → H' b = some (.own a)) (ht : ∀ b xs, H b = some (.tup xs) → H' b = some (.tup xs))
    (hz : ∀ b o, H b = some (.frz o (.own a)) → H' b = some (.frz o (.own a)) := by first | exact fun _ _ q => q | (intro b o q; rw [upd_ne (ne_of_none q (by assumption))]; exact q)) : ObjOk P w H' h' a o := by
  induction o with
  | lst xs => obtain ⟨z, its, n, r, e⟩ := x; exact ⟨z, its, n, r, k _ _ (.inl rfl) e⟩
  | tup xs => obtain ⟨z, its, r, ob, e, c⟩ := x; exact ⟨z, its, r, ob, k _ _ (.inl rfl) e, c⟩
  | dK kvs => obtain ⟨z, y, vs, r, ob, es, ep, e, c⟩ := x; exact ⟨z, y, vs, r, ob, es, ep, k _ _ (.inl rfl) e, c⟩
  | dT kvs =>
    obtain ⟨z, y, xs, r, ob, es, ep, e, c⟩ := x
    exact ⟨z, y, xs, Paired.mapP r fun p q z => ⟨z.1, ht _ _ z.2.1, z.2.2⟩, ob, es, ep, k _ _ (.inl rfl) e, c⟩
  | set S n => obtain ⟨ob, es, ep, t, e, c⟩ := x; exact ⟨ob, es, ep, t, k _ _ (.inl rfl) e, c⟩
  | ins C dx fs =>
    obtain ⟨d, z, ne, e, mA, ⟨od, es, ep, e2, c⟩, r⟩ := x
    exact ⟨ho _ d, z, ne, k _ _ (.inl rfl) e, mA, ⟨od, es, ep, k _ _ (.inr d) e2, c⟩, r⟩
  | own y => obtain ⟨ob, e⟩ := x; exact ⟨ob, k _ _ (.inl rfl) e⟩
  | xd fs => obtain ⟨mA, ⟨od, es, ep, e, c⟩, r⟩ := x; exact ⟨mA, ⟨od, es, ep, k _ _ (.inl rfl) e, c⟩, r⟩
  | rng lo hi => obtain ⟨t, u, v, e⟩ := x; exact ⟨t, u, v, k _ _ (.inl rfl) e⟩
  | frz ob u ih => obtain ⟨e, q⟩ := x; exact ⟨k _ _ (.inl rfl) e, ih q⟩
  | tbl ps =>
    obtain ⟨ln, cl, q, t, e1, e2, e3, e | ⟨c, oc, vs, tt, f1, f2, f3, e⟩⟩ := x
    · exact ⟨ln, cl, q, t, e1, e2, e3, .inl (k a _ (.inl rfl) e)⟩
    · exact ⟨ln, cl, q, t, e1, e2, e3, .inr ⟨c, oc, vs, tt, hz _ _ f1, f2, f3, k a _ (.inl rfl) e⟩⟩
  | met f y =>
    have e : h.get? a = some (PySem.W.methodObj (.ref f) (.ref y)) := x
    show h'.get? a = some (PySem.W.methodObj (.ref f) (.ref y))
    exact k a _ (.inl rfl) e
  | ext φ => obtain ⟨p, ⟨o, e⟩, st⟩ := x; exact ⟨st _ _ p fun o q => k _ _ (.inl rfl) q, ⟨o, k _ _ (.inl rfl) e⟩, st⟩
theorem HOk.lt (x : HOk P w H h) (e : H a = some o) : a < h.objs.size := (x a o e).lt
theorem HOk.fresh (x : HOk P w H h) (e : h.objs.size ≤ a) : H a = none := by
  cases q : H a with
  | none => rfl
  | some u => exact absurd (Nat.lt_of_lt_of_le (x.lt q) e) (Nat.lt_irrefl _)
/-- every object of the heap is kept -/
theorem HOk.kept (x : HOk P w H h) (k : ∀ b u, h.get? b = some u → h'.get? b = some u) : HOk P w H h' := fun a o e =>
  (x a o e).stay (fun b u _ q => k b u q) (fun _ q => q) fun _ _ q => q
/-- a new object is laid and tracked -/
theorem HOk.laid (x : HOk P w H h) (k : ∀ b u, h.get? b = some u → h'.get? b = some u) (hp : h.objs.size ≤ a) (new : ObjOk P w (upd H a o) h' a o) : HOk P w (upd H a o) h' := fun b u e => by
  have hn := x.fresh hp
  by_cases hb : b = a
  · subst hb; rw [upd_same] at e; cases e; exact new
  · rw [upd_ne hb] at e
    exact (x b u e).stay (fun c v _ q => k c v q) (fun c q => by rw [upd_ne (ne_of_none q hn)]; exact q) fun c xs q => by rw [upd_ne (ne_of_none q hn)]; exact q
end
/-- what may be read as u: it is u, or a known u -/
def Rd (H : Hp) (a : Addr) (u : HO) : Prop := H a = some u ∨ ∃ o, H a = some (.frz o u)
theorem Rd.of {H : Hp} {a : Addr} {u : HO} (h : H a = some u) : Rd H a u := .inl h
theorem Rd.ok {P : Program} {w : World} {H : Hp} {h : Heap} {a : Addr} {u : HO} (r : Rd H a u) (x : HOk P w H h) : ObjOk P w H h a u := by
  rcases r with r | ⟨o, r⟩
  · exact x a u r
  · obtain ⟨_, q⟩ := x a _ r
    exact q
/-- what may be written -/
def Mut : Option HO → Prop
  | some (.lst _) => True
  | some (.dK _) => True
  | some (.dT _) => True
  | some (.set _ _) => True
  | some (.ins _ _ _) => True
  | some (.ext _) => True
  | _ => False
section
variable {P : Program} {w : World} {H : Hp} {h h' : Heap} {x e : Addr} {o' : HO}
/-- the object at e is changed: x itself, or the dict of the instance x -/
theorem HOk.write (ok : HOk P w H h) (mu : Mut (H x)) (he : e = x ∨ H e = some (.own x)) (k : ∀ b u, b ≠ e → h.get? b = some u → h'.get? b = some u) (heo : ∃ u, h'.get? e = some u)
    (new : ObjOk P w (upd H x o') h' x o') : HOk P w (upd H x o') h' := fun b u q => by
  have nown : ∀ c y, H c = some (.own y) → c ≠ x := fun c y r z => by subst z; rw [r] at mu; exact mu
  have ntup : ∀ c xs, H c = some (.tup xs) → c ≠ x := fun c xs r z => by subst z; rw [r] at mu; exact mu
  have nfrz : ∀ c o y, H c = some (.frz o (.own y)) → c ≠ x := fun c o y r z => by subst z; rw [r] at mu; exact mu
  by_cases hb : b = x
  · subst hb; rw [upd_same] at q; cases q; exact new
  · rw [upd_ne hb] at q
    by_cases hbe : b = e
    · have q' : H b = some (.own x) := by
        rcases he with z | z
        · exact absurd (hbe.trans z) hb
        · rw [hbe]; exact z
      rw [q] at q'; cases q'
      obtain ⟨v, hv⟩ := heo
      exact ⟨v, by rw [hbe]; exact hv⟩
    · refine (ok b u q).stay (fun c v hc r => k c v ?_ r) (fun c r => by rw [upd_ne (nown c b r)]; exact r) (fun c xs r => by rw [upd_ne (ntup c xs r)]; exact r) (fun c o r => by rw [upd_ne (nfrz c o b r)]; exact r)
      rcases hc with rfl | hc
      · exact hbe
      · rintro rfl
        rcases he with z | z
        · exact nown c b hc z
        · rw [hc] at z; cases z; exact hb rfl
end
/-! ### kept unless tracked; of the frames at fs (the callers') the slots may change (an exception that passes writes there); of the records at ex (iterators) nothing is said -/
structure Un (fs ex : List Addr) (H H' : Hp) (h h' : Heap) : Prop where
  keep : ∀ b o, h.get? b = some o → H b = none → b ∉ fs → b ∉ ex → h'.get? b = some o
  slot : ∀ b o, h.get? b = some o → H b = none → b ∈ fs → b ∉ ex → ∃ sl, h'.get? b = some { o with slots := sl }
  free : ∀ b o, h.get? b = some o → H b = none → b ∉ ex → H' b = none
  there : ∀ b o, h.get? b = some o → b ∉ ex → ∃ o', h'.get? b = some o'
  tups : ∀ b xs, H b = some (.tup xs) → H' b = some (.tup xs)
  frzs : ∀ b o u, H b = some (.frz o u) → H' b = some (.frz o u)
  tbls : ∀ b ps, H b = some (.tbl ps) → ∃ more, H' b = some (.tbl (ps ++ more))
section
variable {fs fs' ex ex' : List Addr} {H H1 H2 : Hp} {h h1 h2 h' : Heap} {a x e : Addr} {o : HO}
theorem Un.any (u : Un fs ex H H1 h h1) {b : Addr} {ob : Obj} (q : h.get? b = some ob) (n : H b = none) (hx : b ∉ ex) : ∃ sl, h1.get? b = some { ob with slots := sl } := by
  by_cases hb : b ∈ fs
  · exact u.slot b ob q n hb hx
  · exact ⟨ob.slots, u.keep b ob q n hb hx⟩
theorem Un.trans (a : Un fs ex H H1 h h1) (b : Un fs ex H1 H2 h1 h2) : Un fs ex H H2 h h2 where
  keep := fun c ob q n hc hx => b.keep c ob (a.keep c ob q n hc hx) (a.free c ob q n hx) hc hx
  slot := fun c ob q n hc hx => by
    obtain ⟨sl, e1⟩ := a.slot c ob q n hc hx
    obtain ⟨sl', e2⟩ := b.slot c _ e1 (a.free c ob q n hx) hc hx
    exact ⟨sl', e2⟩
  free := fun c ob q n hx => by
    obtain ⟨o', e1⟩ := a.there c ob q hx
    exact b.free c o' e1 (a.free c ob q n hx) hx
  there := fun c ob q hx => by
    obtain ⟨o', e1⟩ := a.there c ob q hx
    exact b.there c o' e1 hx
  tups := fun c xs q => b.tups c xs (a.tups c xs q)
  frzs := fun c ob xs q => b.frzs c ob xs (a.frzs c ob xs q)
  tbls := fun c ps q => by
    obtain ⟨m1, e1⟩ := a.tbls c ps q
    obtain ⟨m2, e2⟩ := b.tbls c _ e1
    exact ⟨m1 ++ m2, by rw [e2, Array.append_assoc]⟩
theorem Un.kept (k : ∀ b u, h.get? b = some u → h'.get? b = some u) : Un fs ex H H h h' :=
  ⟨fun b ob q _ _ _ => k b ob q, fun b ob q _ _ _ => ⟨ob.slots, k b ob q⟩, fun _ _ _ n _ => n, fun b ob q _ => ⟨ob, k b ob q⟩, fun _ _ q => q, fun _ _ _ q => q, fun _ ps q => ⟨#[], by rw [q]; simp⟩⟩
theorem Un.refl : Un fs ex H H h h := Un.kept fun _ _ q => q
theorem Un.laid (k : ∀ b u, h.get? b = some u → h'.get? b = some u) (hp : h.objs.size ≤ a) (hn : H a = none) : Un fs ex H (upd H a o) h h' where
  keep := fun b u q _ _ _ => k b u q
  slot := fun b u q _ _ _ => ⟨u.slots, k b u q⟩
  free := fun b u q n _ => by rw [upd_ne (Nat.ne_of_lt (Nat.lt_of_lt_of_le (Heap.lt_size q) hp))]; exact n
  there := fun b u q _ => ⟨u, k b u q⟩
  tups := fun b xs q => by rw [upd_ne (ne_of_none q hn)]; exact q
  frzs := fun b u xs q => by rw [upd_ne (ne_of_none q hn)]; exact q
  tbls := fun b ps q => ⟨#[], by rw [upd_ne (ne_of_none q hn), q]; simp⟩
theorem Un.write (mu : Mut (H x)) (he : e = x ∨ H e = some (.own x)) (k : ∀ b u, b ≠ e → h.get? b = some u → h'.get? b = some u) (heo : ∃ u, h'.get? e = some u) : Un fs ex H (upd H x o) h h' := by
  have hx : ∀ b, H b = none → b ≠ x := fun b n z => by subst z; rw [n] at mu; exact mu
  have hb : ∀ b, H b = none → b ≠ e := fun b n z => by
    subst z
    rcases he with r | r
    · exact hx b n r
    · rw [n] at r; cases r
  have hm : ∀ b u, H b = some u → ¬ Mut (some u) → b ≠ x := fun b u q nm z => by subst z; rw [q] at mu; exact nm mu
  refine ⟨fun b u q n _ _ => k b u (hb b n) q, fun b u q n _ _ => ⟨u.slots, k b u (hb b n) q⟩, fun b u q n _ => by rw [upd_ne (hx b n)]; exact n, fun b u q _ => ?_,
    fun b xs q => by rw [upd_ne (hm b _ q fun z => z)]; exact q, fun b u xs q => by rw [upd_ne (hm b _ q fun z => z)]; exact q, fun b ps q => ⟨#[], by rw [upd_ne (hm b _ q fun z => z), q]; simp⟩⟩
  by_cases hbe : b = e
  · subst hbe; exact heo
  · exact ⟨u, k b u hbe q⟩
theorem Un.mono (u : Un fs ex H H1 h h1) (hs : ∀ b ∈ fs, b ∈ fs') (hx : ∀ b ∈ ex, b ∈ ex') : Un fs' ex' H H1 h h1 :=
  ⟨fun b ob q n hb he => u.keep b ob q n (fun z => hb (hs b z)) fun z => he (hx b z), fun _ _ q n _ he => u.any q n fun z => he (hx _ z), fun b ob q n he => u.free b ob q n fun z => he (hx b z), fun b ob q he => u.there b ob q fun z => he (hx b z), u.tups, u.frzs, u.tbls⟩
end
/-! ### the heap without what is tracked -/
def trk (h : Heap) (H : Hp) : List Addr := (List.range h.objs.size).filter fun a => (H a).isSome
def hidT (h : Heap) (H : Hp) : Heap := PySem.W.hideAll h (trk h H)
theorem hidT_size (h : Heap) (H : Hp) : (hidT h H).objs.size = h.objs.size := PySem.W.hideAll_size _ _
theorem hidT_get {h : Heap} {H : Hp} {b : Addr} {o : Obj} (e : h.get? b = some o) (n : H b = none) : (hidT h H).get? b = some o :=
  PySem.W.hideAll_get _ e fun hm => by
    have q : (H b).isSome = true := (List.mem_filter.mp hm).2
    rw [n] at q; simp at q
theorem of_hidT {h : Heap} {H : Hp} {b : Addr} {o : Obj} (e : (hidT h H).get? b = some o) : h.get? b = some o ∧ H b = none := by
  have e' : h.get? b = some o := PySem.W.of_hideAll (trk h H) e
  refine ⟨e', ?_⟩
  cases q : H b with
  | none => rfl
  | some x =>
    have hm : b ∈ trk h H := List.mem_filter.mpr ⟨List.mem_range.mpr (Heap.lt_size e'), by simp [q]⟩
    have z : (hidT h H).get? b = none := PySem.W.hideAll_none (trk h H) hm
    rw [z] at e; cases e
/-! ### OpenK's ledger, filled with every new object but one -/
def allNews (g h : Heap) (L : Addr) : List (Addr × Obj) := (List.range h.objs.size).filterMap fun a => if a = L ∨ (g.get? a).isSome = true then none else (h.get? a).map fun o => (a, o)
def rest (g h : Heap) (L d : Addr) : List (Addr × Obj) := (allNews g h L).filter fun p => decide (p.1 ≠ d)
end L2
namespace L2
open PySem PySem.Spec PyProof.Rows
/-- the module's facts, over the base: the heap at the law's entry without what is tracked there -/
def BMain (mg : Str → Option Value) (h : Heap) : Prop := ∃ bm ob, mg "__builtins__" = some (.ref bm) ∧ bm ≠ builtinsNs ∧ h.get? bm = some ob ∧ ob.cls = .type "module" ∧ ob.dict = some builtinsNs ∧ ob.data = .plain
structure Mod (K : PySem.W.Frag) (mg : Str → Option Value) (base : Heap) : Prop where
  kin : K.In base
  glob : base.Ns mainGlobals mg
  blt : ∃ mb, base.Ns builtinsNs mb ∧ ∀ x : Str, x ≠ "__name__" → mb x = bootBuiltins x
  nolimit : base.NoLimit
  bm : BMain mg base
/-- the context: a def's body (or a comprehension's block) running. base: fixed through the whole law; s₀, H₀: the entry; outer: the frames whose slots others may change (a def's callers); stack: all frames that run;
   ex: iterators that were made ahead of the entry and are walked here (a comprehension's); fn: the names whose cells were made at the entry (a def: all; a comprehension's block: its own); calm: not within an except suite; pn: pins that every state bears; xe: what is wanted of an exception that leaves the code -/
structure Cx where
  prog : Program
  w : World
  K : PySem.W.Frag
  mg : Str → Option Value
  base : Heap
  A : Around
  N : List Str
  s₀ : Shared
  H₀ : Hp
  env : Env
  outer : List Env
  stack : List Env
  ex : List Addr
  fn : Str → Bool
  calm : Bool
  pn : List (Addr × Obj)
  xe : Value → Shared → Prop
/-- the callers' frames -/
def frs (l : List Env) : List Addr := l.filterMap (·.frame)
abbrev Cx.fs (X : Cx) : List Addr := frs X.outer
def Vis (sc : Scope) (x : Str) : Prop := sc.names.lookup x = some .local ∨ sc.names.lookup x = some .cell ∨ sc.names.lookup x = some .free
def Loc (sc : Scope) (x : Str) : Prop := sc.names.lookup x = some .local ∨ sc.names.lookup x = some .cell
def Look (env : Env) (h : Heap) (m : Str → Option Value) (x : Str) (u : Value) : Prop :=
  (env.kindOf x = some .local ∧ m x = some u) ∨ ((env.kindOf x = some .cell ∨ env.kindOf x = some .free) ∧ ∃ c, env.cells.lookup x = some c ∧ h.IsCell c (some u))
structure Cx.Ok (X : Cx) : Prop where
  mod : Mod X.K X.mg X.base
  kind : X.env.scope.kind = .function
  glob : X.env.globals = mainGlobals
  blt : X.env.builtins = builtinsNs
  above : X.s₀.heap.objs.size ≤ X.env.locals
  inj : ∀ x y c, X.env.cells.lookup x = some c → X.env.cells.lookup y = some c → x = y
  has : ∀ x, (X.env.kindOf x = some .cell ∨ X.env.kindOf x = some .free) → ∃ c, X.env.cells.lookup x = some c
  cab : ∀ x c, X.fn x = true → X.env.cells.lookup x = some c → X.s₀.heap.objs.size ≤ c
  hd : X.calm = true → X.A.handled = none
  frames : X.A.frames = some X.stack
  stk : X.stack = X.outer ∨ (X.stack = X.env :: X.outer ∧ X.env.frame = some X.env.locals)
  exf : ∀ b ∈ X.ex, b ≠ X.env.locals ∧ ∀ x c, X.env.cells.lookup x = some c → c ≠ b
  bs : ∀ b o, X.base.get? b = some o → X.s₀.heap.get? b = some o ∧ X.H₀ b = none
  bsz : X.base.objs.size ≤ X.s₀.heap.objs.size
  noex : ∀ b o, X.base.get? b = some o → b ∉ X.ex
  exfs : ∀ b ∈ X.ex, b ∉ X.fs
  funs : X.s₀.heap.FunFrames X.base X.outer
  frf : ∀ b ∈ X.fs, X.H₀ b = none
structure Inv (X : Cx) (pins : List (Addr × Obj)) (σ : List (Option V)) (H : Hp) (s : Shared) : Prop where
  ok : X.Ok
  os : s.os = X.s₀.os
  bare : AllBare s.gens
  base : Un X.fs X.ex X.H₀ H X.s₀.heap s.heap
  loc : ∃ m, s.heap.Ns X.env.locals m ∧ ∀ (i : Nat) (x : Str) (v : V), X.N[i]? = some x → σ[i]? = some (some v) → Vis X.env.scope x → ∃ u, RelV v u ∧ Look X.env s.heap m x u
  cell : ∀ x c, X.env.cells.lookup x = some c → ∃ v, s.heap.IsCell c v
  free : H X.env.locals = none
  freeC : ∀ x c, X.env.cells.lookup x = some c → H c = none
  pin : ∀ p ∈ X.pn ++ pins, s.heap.get? p.1 = some p.2 ∧ H p.1 = none ∧ p.1 ≠ X.env.locals ∧ p.1 ∉ X.fs ∧ ∀ v, p.2.data ≠ .cell v
  hok : HOk X.prog X.w H s.heap
  len : σ.length = X.N.length
section
variable {X : Cx} {pins : List (Addr × Obj)} {σ : List (Option V)} {H H' : Hp} {s : Shared} {h' : Heap}
theorem Cx.Ok.nofr (ok : X.Ok) {b : Addr} {o : Obj} (e : X.base.get? b = some o) : b ∉ X.fs := fun hb => by
  have := (ok.funs.mem hb).1
  rw [e] at this; cases this
theorem Inv.bs (I : Inv X pins σ H s) : ∀ b o, X.base.get? b = some o → s.heap.get? b = some o ∧ H b = none := fun b o e =>
  ⟨I.base.keep b o (I.ok.bs b o e).1 (I.ok.bs b o e).2 (I.ok.nofr e) (I.ok.noex b o e), I.base.free b o (I.ok.bs b o e).1 (I.ok.bs b o e).2 (I.ok.noex b o e)⟩
theorem Inv.bk (I : Inv X pins σ H s) : ∀ b o, X.base.get? b = some o → s.heap.get? b = some o := fun b o e => (I.bs b o e).1
theorem Inv.mod (I : Inv X pins σ H s) : Mod X.K X.mg X.base := I.ok.mod
theorem Inv.kIn (I : Inv X pins σ H s) : X.K.In s.heap := I.ok.mod.kin.keeps I.bk
theorem Inv.nolimit (I : Inv X pins σ H s) : s.heap.NoLimit := I.ok.mod.nolimit.keeps I.bk
/-- the frame over the base: for OpenK's rules (K.In X.base is I.mod.kin) -/
theorem Inv.fr (I : Inv X pins σ H s) : ∃ m, Fr X.base X.env.locals s.heap m :=
  let ⟨m, hn, _⟩ := I.loc
  ⟨m, hn, I.bk, Nat.le_trans I.ok.bsz I.ok.above⟩
theorem Inv.lt (I : Inv X pins σ H s) : X.env.locals < s.heap.objs.size := let ⟨_, hn, _⟩ := I.loc; hn.lt
theorem Inv.sz (I : Inv X pins σ H s) : X.s₀.heap.objs.size ≤ s.heap.objs.size := Nat.le_trans I.ok.above (Nat.le_of_lt I.lt)
theorem Inv.nofs (I : Inv X pins σ H s) {a : Addr} (h : s.heap.objs.size ≤ a) : a ∉ X.fs := fun hb => by
  obtain ⟨_, o, ho, _⟩ := I.ok.funs.mem hb
  exact absurd (Nat.lt_of_lt_of_le (Heap.lt_size ho) (Nat.le_trans I.sz h)) (Nat.lt_irrefl _)
theorem Inv.cne (I : Inv X pins σ H s) : ∀ x c, X.env.cells.lookup x = some c → c ≠ X.env.locals := fun x c e z => by
  obtain ⟨v, o, ho, hd⟩ := I.cell x c e
  obtain ⟨m, ⟨o', es, ep, ho', hd', _⟩, _⟩ := I.loc
  rw [z, ho'] at ho; cases ho; rw [hd'] at hd; cases hd
theorem Inv.funs (I : Inv X pins σ H s) : s.heap.FunFrames X.base X.outer := by
  have all : ∀ (l : List Env), (∀ b ∈ frs l, b ∈ X.fs) → X.s₀.heap.FunFrames X.base l → s.heap.FunFrames X.base l := by
    intro l
    induction l with
    | nil => intro _ _; trivial
    | cons env r ih =>
      intro hs hl
      obtain ⟨hk, ⟨L, o, hf, hn, ho, hd⟩, hr⟩ := hl
      have hL : L ∈ X.fs := hs L (by unfold frs; rw [List.filterMap_cons, hf]; exact List.mem_cons_self)
      obtain ⟨sl, e⟩ := I.base.slot L o ho (I.ok.frf L hL) hL fun z => I.ok.exfs L z hL
      exact ⟨hk, ⟨L, _, hf, hn, e, hd⟩, ih (fun b hb => hs b (by unfold frs; rw [List.filterMap_cons, hf]; exact List.mem_cons_of_mem _ hb)) hr⟩
  exact all X.outer (fun _ hb => hb) I.ok.funs
/-- the frames that run, for a call -/
theorem Inv.stack (I : Inv X pins σ H s) : s.heap.FunFrames X.base X.stack := by
  rcases I.ok.stk with e | ⟨e, hf⟩
  · rw [e]; exact I.funs
  · rw [e]
    obtain ⟨m, hn, _⟩ := I.loc
    refine .cons (by rw [I.ok.kind]; decide) hf hn ?_ I.funs
    exact Heap.get?_none_of_le (Nat.le_trans I.ok.bsz I.ok.above)
theorem Inv.stkSub (I : Inv X pins σ H s) : ∀ b ∈ frs X.stack, b ∈ X.env.locals :: X.fs := fun b hb => by
  rcases I.ok.stk with e | ⟨e, hf⟩
  · rw [e] at hb; exact List.mem_cons_of_mem _ hb
  · rw [e] at hb
    unfold frs at hb
    rw [List.filterMap_cons, hf] at hb
    exact hb
theorem Inv.stkFree (I : Inv X pins σ H s) : ∀ b ∈ frs X.stack, H b = none := fun b hb => by
  rcases List.mem_cons.mp (I.stkSub b hb) with e | hb
  · rw [e]; exact I.free
  · obtain ⟨_, o, ho, _⟩ := I.ok.funs.mem hb
    exact I.base.free b o ho (I.ok.frf b hb) fun z => I.ok.exfs b z hb
/-- THE STEP: the untracked objects but the frame and the records at ch are kept (the callers' frames up to slots), the frame's map is kept, the new abstract heap is held -/
theorem Inv.step {g' : Array GenState} {t' : Nat} {d' : Drawn} {ch : List Addr} (I : Inv X pins σ H s)
    (hch : ∀ b ∈ ch, (b ∈ X.ex ∨ X.s₀.heap.objs.size ≤ b) ∧ b ≠ X.env.locals ∧ (∀ x c, X.env.cells.lookup x = some c → c ≠ b) ∧ ∀ p ∈ X.pn ++ pins, p.1 ≠ b)
    (keep : ∀ b o, b ≠ X.env.locals → b ∉ X.fs → b ∉ ch → s.heap.get? b = some o → H b = none → h'.get? b = some o)
    (slot : ∀ b o, b ≠ X.env.locals → b ∈ X.fs → b ∉ ch → s.heap.get? b = some o → H b = none → ∃ sl, h'.get? b = some { o with slots := sl }) (free : ∀ b o, b ∉ ch → s.heap.get? b = some o → H b = none → H' b = none)
    (there : ∀ b o, b ∉ ch → s.heap.get? b = some o → ∃ o', h'.get? b = some o')
    (tups : ∀ b xs, H b = some (.tup xs) → H' b = some (.tup xs)) (frzs : ∀ b o u, H b = some (.frz o u) → H' b = some (.frz o u)) (tbls : ∀ b ps, H b = some (.tbl ps) → ∃ more, H' b = some (.tbl (ps ++ more)))
    (ns : ∀ m, s.heap.Ns X.env.locals m → h'.Ns X.env.locals m) (hok : HOk X.prog X.w H' h') (hg : AllBare g') :
    Inv X pins σ H' { s with heap := h', gens := g', drawn := d', toks := t' } := by
  have neL : ∀ b o, X.s₀.heap.get? b = some o → b ≠ X.env.locals := fun b o e => Nat.ne_of_lt (Nat.lt_of_lt_of_le (Heap.lt_size e) I.ok.above)
  have neC : ∀ b o, X.s₀.heap.get? b = some o → b ∉ X.ex → b ∉ ch := fun b o e hx hb => by
    rcases (hch b hb).1 with z | z
    · exact hx z
    · exact absurd (Nat.lt_of_lt_of_le (Heap.lt_size e) z) (Nat.lt_irrefl _)
  have cellK : ∀ x c, X.env.cells.lookup x = some c → ∀ v, s.heap.IsCell c v → h'.IsCell c v := fun x c e v ⟨o, ho, hd⟩ => by
    have nch : c ∉ ch := fun z => (hch c z).2.2.1 x c e rfl
    by_cases hc : c ∈ X.fs
    · obtain ⟨sl, q⟩ := slot c o (I.cne x c e) hc nch ho (I.freeC x c e)
      exact ⟨_, q, hd⟩
    · exact ⟨o, keep c o (I.cne x c e) hc nch ho (I.freeC x c e), hd⟩
  refine ⟨I.ok, I.os, hg, ⟨fun b o e n hb hx => ?_, fun b o e n hb hx => ?_, fun b o e n hx => ?_, fun b o e hx => ?_, fun b xs e => tups b xs (I.base.tups b xs e), fun b o xs e => frzs b o xs (I.base.frzs b o xs e), fun b ps e => ?_⟩, ?_, fun x c e => ?_, ?_, fun x c e => ?_, fun p hp => ?_, hok, I.len⟩
  · exact keep b o (neL b o e) hb (neC b o e hx) (I.base.keep b o e n hb hx) (I.base.free b o e n hx)
  · obtain ⟨sl, e1⟩ := I.base.slot b o e n hb hx
    obtain ⟨sl', e2⟩ := slot b _ (neL b o e) hb (neC b o e hx) e1 (I.base.free b o e n hx)
    exact ⟨sl', e2⟩
  · obtain ⟨o', e1⟩ := I.base.there b o e hx
    exact free b o' (neC b o e hx) e1 (I.base.free b o e n hx)
  · obtain ⟨o', e1⟩ := I.base.there b o e hx
    exact there b o' (neC b o e hx) e1
  · obtain ⟨m1, e1⟩ := I.base.tbls b ps e
    obtain ⟨m2, e2⟩ := tbls b _ e1
    exact ⟨m1 ++ m2, by rw [e2, Array.append_assoc]⟩
  · obtain ⟨m, hn, hl⟩ := I.loc
    refine ⟨m, ns m hn, fun i x v e1 e2 e3 => ?_⟩
    obtain ⟨u, r, l⟩ := hl i x v e1 e2 e3
    refine ⟨u, r, ?_⟩
    rcases l with l | ⟨k, c, e, z⟩
    · exact .inl l
    · exact .inr ⟨k, c, e, cellK x c e _ z⟩
  · obtain ⟨v, z⟩ := I.cell x c e
    exact ⟨v, cellK x c e v z⟩
  · obtain ⟨m, ⟨o, _, _, ho, _⟩, _⟩ := I.loc
    exact free _ o (fun z => (hch _ z).2.1 rfl) ho I.free
  · obtain ⟨v, o, ho, hd⟩ := I.cell x c e
    exact free c o (fun z => (hch c z).2.2.1 x c e rfl) ho (I.freeC x c e)
  · obtain ⟨e, n, ne, nf, d⟩ := I.pin p hp
    have nch : p.1 ∉ ch := fun z => (hch p.1 z).2.2.2 p hp rfl
    exact ⟨keep p.1 p.2 ne nf nch e n, free p.1 p.2 nch e n, ne, nf, d⟩
/-- .. where the frame's own object is kept too -/
theorem Inv.un {t' : Nat} (I : Inv X pins σ H s) (u : Un X.fs [] H H' s.heap h') (hok : HOk X.prog X.w H' h') : Inv X pins σ H' { s with heap := h', toks := t' } := by
  obtain ⟨m, ⟨o, es, ep, ho, r⟩, _⟩ := id I.loc
  obtain ⟨sl, hL⟩ := u.any ho I.free (by simp)
  exact I.step (g' := s.gens) (d' := s.drawn) (ch := []) (fun _ z => nomatch z) (fun b o _ hb _ e n => u.keep b o e n hb (by simp)) (fun b o _ hb _ e n => u.slot b o e n hb (by simp)) (fun b o _ e n => u.free b o e n (by simp)) (fun b o _ e => u.there b o e (by simp)) u.tups u.frzs u.tbls (fun m' hm => by
    obtain ⟨o', es', ep', ho', r'⟩ := hm
    rw [ho] at ho'; cases ho'
    exact ⟨_, es', ep', hL, r'⟩) hok I.bare
/-- behind a call (or a comprehension's block): the slots of this frame may have changed too, the records at ch may have turned -/
theorem Inv.call {g' : Array GenState} {t' : Nat} {d' : Drawn} {ch : List Addr} (I : Inv X pins σ H s) (u : Un (frs X.stack) ch H H' s.heap h') (hok : HOk X.prog X.w H' h') (hg : AllBare g')
    (hch : ∀ b ∈ ch, (b ∈ X.ex ∨ X.s₀.heap.objs.size ≤ b) ∧ b ≠ X.env.locals ∧ (∀ x c, X.env.cells.lookup x = some c → c ≠ b) ∧ ∀ p ∈ X.pn ++ pins, p.1 ≠ b) :
    Inv X pins σ H' { s with heap := h', gens := g', drawn := d', toks := t' } := by
  obtain ⟨m, ⟨o, es, ep, ho, r⟩, _⟩ := id I.loc
  obtain ⟨sl, hL⟩ := u.any ho I.free fun z => (hch _ z).2.1 rfl
  exact I.step (ch := ch) hch (fun b o hL hb hc e n => u.keep b o e n (fun z => (List.mem_cons.mp (I.stkSub b z)).elim hL hb) hc) (fun b o _ _ hc e n => u.any e n hc) (fun b o hc e n => u.free b o e n hc) (fun b o hc e => u.there b o e hc) u.tups u.frzs u.tbls (fun m' hm => by
    obtain ⟨o', es', ep', ho', r'⟩ := hm
    rw [ho] at ho'; cases ho'
    exact ⟨_, es', ep', hL, r'⟩) hok hg
/-- an untracked record of ours (an iterator) has turned -/
theorem Inv.turned {t' : Nat} {it : Addr} (I : Inv X pins σ H s) (k : ∀ b o, b ≠ it → s.heap.get? b = some o → h'.get? b = some o) (hn : H it = none) (hL : it ≠ X.env.locals)
    (h1 : it ∈ X.ex ∨ X.s₀.heap.objs.size ≤ it) (h2 : ∀ x c, X.env.cells.lookup x = some c → c ≠ it) (h3 : ∀ p ∈ X.pn ++ pins, p.1 ≠ it) : Inv X pins σ H { s with heap := h', toks := t' } := by
  have nit : ∀ b u, H b = some u → b ≠ it := fun b u e z => by rw [z, hn] at e; cases e
  refine I.step (g' := s.gens) (d' := s.drawn) (ch := [it]) (fun b hb => ?_) (fun b o _ _ hc e _ => k b o (fun z => hc (by simp [z])) e) (fun b o _ _ hc e _ => ⟨o.slots, k b o (fun z => hc (by simp [z])) e⟩) (fun _ _ _ _ n => n)
    (fun b o hc e => ⟨o, k b o (fun z => hc (by simp [z])) e⟩) (fun _ _ e => e) (fun _ _ _ e => e) (fun b ps e => ⟨#[], by rw [e]; simp⟩) (fun m hm => ?_) (fun b u e => ?_) I.bare
  · have e : b = it := by simpa using hb
    subst e
    exact ⟨h1, hL, h2, h3⟩
  · obtain ⟨o, es, ep, ho, r⟩ := hm
    exact ⟨o, es, ep, k _ o (Ne.symm hL) ho, r⟩
  · refine (I.hok b u e).stay (fun c v hc q => k c v ?_ q) (fun _ q => q) fun _ _ q => q
    rcases hc with z | z
    · rw [z]; exact nit b u e
    · exact nit c _ z
theorem Inv.tok (I : Inv X pins σ H s) (t : Nat) : Inv X pins σ H { s with toks := t } := I.un (h' := s.heap) (t' := t) Un.refl I.hok
/-- all objects kept -/
theorem Inv.kept {t' : Nat} (I : Inv X pins σ H s) (k : ∀ b u, s.heap.get? b = some u → h'.get? b = some u) : Inv X pins σ H { s with heap := h', toks := t' } := I.un (Un.kept k) (I.hok.kept k)
/-- a new object laid and tracked -/
theorem Inv.laid {a : Addr} {o : HO} {t' : Nat} (I : Inv X pins σ H s) (k : ∀ b u, s.heap.get? b = some u → h'.get? b = some u) (hp : s.heap.objs.size ≤ a) (new : ObjOk X.prog X.w (upd H a o) h' a o) :
    Inv X pins σ (upd H a o) { s with heap := h', toks := t' } := I.un (Un.laid k hp (I.hok.fresh hp)) (I.hok.laid k hp new)
/-- an object written -/
theorem Inv.write {x e : Addr} {o : HO} {t' : Nat} (I : Inv X pins σ H s) (mu : Mut (H x)) (he : e = x ∨ H e = some (.own x)) (k : ∀ b u, b ≠ e → s.heap.get? b = some u → h'.get? b = some u) (heo : ∃ u, h'.get? e = some u)
    (new : ObjOk X.prog X.w (upd H x o) h' x o) : Inv X pins σ (upd H x o) { s with heap := h', toks := t' } := I.un (Un.write mu he k heo) (I.hok.write mu he k heo new)
/-- forgetting slots, pins -/
theorem Inv.weak {σ' : List (Option V)} (I : Inv X pins σ H s) (hl : σ'.length = σ.length) (w : ∀ (i : Nat) v, σ'[i]? = some (some v) → σ[i]? = some (some v)) : Inv X pins σ' H s :=
  ⟨I.ok, I.os, I.bare, I.base, let ⟨m, hn, hl'⟩ := I.loc; ⟨m, hn, fun i x v e1 e2 e3 => hl' i x v e1 (w i v e2) e3⟩, I.cell, I.free, I.freeC, I.pin, I.hok, hl.trans I.len⟩
theorem Inv.pins_of {pins' : List (Addr × Obj)} (I : Inv X pins σ H s) (h : ∀ p ∈ pins', s.heap.get? p.1 = some p.2 ∧ H p.1 = none ∧ p.1 ≠ X.env.locals ∧ p.1 ∉ X.fs ∧ ∀ v, p.2.data ≠ .cell v) : Inv X pins' σ H s :=
  ⟨I.ok, I.os, I.bare, I.base, I.loc, I.cell, I.free, I.freeC, fun p hp => (List.mem_append.mp hp).elim (fun z => I.pin p (List.mem_append_left _ z)) (h p), I.hok, I.len⟩
theorem nodup_ix {N : List Str} (hN : N.Nodup) {i j : Nat} {x : Str} (a : N[i]? = some x) (b : N[j]? = some x) : i = j := by
  obtain ⟨h1, e1⟩ := List.getElem?_eq_some_iff.mp a
  obtain ⟨h2, e2⟩ := List.getElem?_eq_some_iff.mp b
  exact (List.getElem_inj hN).mp (e1.trans e2.symm)
/-- a name is stored; what changed -/
theorem store_ok2 {M : Model} {A : Around} {E : Value → Shared → Prop} {i : Nat} {x : Str} {v : V} {u : Value} {Q : Unit → Shared → Prop} (I : Inv X pins σ H s) (hN : X.N.Nodup) (hi : X.N[i]? = some x) (hx : Loc X.env.scope x) (r : RelV v u)
    (h : ∀ s', Inv X pins (σ.set i (some v)) H s' → (∃ a, Heap.SameBut a s.heap s'.heap ∧ (a = X.env.locals ∨ X.env.cells.lookup x = some a)) → Q () s') (hf : X.fn x = true ∨ X.env.scope.names.lookup x = some .local := by first | exact .inl rfl | exact .inr rfl | assumption) : wpAny M A (storeName X.env x u) Q E s := by
  obtain ⟨m, hn, hl⟩ := id I.loc
  have hcls : (X.env.scope.kind == .class || (X.env.scope.kind == .module && X.env.locals != X.env.globals)) = false := by rw [I.ok.kind]; rfl
  have hiσ : i < σ.length := by rw [I.len]; exact (List.getElem?_eq_some_iff.mp hi).1
  have cne := I.cne
  have tracked : ∀ {a : Addr} {h' : Heap}, (∃ o, s.heap.get? a = some o ∧ H a = none) → Heap.SameBut a s.heap h' → HOk X.prog X.w H h' := fun {a h'} ha hs b ob e => by
    obtain ⟨_, _, hfree⟩ := ha
    refine (I.hok b ob e).stay (fun c w' hc q => (hs.2 c ?_).trans q) (fun _ q => q) fun _ _ q => q
    rintro rfl
    rcases hc with rfl | hc
    · rw [hfree] at e; cases e
    · rw [hfree] at hc; cases hc
  rcases hx with hk | hk
  · refine wpAny_storeName_local hk hn (fun h' hn' hs => ?_) hcls
    obtain ⟨oL, _, _, hoL, _⟩ := id hn
    refine h _ ⟨I.ok, I.os, I.bare, ⟨fun b o e n hb hx => ?_, fun b o e n hb hx => ?_, I.base.free, fun b o e hx => ?_, I.base.tups, I.base.frzs, I.base.tbls⟩, ⟨_, hn', fun j y v' e1 e2 e3 => ?_⟩, fun y c e => ?_, I.free, I.freeC, fun p hp => ?_, tracked ⟨oL, hoL, I.free⟩ hs, by simpa using I.len⟩ ⟨_, hs, .inl rfl⟩
    · exact (hs.2 b (Nat.ne_of_lt (Nat.lt_of_lt_of_le (Heap.lt_size e) I.ok.above))).trans (I.base.keep b o e n hb hx)
    · obtain ⟨sl, e1⟩ := I.base.slot b o e n hb hx
      exact ⟨sl, (hs.2 b (Nat.ne_of_lt (Nat.lt_of_lt_of_le (Heap.lt_size e) I.ok.above))).trans e1⟩
    · obtain ⟨o', e1⟩ := I.base.there b o e hx
      exact ⟨o', (hs.2 b (Nat.ne_of_lt (Nat.lt_of_lt_of_le (Heap.lt_size e) I.ok.above))).trans e1⟩
    · by_cases hj : j = i
      · subst hj
        rw [hi] at e1; cases e1
        rw [List.getElem?_set_self hiσ] at e2
        cases e2
        exact ⟨u, r, .inl ⟨hk, by simp⟩⟩
      · rw [List.getElem?_set_ne (Ne.symm hj)] at e2
        obtain ⟨u', r', q⟩ := hl j y v' e1 e2 e3
        refine ⟨u', r', ?_⟩
        rcases q with ⟨k, e⟩ | ⟨k, c, e, z⟩
        · refine .inl ⟨k, ?_⟩
          have : y ≠ x := fun e => hj (nodup_ix hN e1 (e ▸ hi))
          simp [this, e]
        · exact .inr ⟨k, c, e, z.sameBut hs (cne y c e)⟩
    · obtain ⟨w', z⟩ := I.cell y c e
      exact ⟨w', z.sameBut hs (cne y c e)⟩
    · obtain ⟨e, n, ne, nf, d⟩ := I.pin p hp
      exact ⟨(hs.2 p.1 ne).trans e, n, ne, nf, d⟩
  · have hfn : X.fn x = true := by
      rcases hf with z | z
      · exact z
      · rw [z] at hk; cases hk
    obtain ⟨c, hc⟩ := I.ok.has x (.inl hk)
    obtain ⟨w', z⟩ := I.cell x c hc
    refine wpAny_storeName_cell I.ok.kind hk hc z (fun h' hc' hs => ?_)
    obtain ⟨oc, hoc, hocd⟩ := id z
    refine h { s with heap := h' } ⟨I.ok, I.os, I.bare, ⟨fun b o e n hb hx => ?_, fun b o e n hb hx => ?_, I.base.free, fun b o e hx => ?_, I.base.tups, I.base.frzs, I.base.tbls⟩, ⟨m, hn.sameBut hs (Ne.symm (cne x c hc)), fun j y v' e1 e2 e3 => ?_⟩, fun y c' e => ?_, I.free, I.freeC, fun p hp => ?_, tracked ⟨oc, hoc, I.freeC x c hc⟩ hs, by simpa using I.len⟩ ⟨c, hs, .inr hc⟩
    · exact (hs.2 b (Nat.ne_of_lt (Nat.lt_of_lt_of_le (Heap.lt_size e) (I.ok.cab x c hfn hc)))).trans (I.base.keep b o e n hb hx)
    · obtain ⟨sl, e1⟩ := I.base.slot b o e n hb hx
      exact ⟨sl, (hs.2 b (Nat.ne_of_lt (Nat.lt_of_lt_of_le (Heap.lt_size e) (I.ok.cab x c hfn hc)))).trans e1⟩
    · obtain ⟨o', e1⟩ := I.base.there b o e hx
      exact ⟨o', (hs.2 b (Nat.ne_of_lt (Nat.lt_of_lt_of_le (Heap.lt_size e) (I.ok.cab x c hfn hc)))).trans e1⟩
    · by_cases hj : j = i
      · subst hj
        rw [hi] at e1; cases e1
        rw [List.getElem?_set_self hiσ] at e2
        cases e2
        exact ⟨u, r, .inr ⟨.inl hk, c, hc, hc'⟩⟩
      · rw [List.getElem?_set_ne (Ne.symm hj)] at e2
        obtain ⟨u', r', q⟩ := hl j y v' e1 e2 e3
        refine ⟨u', r', ?_⟩
        rcases q with q | ⟨k, c', e, z'⟩
        · exact .inl q
        · refine .inr ⟨k, c', e, z'.sameBut hs ?_⟩
          rintro rfl
          exact hj (nodup_ix hN e1 (I.ok.inj _ _ _ e hc ▸ hi))
    · by_cases hcc : c' = c
      · subst hcc; exact ⟨_, hc'⟩
      · obtain ⟨w2, z2⟩ := I.cell y c' e
        exact ⟨w2, z2.sameBut hs hcc⟩
    · obtain ⟨e, n, ne, nf, d⟩ := I.pin p hp
      refine ⟨(hs.2 p.1 ?_).trans e, n, ne, nf, d⟩
      intro q
      rw [q, hoc] at e
      have q' : oc = p.2 := Option.some.inj e
      exact d w' (by rw [← q']; exact hocd)
theorem store_ok {M : Model} {A : Around} {E : Value → Shared → Prop} {i : Nat} {x : Str} {v : V} {u : Value} {Q : Unit → Shared → Prop} (I : Inv X pins σ H s) (hN : X.N.Nodup) (hi : X.N[i]? = some x) (hx : Loc X.env.scope x) (r : RelV v u)
    (h : ∀ s', Inv X pins (σ.set i (some v)) H s' → Q () s') (hf : X.fn x = true ∨ X.env.scope.names.lookup x = some .local := by first | exact .inl rfl | exact .inr rfl | assumption) : wpAny M A (storeName X.env x u) Q E s :=
  store_ok2 I hN hi hx r (fun s' I' _ => h s' I') hf
/-- behind a call or a block, the state as it is -/
theorem Inv.call' {s' : Shared} {ch : List Addr} (I : Inv X pins σ H s) (ho : s'.os = s.os) (u : Un (frs X.stack) ch H H' s.heap s'.heap) (hok : HOk X.prog X.w H' s'.heap) (hg : AllBare s'.gens)
    (hch : ∀ b ∈ ch, (b ∈ X.ex ∨ X.s₀.heap.objs.size ≤ b) ∧ b ≠ X.env.locals ∧ (∀ x c, X.env.cells.lookup x = some c → c ≠ b) ∧ ∀ p ∈ X.pn ++ pins, p.1 ≠ b) : Inv X pins σ H' s' := by
  obtain ⟨h', g', d', t', o'⟩ := s'
  have e : o' = s.os := ho
  subst e
  exact I.call (g' := g') (t' := t') (d' := d') u hok hg hch
end
/-! ### the judgements -/
/-- an exception: its class, its own dict's address (where it has one), the abstract heap behind it -/
abbrev XK := Value → Option Addr → Hp → Prop
abbrev St := List (Option V)
abbrev VK := V → Hp → Prop
/-- an expression's reading; a test's; an argument list's -/
abbrev TE := St → Hp → VK → Prop
abbrev TT := St → Hp → (Bool → Hp → Prop) → Prop
abbrev TA := St → Hp → (List V → Hp → Prop) → Prop
/-- what is wanted behind a statement -/
structure Ends where
  nx : St → Hp → Prop
  rt : VK
  bk : St → Hp → Prop := fun _ _ => False
  ct : St → Hp → Prop := fun _ _ => False
abbrev TS := Ends → St → Hp → Prop
def EP (X : Cx) (pins : List (Addr × Obj)) (σ : St) (Q : VK) (u : Value) (s' : Shared) : Prop := ∃ v H', Inv X pins σ H' s' ∧ RelV v u ∧ Q v H'
def TP (X : Cx) (pins : List (Addr × Obj)) (σ : St) (Q : Bool → Hp → Prop) (b : Bool) (s' : Shared) : Prop := ∃ H', Inv X pins σ H' s' ∧ Q b H'
def AP (X : Cx) (pins : List (Addr × Obj)) (σ : St) (Q : List V → Hp → Prop) (us : List Value) (s' : Shared) : Prop := ∃ vs H', Inv X pins σ H' s' ∧ Vals vs us ∧ Q vs H'
def SP (X : Cx) (pins : List (Addr × Obj)) (D : Ends) (f : Flow) (s' : Shared) : Prop :=
  match f with
  | .next => ∃ σ' H', Inv X pins σ' H' s' ∧ D.nx σ' H'
  | .brk => ∃ σ' H', Inv X pins σ' H' s' ∧ D.bk σ' H'
  | .cont => ∃ σ' H', Inv X pins σ' H' s' ∧ D.ct σ' H'
  | .ret u => ∃ v σ' H', Inv X pins σ' H' s' ∧ RelV v u ∧ D.rt v H'
def PE (X : Cx) (e : Expr) (t : TE) : Prop :=
  ∀ (pins : List (Addr × Obj)) (s : Shared) (σ : St) (H : Hp) (Q : VK), Inv X pins σ H s → t σ H Q → wpAny (model X.prog X.w) X.A (eval e X.env) (EP X pins σ Q) X.xe s
def PT (X : Cx) (e : Expr) (t : TT) : Prop :=
  ∀ (pins : List (Addr × Obj)) (s : Shared) (σ : St) (H : Hp) (Q : Bool → Hp → Prop), Inv X pins σ H s → t σ H Q → wpAny (model X.prog X.w) X.A (isTrue e X.env (eval e X.env)) (TP X pins σ Q) X.xe s
/-- a test whatever its 'whole' is (and, or) -/
def PW (X : Cx) (e : Expr) (t : TT) : Prop :=
  ∀ (whole : Sem Value) (pins : List (Addr × Obj)) (s : Shared) (σ : St) (H : Hp) (Q : Bool → Hp → Prop), Inv X pins σ H s → t σ H Q → wpAny (model X.prog X.w) X.A (isTrue e X.env whole) (TP X pins σ Q) X.xe s
theorem PW.pt {X : Cx} {e : Expr} {t : TT} (h : PW X e t) : PT X e t := h _
/-- an argument list (no star), from the left -/
def PA (X : Cx) (es : List Expr) (t : TA) : Prop :=
  ∀ (pos : Pos) (pins : List (Addr × Obj)) (s : Shared) (σ : St) (H : Hp) (Q : List V → Hp → Prop), Inv X pins σ H s → t σ H Q → wpAny (model X.prog X.w) X.A (spliced (backTo pos (starEach es X.env))) (AP X pins σ Q) X.xe s
def PS (X : Cx) (st : Stmt) (t : TS) : Prop :=
  ∀ (pins : List (Addr × Obj)) (s : Shared) (σ : St) (H : Hp) (D : Ends), Inv X pins σ H s → t D σ H → wpAny (model X.prog X.w) X.A (exec st X.env) (SP X pins D) X.xe s
def PSs (X : Cx) (st : List Stmt) (t : TS) : Prop :=
  ∀ (pins : List (Addr × Obj)) (s : Shared) (σ : St) (H : Hp) (D : Ends), Inv X pins σ H s → t D σ H → wpAny (model X.prog X.w) X.A (execs st X.env) (SP X pins D) X.xe s
/-- weaken the end -/
theorem thn {α : Type} {t : Sem α} {Q Q' : α → Shared → Prop} {M : Model} {A : Around} {E : Value → Shared → Prop} {s : Shared} (h : wpAny M A t Q E s) (hQ : ∀ a s, Q a s → Q' a s) : wpAny M A t Q' E s := wpAny_mono h hQ fun _ _ x => x
end L2
namespace L2
open PySem PySem.Spec PyProof.Rows
section
variable {X : Cx}
/-- two expressions in a row -/
theorem bin {a b : Expr} {ta tb : TE} (ha : PE X a ta) (hb : PE X b tb) {pins : List (Addr × Obj)} {s : Shared} {σ : St} {H : Hp} {R : V → V → Hp → Prop} (I : Inv X pins σ H s) (h : ta σ H fun x H1 => tb σ H1 fun y H2 => R x y H2)
    {α : Type} {Q : α → Shared → Prop} {f : Value → Value → Sem α}
    (hf : ∀ v u s2 x y H2, Inv X pins σ H2 s2 → RelV x v → RelV y u → R x y H2 → wpAny (model X.prog X.w) X.A (f v u) Q X.xe s2) :
    wpAny (model X.prog X.w) X.A (eval a X.env) (fun v s₁ => wpAny (model X.prog X.w) X.A (eval b X.env) (fun u s₂ => wpAny (model X.prog X.w) X.A (f v u) Q X.xe s₂) X.xe s₁) X.xe s := by
  refine thn (ha pins s σ H _ I h) fun v s1 ⟨x, H1, I1, r1, q1⟩ => ?_
  refine thn (hb pins s1 σ H1 _ I1 q1) fun u s2 ⟨y, H2, I2, r2, q2⟩ => ?_
  exact hf v u s2 x y H2 I2 r1 r2 q2
/-! ### names and constants -/
def tVar (i : Nat) : TE := fun σ H Q => ∃ v, σ[i]? = some (some v) ∧ Q v H
def tC (v : V) : TE := fun _ H Q => Q v H
theorem pe_var {i : Nat} {x : Str} {pos : Pos} (hN : X.N[i]? = some x) (hv : Vis X.env.scope x) (hd : (x == ("__debug__" : Str)) = false := by decide) (hcd : (x == ("__classdict__" : Str)) = false := by decide) : PE X (.Name x pos) (tVar i) := by
  intro pins s σ H Q I h
  obtain ⟨v, e, h⟩ := h
  obtain ⟨m, hn, hl⟩ := I.loc
  obtain ⟨u, r, l⟩ := hl i x v hN e hv
  have fin : EP X pins σ Q u s := ⟨v, H, I, r, h⟩
  rcases l with ⟨hk, hm⟩ | ⟨hk, c, hc, hcell⟩
  · exact wpAny_Name (wpAny_loadName_local I.ok.kind hk hn hm fin) hd
  · rcases hk with hk | hk
    · exact wpAny_Name (wpAny_loadName_cell I.ok.kind hk hc hcell fin) hd
    · exact wpAny_Name (wpAny_loadName_free I.ok.kind hk hc hcell fin hcd) hd
theorem pe_int {i j pos} : PE X (.Constant (.int i) j pos) (tC (.int i)) := fun _ _ _ H _ I h => wpAny_Constant_int ⟨.int i, H, I.tok _, ⟨_, rfl⟩, h⟩
theorem pe_bl {b j pos} : PE X (.Constant (.bool b) j pos) (tC (.bl b)) := fun _ _ _ H _ I h => Constant_bool ⟨.bl b, H, I, rfl, h⟩
theorem pe_non {j pos} : PE X (.Constant .none j pos) (tC .non) := fun _ _ _ H _ I h => Constant_none ⟨.non, H, I, rfl, h⟩
theorem pe_str {x j pos} : PE X (.Constant (.str x) j pos) (tC (.str x)) := fun _ _ _ H _ I h => Calls.Constant_str ⟨.str x, H, I.tok _, ⟨_, rfl⟩, h⟩
/-- a global name of the def -/
def Gl (X : Cx) (x : Str) : Prop := X.env.kindOf x = some .globalImplicit
theorem ld_glob {E : Value → Shared → Prop} {pins : List (Addr × Obj)} {s : Shared} {σ : St} {H : Hp} {x : Str} {u : Value} {pos : Pos} {Q : Value → Shared → Prop} (I : Inv X pins σ H s) (hg : Gl X x) (hm : X.mg x = some u) (h : Q u s)
    (hd : (x == ("__debug__" : Str)) = false := by decide) : wpAny (model X.prog X.w) X.A (eval (.Name x pos) X.env) Q E s :=
  Calls.Name_function_global I.ok.kind hg (Calls.loadGlobal_global (by rw [I.ok.glob]; exact I.mod.glob.keeps I.bk) hm h) hd
theorem ld_blt {E : Value → Shared → Prop} {pins : List (Addr × Obj)} {s : Shared} {σ : St} {H : Hp} {x : Str} {u : Value} {pos : Pos} {Q : Value → Shared → Prop} (I : Inv X pins σ H s) (hg : Gl X x) (hm : X.mg x = none) (hv : bootBuiltins x = some u) (h : Q u s)
    (hn : x ≠ "__name__" := by decide) (hd : (x == ("__debug__" : Str)) = false := by decide) : wpAny (model X.prog X.w) X.A (eval (.Name x pos) X.env) Q E s := by
  obtain ⟨mb, h1, h2⟩ := I.mod.blt
  exact Calls.Name_function_global I.ok.kind hg (Calls.loadGlobal_builtin (by rw [I.ok.glob]; exact I.mod.glob.keeps I.bk) hm (by rw [I.ok.blt]; exact h1.keeps I.bk) ((h2 x hn).trans hv) h) hd
/-- a module's constant, a class, a function, as a value -/
theorem pe_glob {x : Str} {v : V} {u : Value} {pos : Pos} (hg : Gl X x) (hm : X.mg x = some u) (r : RelV v u) (hd : (x == ("__debug__" : Str)) = false := by decide) : PE X (.Name x pos) (tC v) :=
  fun _ _ _ H _ I h => ld_glob I hg hm ⟨v, H, I, r, h⟩ hd
theorem pe_bltn {x : Str} {v : V} {u : Value} {pos : Pos} (hg : Gl X x) (hm : X.mg x = none) (hv : bootBuiltins x = some u) (r : RelV v u) (hn : x ≠ "__name__" := by decide) (hd : (x == ("__debug__" : Str)) = false := by decide) : PE X (.Name x pos) (tC v) :=
  fun _ _ _ H _ I h => ld_blt I hg hm hv ⟨v, H, I, r, h⟩ hn hd
/-! ### arithmetic -/
/-- two ints -/
def t2I (ta tb : TE) (k : Int → Int → Hp → Prop) : St → Hp → Prop := fun σ H => ta σ H fun x H1 => tb σ H1 fun y H2 => ∃ i j, x = .int i ∧ y = .int j ∧ k i j H2
def tAdd (ta tb : TE) : TE := fun σ H Q => t2I ta tb (fun i j H2 => Q (.int (i + j)) H2) σ H
def tSub (ta tb : TE) : TE := fun σ H Q => t2I ta tb (fun i j H2 => Q (.int (i - j)) H2) σ H
/-- the left factor below 2^64 -/
def tMul (ta tb : TE) : TE := fun σ H Q => t2I ta tb (fun i j H2 => (-(2 ^ 64) < i ∧ i < 2 ^ 64) ∧ Q (.int (i * j)) H2) σ H
variable {a b : Expr} {ta tb : TE} {pos : Pos}
/-! ### comparisons -/
def PC (X : Cx) (op : CmpOp) (a b : Expr) (t : TE) : Prop :=
  ∀ (pins : List (Addr × Obj)) (s : Shared) (σ : St) (H : Hp) (Q : VK), Inv X pins σ H s → t σ H Q →
    wpAny (model X.prog X.w) X.A (eval a X.env) (fun v s₁ => wpAny (model X.prog X.w) X.A (eval b X.env) (fun u s₂ => wpAny (model X.prog X.w) X.A (compareOp op v u) (EP X pins σ Q) X.xe s₂) X.xe s₁) X.xe s
theorem nobehind (b : Expr) {op : CmpOp} (h : op ≠ .In) (h2 : op ≠ .NotIn) : behindInMarks op b = false := by
  have e1 : (op == CmpOp.In) = false := by cases op <;> first | rfl | exact absurd rfl h
  have e2 : (op == CmpOp.NotIn) = false := by cases op <;> first | rfl | exact absurd rfl h2
  cases b <;> simp [behindInMarks, e1, e2]
def tCmp (p : Int → Int → Bool) (ta tb : TE) : TE := fun σ H Q => t2I ta tb (fun i j H2 => Q (.bl (p i j)) H2) σ H
abbrev tLt : TE → TE → TE := tCmp fun i j => decide (i < j)
abbrev tLe : TE → TE → TE := tCmp fun i j => decide (i ≤ j)
abbrev tGt : TE → TE → TE := tCmp fun i j => decide (j < i)
abbrev tGe : TE → TE → TE := tCmp fun i j => decide (j ≤ i)
abbrev tEqI : TE → TE → TE := tCmp fun i j => decide (i = j)
abbrev tNeI : TE → TE → TE := tCmp fun i j => !decide (i = j)
/-- is None -/
def tIsN (ta : TE) : TE := fun σ H Q => ta σ H fun x H1 => Q (.bl (decide (x = .non))) H1
def tNotN (ta : TE) : TE := fun σ H Q => ta σ H fun x H1 => Q (.bl (!decide (x = .non))) H1
/-- a comparison as a value, as a test -/
def tB (t : TE) : TT := fun σ H Q => t σ H fun x H1 => ∃ c, x = .bl c ∧ Q c H1
theorem pt_cmp {op : CmpOp} {t : TE} (h : PC X op a b t) (h1 : behindInMarks op b = false := by first | exact nobehind _ (by decide) (by decide) | rfl) : PT X (.Compare a [op] [b] pos) (tB t) := by
  intro pins s σ H Q I hw
  refine wpAny_isTrue_Compare1 (thn (h pins s σ H _ I hw) fun v s1 h1 => thn h1 fun u s2 h2 => thn h2 fun c s3 ⟨x, H1, I1, r1, q1⟩ => ?_) h1
  obtain ⟨d, rfl, q⟩ := q1
  cases r1
  exact wpAny_truthy_bool ⟨H1, I1, q⟩
/-- an expression whose value is a bool, as a test -/
theorem pt_val {e : Expr} {t : TE} (h : PE X e t) (he : ∀ whole, isTrue e X.env whole = (do let v ← whole; standAt e.pos; holding [v] (truthy v)) := by intro _; rfl) : PT X e (tB t) := by
  intro pins s σ H Q I hw
  refine isTrue_plain (thn (h pins s σ H _ I hw) fun v s1 ⟨x, H1, I1, r1, q1⟩ => ?_) (he _)
  obtain ⟨d, rfl, q⟩ := q1
  cases r1
  exact wpAny_truthy_bool ⟨H1, I1, q⟩
/-! ### and, or, not -/
variable {tA tB' : TT} {rest : List Expr}
def tAnd (t u : TT) : TT := fun σ H Q => t σ H fun c H1 => if c = true then u σ H1 Q else Q false H1
def tOr (t u : TT) : TT := fun σ H Q => t σ H fun c H1 => if c = true then Q true H1 else u σ H1 Q
def tNot (t : TT) : TT := fun σ H Q => t σ H fun c H1 => Q (!c) H1
theorem pw_and1 (ha : PT X a tA) : PW X (.BoolOp .And [a] pos) tA := by
  intro wh pins s σ H Q I h
  refine isTrue_and (thn (ha pins s σ H Q I h) fun c s1 e => ?_)
  cases c with
  | true => exact isTrue_and_nil e
  | false => exact e
theorem pw_or1 (ha : PT X a tA) : PW X (.BoolOp .Or [a] pos) tA := by
  intro wh pins s σ H Q I h
  refine isTrue_or (thn (ha pins s σ H Q I h) fun c s1 e => ?_)
  cases c with
  | false => exact isTrue_or_nil e
  | true => exact e
theorem pw_and (ha : PT X a tA) (hb : PW X (.BoolOp .And (b :: rest) pos) tB') : PW X (.BoolOp .And (a :: b :: rest) pos) (tAnd tA tB') := by
  intro wh pins s σ H Q I h
  refine isTrue_and (thn (ha pins s σ H _ I h) fun c s1 ⟨H1, I1, q1⟩ => ?_)
  cases c with
  | true => exact hb wh pins s1 σ H1 Q I1 q1
  | false => exact ⟨H1, I1, q1⟩
theorem pw_or (ha : PT X a tA) (hb : PW X (.BoolOp .Or (b :: rest) pos) tB') : PW X (.BoolOp .Or (a :: b :: rest) pos) (tOr tA tB') := by
  intro wh pins s σ H Q I h
  refine isTrue_or (thn (ha pins s σ H _ I h) fun c s1 ⟨H1, I1, q1⟩ => ?_)
  cases c with
  | true => exact ⟨H1, I1, q1⟩
  | false => exact hb wh pins s1 σ H1 Q I1 q1
theorem pt_not (ha : PT X a tA) : PT X (.UnaryOp .Not a pos) (tNot tA) := by
  intro pins s σ H Q I h
  exact isTrue_not (ha pins s σ H (fun c H1 => Q (!c) H1) I h)
/-- .. as values (bools) -/
def tAndV (ta tb : TE) : TE := fun σ H Q => ta σ H fun x H1 => ∃ c, x = .bl c ∧ if c = true then tb σ H1 Q else Q (.bl false) H1
def tOrV (ta tb : TE) : TE := fun σ H Q => ta σ H fun x H1 => ∃ c, x = .bl c ∧ if c = true then Q (.bl true) H1 else tb σ H1 Q
def tNotV (ta : TE) : TE := fun σ H Q => ta σ H fun x H1 => ∃ c, x = .bl c ∧ Q (.bl (!c)) H1
theorem pe_one {op} {t : TE} (h : PE X a t) : PE X (.BoolOp op [a] pos) t := fun pins s σ H Q I hw => BoolOp_one (h pins s σ H Q I hw)
theorem pe_and (ha : PE X a ta) (hb : PE X (.BoolOp .And (b :: rest) pos) tb) : PE X (.BoolOp .And (a :: b :: rest) pos) (tAndV ta tb) := by
  intro pins s σ H Q I h
  refine BoolOp_and (thn (ha pins s σ H _ I h) fun v s1 ⟨x, H1, I1, r1, q1⟩ => ?_)
  obtain ⟨c, rfl, q1⟩ := q1
  cases r1
  refine wpAny_truthy_bool ?_
  cases c with
  | true => exact hb pins s1 σ H1 Q I1 q1
  | false => exact ⟨.bl false, H1, I1, rfl, q1⟩
/-- a if t else b -/
def tIf (t : TT) (ta tb : TE) : TE := fun σ H Q => t σ H fun c H1 => if c = true then ta σ H1 Q else tb σ H1 Q
end
end L2
namespace L2
open PySem PySem.Spec PyProof.Rows
/-! ### a list, a tuple that is read: tracked, frozen, or an object of the module -/
def SqL (K : PySem.W.Frag) (H : Hp) (a : Addr) (xs : List V) : Prop :=
  Rd H a (.lst xs) ∨
    ∃ (o : Obj) (its : Array Value) (n : Nat), K.lookup a = some o ∧ o.cls = .type "list" ∧ o.dict = none ∧ o.data = .seq its n ∧ its.size ≤ sizeLine ∧ Vals xs its.toList
def SqT (K : PySem.W.Frag) (H : Hp) (a : Addr) (xs : List V) : Prop :=
  Rd H a (.tup xs) ∨
    ∃ (o : Obj) (its : Array Value) (n : Nat), K.lookup a = some o ∧ o.cls = .type "tuple" ∧ o.data = .seq its n ∧ its.size ≤ sizeLine ∧ Vals xs its.toList
def absV : Value → Option V
  | .none => some .non
  | .bool b => some (.bl b)
  | .int i _ => some (.int i)
  | .str x _ => some (.str x)
  | .bytes b _ => some (.byt b)
  | .float b _ => some (.flt b)
  | .ref a => some (.ref a)
  | .type n => some (.ty n)
  | _ => none
theorem RelV.abs {x : V} {u : Value} (r : RelV x u) : absV u = some x := by
  cases x with
  | non => cases r; rfl
  | bl _ => cases r; rfl
  | int _ => obtain ⟨t, rfl⟩ := r; rfl
  | str _ => obtain ⟨t, rfl⟩ := r; rfl
  | byt _ => obtain ⟨t, rfl⟩ := r; rfl
  | flt _ => obtain ⟨t, rfl⟩ := r; rfl
  | ref _ => cases r; rfl
  | ty _ => cases r; rfl
theorem RelV.inj {x y : V} {u : Value} (r : RelV x u) (q : RelV y u) : x = y := Option.some.inj (r.abs.symm.trans q.abs)
theorem Vals.inj : ∀ {xs ys : List V} {us : List Value}, Vals xs us → Vals ys us → xs = ys
  | _, _, _, .nil, .nil => rfl
  | _, _, _, .cons r t, .cons r' t' => by rw [r.inj r', Vals.inj t t']
section
variable {X : Cx} {pins : List (Addr × Obj)} {σ : St} {H : Hp} {s : Shared} {a : Addr} {xs ys : List V}
theorem SqL.of {K : PySem.W.Frag} (h : H a = some (.lst xs)) : SqL K H a xs := .inl (.inl h)
theorem SqT.of {K : PySem.W.Frag} (h : H a = some (.tup xs)) : SqT K H a xs := .inl (.inl h)
theorem Inv.list (I : Inv X pins σ H s) (h : SqL X.K H a xs) : ∃ its : List Value, Vals xs its ∧ PlainL s.heap a its.toArray ∧ xs.length ≤ sizeLine := by
  rcases h with h | ⟨o, its, n, hk, hc, hd, hs, hz, r⟩
  · obtain ⟨z, its, n, r, e⟩ := h.ok I.hok
    exact ⟨its, r, ⟨_, n, e, rfl, rfl, rfl⟩, z⟩
  · refine ⟨its.toList, r, ⟨o, n, I.kIn a o hk, hc, hd, by simpa using hs⟩, ?_⟩
    have e := r.length
    simp only [Array.length_toList] at e
    omega
theorem Inv.tuple (I : Inv X pins σ H s) (h : SqT X.K H a xs) : ∃ its : List Value, Vals xs its ∧ IsTup s.heap a its.toArray ∧ xs.length ≤ sizeLine := by
  rcases h with h | ⟨o, its, n, hk, hc, hs, hz, r⟩
  · obtain ⟨z, its, r, p⟩ := h.ok I.hok
    exact ⟨its, r, p, z⟩
  · refine ⟨its.toList, r, ⟨o, I.kIn a o hk, hc, n, by simpa using hs⟩, ?_⟩
    have e := r.length
    simp only [Array.length_toList] at e
    omega
theorem Inv.list_inj (I : Inv X pins σ H s) (h : SqL X.K H a xs) (h' : SqL X.K H a ys) : xs = ys := by
  obtain ⟨its, r, ⟨o, n, e, _, _, d⟩, _⟩ := I.list h
  obtain ⟨its', r', ⟨o', n', e', _, _, d'⟩, _⟩ := I.list h'
  rw [e] at e'; cases e'
  rw [d] at d'
  injection d' with d1 _
  have : its = its' := by simpa using congrArg Array.toList d1
  subst this
  exact r.inj r'
theorem Inv.tuple_inj (I : Inv X pins σ H s) (h : SqT X.K H a xs) (h' : SqT X.K H a ys) : xs = ys := by
  obtain ⟨its, r, ⟨o, e, _, n, d⟩, _⟩ := I.tuple h
  obtain ⟨its', r', ⟨o', e', _, n', d'⟩, _⟩ := I.tuple h'
  rw [e] at e'; cases e'
  rw [d] at d'
  injection d' with d1 _
  have : its = its' := by simpa using congrArg Array.toList d1
  subst this
  exact r.inj r'
end
/-! ### another wish about exceptions -/
abbrev Cx.wish (X : Cx) (E : Value → Shared → Prop) : Cx := { X with xe := E }
/-- no exception leaves -/
abbrev Cx.nox (X : Cx) : Cx := X.wish fun _ _ => False
theorem Cx.Ok.wish {X : Cx} (ok : X.Ok) (E : Value → Shared → Prop) : (X.wish E).Ok :=
  ⟨ok.mod, ok.kind, ok.glob, ok.blt, ok.above, ok.inj, ok.has, ok.cab, ok.hd, ok.frames, ok.stk, ok.exf, ok.bs, ok.bsz, ok.noex, ok.exfs, ok.funs, ok.frf⟩
theorem Cx.Ok.unwish {X : Cx} {E : Value → Shared → Prop} (ok : (X.wish E).Ok) : X.Ok :=
  ⟨ok.mod, ok.kind, ok.glob, ok.blt, ok.above, ok.inj, ok.has, ok.cab, ok.hd, ok.frames, ok.stk, ok.exf, ok.bs, ok.bsz, ok.noex, ok.exfs, ok.funs, ok.frf⟩
section
variable {X : Cx} {pins : List (Addr × Obj)} {σ : St} {H : Hp} {s : Shared} {E : Value → Shared → Prop}
theorem Inv.wish (I : Inv X pins σ H s) (E : Value → Shared → Prop) : Inv (X.wish E) pins σ H s := ⟨I.ok.wish E, I.os, I.bare, I.base, I.loc, I.cell, I.free, I.freeC, I.pin, I.hok, I.len⟩
theorem Inv.unwish (I : Inv (X.wish E) pins σ H s) : Inv X pins σ H s := ⟨I.ok.unwish, I.os, I.bare, I.base, I.loc, I.cell, I.free, I.freeC, I.pin, I.hok, I.len⟩
theorem SP.unwish {D : Ends} {f : Flow} {s' : Shared} (h : SP (X.wish E) pins D f s') : SP X pins D f s' := by
  cases f with
  | next => obtain ⟨σ', H', I, q⟩ := h; exact ⟨σ', H', I.unwish, q⟩
  | brk => obtain ⟨σ', H', I, q⟩ := h; exact ⟨σ', H', I.unwish, q⟩
  | cont => obtain ⟨σ', H', I, q⟩ := h; exact ⟨σ', H', I.unwish, q⟩
  | ret u => obtain ⟨v, σ', H', I, r, q⟩ := h; exact ⟨v, σ', H', I.unwish, r, q⟩
theorem PE.nox {e : Expr} {t : TE} (h : PE X.nox e t) : PE X e t := fun pins s σ H Q I hw =>
  wpAny_mono (h pins s σ H Q (I.wish _) hw) (fun _ _ ⟨v, H', I', r, q⟩ => ⟨v, H', I'.unwish, r, q⟩) fun _ _ z => False.elim z
theorem PT.nox {e : Expr} {t : TT} (h : PT X.nox e t) : PT X e t := fun pins s σ H Q I hw =>
  wpAny_mono (h pins s σ H Q (I.wish _) hw) (fun _ _ ⟨H', I', q⟩ => ⟨H', I'.unwish, q⟩) fun _ _ z => False.elim z
theorem PSs.nox {st : List Stmt} {t : TS} (h : PSs X.nox st t) : PSs X st t := fun pins s σ H D I hw =>
  wpAny_mono (h pins s σ H D (I.wish _) hw) (fun _ _ q => q.unwish) fun _ _ z => False.elim z
end
/-! ### blocks and small statements -/
section
variable {X : Cx} {st : Stmt} {rest : List Stmt} {t u : TS} {e : Expr} {te : TE} {pos : Pos}
def tNext : TS := fun D σ H => D.nx σ H
def tSeq (t u : TS) : TS := fun D σ H => t { D with nx := u D } σ H
theorem pss_nil : PSs X [] tNext := fun _ _ σ H _ I h => wpAny_execs_nil ⟨σ, H, I, h⟩
theorem pss_cons (h1 : PS X st t) (h2 : PSs X rest u) : PSs X (st :: rest) (tSeq t u) := by
  intro pins s σ H D I h
  refine wpAny_execs_cons (thn (h1 pins s σ H { D with nx := u D } I h) fun f s1 q => ?_)
  cases f with
  | next =>
    obtain ⟨σ', H', I', q⟩ := q
    exact h2 pins s1 σ' H' D I' q
  | ret v => exact q
  | brk => exact q
  | cont => exact q
theorem pss_one (h1 : PS X st t) : PSs X [st] t := by
  intro pins s σ H D I h
  refine wpAny_execs_cons (thn (h1 pins s σ H D I h) fun f s1 q => ?_)
  cases f with
  | next => exact wpAny_execs_nil q
  | ret v => exact q
  | brk => exact q
  | cont => exact q
def tBreak : TS := fun D σ H => D.bk σ H
def tCont : TS := fun D σ H => D.ct σ H
/-- in a def's body nothing is shown -/
theorem Inv.quiet {pins : List (Addr × Obj)} {σ : St} {H : Hp} {s : Shared} (I : Inv X pins σ H s) : interactive X.env = false := by simp [interactive, I.ok.kind]
/-- an expression whose value is dropped -/
def tDrop (te : TE) : TS := fun D σ H => te σ H fun _ H1 => D.nx σ H1
theorem ps_expr (he : PE X e te) (hs : swapsWith e none pos.line X.env = pure false := by rfl) : PS X (.Expr e pos) (tDrop te) := by
  intro pins s σ H D I h
  exact wpAny_Expr_any (thn (he pins s σ H _ I h) fun v s1 ⟨x, H1, I1, r1, q1⟩ => ⟨σ, H1, I1, q1⟩) I.quiet hs
def tRet (te : TE) : TS := fun D σ H => te σ H D.rt
theorem ps_ret (he : PE X e te) : PS X (.Return (some e) pos) (tRet te) := by
  intro pins s σ H D I h
  exact wpAny_Return_some (thn (he pins s σ H _ I h) fun v s1 ⟨x, H1, I1, r1, q1⟩ => ⟨x, σ, H1, I1, r1, q1⟩)
def tRetN : TS := fun D _ H => D.rt .non H
def tIfS (c : TT) (t u : TS) : TS := fun D σ H => c σ H fun b H1 => if b = true then t D σ H1 else u D σ H1
theorem ps_if {c : Expr} {a b : List Stmt} {tc : TT} (hc : PT X c tc) (ha : PSs X a t) (hb : PSs X b u) : PS X (.If c a b pos) (tIfS tc t u) := by
  intro pins s σ H D I h
  refine wpAny_If (thn (hc pins s σ H _ I h) fun d s1 ⟨H1, I1, q1⟩ => ?_)
  cases d with
  | true => exact ha pins s1 σ H1 D I1 q1
  | false => exact hb pins s1 σ H1 D I1 q1
/-- code that the proof never comes to -/
def tNever : TS := fun _ _ _ => False
end
/-! ### targets -/
abbrev TG := V → St → Hp → (St → Hp → Prop) → Prop
abbrev TGs := List V → St → Hp → (St → Hp → Prop) → Prop
def PG (X : Cx) (target : Expr) (t : TG) : Prop :=
  ∀ (pins : List (Addr × Obj)) (s : Shared) (σ : St) (H : Hp) (v : V) (u : Value) (Q : St → Hp → Prop), Inv X pins σ H s → RelV v u → t v σ H Q →
    wpAny (model X.prog X.w) X.A (assign target X.env u) (fun _ s' => ∃ σ' H', Inv X pins σ' H' s' ∧ Q σ' H') X.xe s
/-- several targets, one after another -/
def PGs (X : Cx) (ts : List Expr) (t : TGs) : Prop :=
  ∀ (pins : List (Addr × Obj)) (s : Shared) (σ : St) (H : Hp) (vs : List V) (us : List Value) (Q : St → Hp → Prop), Inv X pins σ H s → Vals vs us → t vs σ H Q →
    wpAny (model X.prog X.w) X.A (assignInOrder ((assignEach ts X.env).map (·.2)) us) (fun _ s' => ∃ σ' H', Inv X pins σ' H' s' ∧ Q σ' H') X.xe s
/-- o[i] = v, by values -/
abbrev TSet := V → V → V → Hp → (Hp → Prop) → Prop
def PSet (X : Cx) (t : TSet) : Prop :=
  ∀ (pins : List (Addr × Obj)) (s : Shared) (σ : St) (H : Hp) (o i v : V) (ov iv u : Value) (Q : Hp → Prop), Inv X pins σ H s → RelV o ov → RelV i iv → RelV v u → t o i v H Q →
    wpAny (model X.prog X.w) X.A (setItem ov iv u) (fun _ s' => ∃ H', Inv X pins σ H' s' ∧ Q H') X.xe s
/-- a op= b, by values -/
abbrev TIp := V → V → Hp → VK → Prop
def PIp (X : Cx) (op : Operator) (t : TIp) : Prop :=
  ∀ (pins : List (Addr × Obj)) (s : Shared) (σ : St) (H : Hp) (x y : V) (v u : Value) (Q : VK), Inv X pins σ H s → RelV x v → RelV y u → t x y H Q →
    wpAny (model X.prog X.w) X.A (inplaceOp op v u) (EP X pins σ Q) X.xe s
section
variable {X : Cx} {pos : Pos}
def gName (i : Nat) : TG := fun v σ H Q => Q (σ.set i (some v)) H
theorem pg_name {i : Nat} {x : Str} (hN : X.N.Nodup) (hi : X.N[i]? = some x) (hx : Loc X.env.scope x) (hf : X.fn x = true ∨ X.env.scope.names.lookup x = some .local := by first | exact .inl rfl | exact .inr rfl | assumption) : PG X (.Name x pos) (gName i) := by
  intro pins s σ H v u Q I r h
  exact wpAny_assign_Name (store_ok I hN hi hx r (fun s' I' => ⟨_, H, I', h⟩) hf)
def gNil : TGs := fun vs σ H Q => vs = [] ∧ Q σ H
def gCons (t : TG) (u : TGs) : TGs := fun vs σ H Q => ∃ v r, vs = v :: r ∧ t v σ H fun σ' H' => u r σ' H' Q
theorem pgs_nil : PGs X [] gNil := by
  intro pins s σ H vs us Q I r h
  obtain ⟨e, h⟩ := h
  subst e
  cases r
  exact assignInOrder_nil ⟨σ, H, I, h⟩
theorem pgs_cons {e : Expr} {es : List Expr} {t : TG} {u : TGs} (h1 : PG X e t) (h2 : PGs X es u)
    (hs : (assignEach (e :: es) X.env).map (·.2) = assign e X.env :: (assignEach es X.env).map (·.2) := by rfl) : PGs X (e :: es) (gCons t u) := by
  intro pins s σ H vs us Q I r h
  obtain ⟨v, vr, e1, h⟩ := h
  subst e1
  cases r with
  | cons r rr =>
    rw [hs]
    refine assignInOrder_cons (thn (h1 pins s σ H _ _ _ I r h) fun _ s1 ⟨σ1, H1, I1, q1⟩ => ?_)
    exact h2 pins s1 σ1 H1 _ _ Q I1 rr q1
/-- (a, b, ..) = a tuple of that length -/
def gTup (K : PySem.W.Frag) (n : Nat) (t : TGs) : TG := fun v σ H Q => ∃ a xs, v = .ref a ∧ SqT K H a xs ∧ xs.length = n ∧ t xs σ H Q
theorem pg_tup {es : List Expr} {k : Nat} {t : TGs} {n : Nat} (hc : X.calm = true) (h : PGs X es t)
    (hn : (assignEach es X.env).length = n := by rfl) (hst : (assignEach es X.env).findIdx? (·.1) = none := by rfl) : PG X (.Tuple es k pos) (gTup X.K n t) := by
  intro pins s σ H v u Q I r hw
  obtain ⟨a, xs, e1, hq, hl, hw⟩ := hw
  subst e1
  cases r
  obtain ⟨its, rv, ht, hz⟩ := I.tuple hq
  refine assign_Tuple_tuple (I.ok.hd hc) ht (by simp [hn, ← hl, rv.length]) hst fun h' hx => ?_
  have I1 : Inv X pins σ H { s with heap := h' } := I.kept (t' := s.toks) fun b o e => hx b o (Nat.ne_of_lt (Heap.lt_size e)) e
  exact h pins _ σ H xs _ Q I1 (by simpa using rv) hw
/-- o[i] = .. -/
def gSub (to ti : TE) (t : TSet) : TG := fun v σ H Q => to σ H fun o H1 => ti σ H1 fun i H2 => t o i v H2 fun H3 => Q σ H3
/-- target = value -/
def tAsg (te : TE) (g : TG) : TS := fun D σ H => te σ H fun x H1 => g x σ H1 D.nx
/-- name = value -/
theorem ps_set {i : Nat} {x : Str} {e : Expr} {te : TE} {pos' : Pos} (hN : X.N.Nodup) (hi : X.N[i]? = some x) (hx : Loc X.env.scope x) (he : PE X e te) (hs : swapsWith e (some (.Name x pos')) pos.line X.env = pure false := by rfl) (hf : X.fn x = true ∨ X.env.scope.names.lookup x = some .local := by first | exact .inl rfl | exact .inr rfl | assumption) :
    PS X (.Assign [.Name x pos'] e pos) (tAsg te (gName i)) := by
  intro pins s σ H D I h
  refine wpAny_Assign_Name (thn (he pins s σ H _ I h) fun v s1 ⟨y, H1, I1, r1, q1⟩ => ?_) hs
  exact store_ok I1 hN hi hx r1 (fun s2 I2 => ⟨_, H1, I2, q1⟩) hf
/-- a, b = x, y with plain local names: stored from the right; the pair itself is not tracked (the opening rows as in PyProof/Rows/TupAssign.lean:23) -/
def tPar (i j : Nat) (ta : TA) : TS := fun D σ H => ta σ H fun vs H1 => ∃ v w, vs = [v, w] ∧ D.nx ((σ.set i (some v)).set j (some w)) H1
/-- name op= e -/
def tAug (i : Nat) (te : TE) (ti : TIp) : TS := fun D σ H => ∃ x, σ[i]? = some (some x) ∧ te σ H fun y H1 => ti x y H1 fun z H2 => D.nx (σ.set i (some z)) H2
/-- o[i] op= e -/
def tAugS (to ti te : TE) (tget : V → V → Hp → VK → Prop) (tip : TIp) (tset : TSet) : TS := fun D σ H => to σ H fun o H1 => ti σ H1 fun i H2 => tget o i H2 fun x H3 => te σ H3 fun y H4 => tip x y H4 fun z H5 => tset o i z H5 fun H6 => D.nx σ H6
/-- o[i], by values -/
def PGet (X : Cx) (t : V → V → Hp → VK → Prop) : Prop :=
  ∀ (pins : List (Addr × Obj)) (s : Shared) (σ : St) (H : Hp) (o i : V) (ov iv : Value) (Q : VK), Inv X pins σ H s → RelV o ov → RelV i iv → t o i H Q →
    wpAny (model X.prog X.w) X.A (getItem ov iv) (EP X pins σ Q) X.xe s
/-- ints -/
def ipI (f : Int → Int → Int) : TIp := fun x y H Q => ∃ i j, x = .int i ∧ y = .int j ∧ Q (.int (f i j)) H
end
/-! ### while -/
section
variable {X : Cx} {pos : Pos}
/-- the invariant W with its measure -/
def tWhile (c : TT) (tb : TS) : TS := fun D σ H => ∃ W : Nat → St → Hp → Prop, (∃ m, W m σ H) ∧ ∀ m σ H, W m σ H →
  c σ H fun b H1 => if b = true then ∃ N : St → Hp → Prop, (∀ σ' H', N σ' H' → ∃ m', m' < m ∧ W m' σ' H') ∧ tb { D with nx := N, ct := N, bk := D.nx } σ H1 else D.nx σ H1
end
/-! ### what a loop or a comprehension walks -/
/-- at turn i: it yields x (the heap may grow), or it stops -/
structure It where
  go : Nat → Hp → Prop
  yld : Nat → Hp → V → Hp → Prop
  stop : Nat → Hp → Prop
/-- the iterator's own objects may turn: they are not the frame's, not pinned, younger than the entry (or a comprehension's own) -/
def FpOk (X : Cx) (pins : List (Addr × Obj)) (H : Hp) (b : Addr) : Prop :=
  H b = none ∧ b ≠ X.env.locals ∧ b ∉ X.fs ∧ (b ∈ X.ex ∨ X.s₀.heap.objs.size ≤ b) ∧ (∀ x c, X.env.cells.lookup x = some c → c ≠ b) ∧ ∀ p ∈ X.pn ++ pins, p.1 ≠ b
theorem Inv.fpOk {X : Cx} {pins : List (Addr × Obj)} {σ : St} {H H' : Hp} {s : Shared} {b : Addr} (I : Inv X pins σ H s) (hb : s.heap.objs.size ≤ b) (hn : H' b = none) : FpOk X pins H' b := by
  refine ⟨hn, Nat.ne_of_gt (Nat.lt_of_lt_of_le I.lt hb), I.nofs hb, .inr (Nat.le_trans I.sz hb), fun x c e z => ?_, fun p hp z => ?_⟩
  · obtain ⟨v, q⟩ := I.cell x c e
    exact absurd (Nat.lt_of_lt_of_le q.lt (by rw [z]; exact hb)) (Nat.lt_irrefl _)
  · exact absurd (Nat.lt_of_lt_of_le (Heap.lt_size (I.pin p hp).1) (by rw [z]; exact hb)) (Nat.lt_irrefl _)
structure Turn (P : Program) (w : World) (K : PySem.W.Frag) (tg : Expr) (J : It) (fp : List Addr) (it : Addr) (tn : Nat → Heap → Prop) : Prop where
  mem : it ∈ fp
  obj : ∀ i h, tn i h → ∀ b ∈ fp, ∃ o, h.get? b = some o ∧ ∀ v, o.data ≠ .cell v
  keep : ∀ i h h', tn i h → (∀ b ∈ fp, ∀ o, h.get? b = some o → h'.get? b = some o) → tn i h'
  item : ∀ (X : Cx), X.prog = P → X.w = w → X.K = K → X.calm = true → ∀ (i : Nat) (pins : List (Addr × Obj)) (s : Shared) (σ : St) (H : Hp) (E : Value → Shared → Prop), Inv X pins σ H s → (∀ b ∈ fp, FpOk X pins H b) → tn i s.heap → J.go i H →
    wpAny (model P w) X.A (pyNext (.ref it)) (fun r s1 => ∃ u, r = some u ∧
      wpAny (model P w) X.A (letOwnedTupleGo tg (.ref it) u) (fun _ s2 => ∃ x H', Inv X pins σ H' s2 ∧ RelV x u ∧ J.yld i H x H' ∧ tn (i + 1) s2.heap ∧ ∀ b ∈ fp, H' b = none) E s1) E s
  done : ∀ (X : Cx), X.prog = P → X.w = w → X.K = K → X.calm = true → ∀ (i : Nat) (pins : List (Addr × Obj)) (s : Shared) (σ : St) (H : Hp) (E : Value → Shared → Prop), Inv X pins σ H s → (∀ b ∈ fp, FpOk X pins H b) → tn i s.heap → J.stop i H →
    wpAny (model P w) X.A (pyNext (.ref it)) (fun r s1 => r = none ∧ Inv X pins σ H s1) E s
  self : ∀ (A : Around) (i : Nat) (s : Shared) (Q : Value → Shared → Prop) (E : Value → Shared → Prop), tn i s.heap → Q (.ref it) s → wpAny (model P w) A (pyIter (.ref it)) Q E s
abbrev TI := St → Hp → (It → Hp → Prop) → Prop
/-- an iterator has come -/
def PIE (X : Cx) (pins : List (Addr × Obj)) (σ : St) (tg : Expr) (R : It → Hp → Prop) (itv : Value) (s2 : Shared) : Prop :=
  ∃ (it : Addr) (fp : List Addr) (tn : Nat → Heap → Prop) (J : It) (H' : Hp), itv = .ref it ∧ Inv X pins σ H' s2 ∧ Turn X.prog X.w X.K tg J fp it tn ∧ tn 0 s2.heap ∧ (∀ b ∈ fp, FpOk X pins H' b) ∧ R J H'
def PI (X : Cx) (tg iter : Expr) (wi : TI) : Prop :=
  ∀ (pins : List (Addr × Obj)) (s : Shared) (σ : St) (H : Hp) (R : It → Hp → Prop), Inv X pins σ H s → wi σ H R →
    wpAny (model X.prog X.w) X.A (eval iter X.env) (fun v s1 => wpAny (model X.prog X.w) X.A (pyIter v) (PIE X pins σ tg R) X.xe s1) X.xe s
/-- the step ahead of the store is nothing for an iterator that keeps no tuple -/
theorem go_of {M : Model} {A : Around} {E : Value → Shared → Prop} {s : Shared} {tg : Expr} {it : Addr} {u : Value} {o : Obj} {n : String} {vs : Array Value} {Q : Unit → Shared → Prop} (ho : s.heap.get? it = some o) (hc : o.cls = .type n) (hd : o.data = .fields vs)
    (hn : ["enumerate", "zip", "dict_itemiterator", "dict_reverseitemiterator", "odict_iterator", "itertools.zip_longest", "itertools.pairwise"].contains n = false) (hQ : Q () s) : wpAny M A (letOwnedTupleGo tg (.ref it) u) Q E s := by
  unfold letOwnedTupleGo
  cases tg <;> first
    | exact wpAny_pure hQ
    | (cases u <;> first
        | exact wpAny_pure hQ
        | (refine wpAny_bind (wpAny_load ho ?_)
           rw [hc, hd]
           show wpAny M A (if (["enumerate", "zip", "dict_itemiterator", "dict_reverseitemiterator", "odict_iterator", "itertools.zip_longest", "itertools.pairwise"].contains n && vs[0]? == some (rawInt _)) = true then _ else _) Q E s
           rw [if_neg (by intro h; rw [hn, Bool.false_and] at h; cases h)]
           exact wpAny_pure hQ))
/-- the list at a, as it stands at each turn (a loop may append to it) -/
def Itl (K : PySem.W.Frag) (a : Addr) : It :=
  ⟨fun i H => ∃ xs x, SqL K H a xs ∧ xs[i]? = some x, fun i H x H' => H' = H ∧ ∀ xs, SqL K H a xs → xs[i]? = some x, fun i H => ∃ xs, SqL K H a xs ∧ xs.length ≤ i⟩
def Itt (K : PySem.W.Frag) (a : Addr) : It :=
  ⟨fun i H => ∃ xs x, SqT K H a xs ∧ xs[i]? = some x, fun i H x H' => H' = H ∧ ∀ xs, SqT K H a xs → xs[i]? = some x, fun i H => ∃ xs, SqT K H a xs ∧ xs.length ≤ i⟩
/-- lo, lo + 1, .. (n of them) -/
def Itr (lo : Int) (n : Nat) : It := ⟨fun i _ => i < n, fun i H x H' => H' = H ∧ x = .int (lo + i), fun i _ => n ≤ i⟩
theorem turn_list {P : Program} {w : World} {K : PySem.W.Frag} {tg : Expr} (a it : Addr) : Turn P w K tg (Itl K a) [it] it (fun i h => h.IsListIter it a i) where
  mem := by simp
  obj := fun i h st b hb => by
    have e : b = it := by simpa using hb
    subst e
    obtain ⟨o, e, c, d⟩ := st
    exact ⟨o, e, fun v z => by rw [d] at z; cases z⟩
  keep := fun i h h' st k => st.at fun o e => k it (by simp) o e
  item := by
    intro X hP hw hK hc i pins s σ H E I hf st hg
    subst hP hw hK
    obtain ⟨xs, x, hq, hx⟩ := hg
    obtain ⟨its, rv, p, hz⟩ := I.list hq
    obtain ⟨u, hu, ru⟩ := rv.get hx
    obtain ⟨f0, f1, f2, f3, f4, f5⟩ := hf it (by simp)
    refine wpAny_pyNext_list_item st p.isList (x := u) (by simpa using hu) fun h' st' sb => ?_
    have I1 : Inv X pins σ H { s with heap := h' } := I.turned (t' := s.toks) (fun b o hb e => (sb.2 b hb).trans e) f0 f1 f3 f4 f5
    obtain ⟨o, e, c, d⟩ := id st'
    exact ⟨u, rfl, go_of (s := { s with heap := h' }) e c d (by decide) ⟨x, H, I1, ru, ⟨rfl, fun ys hy => by rw [I.list_inj hy hq]; exact hx⟩, st', fun b hb => (hf b hb).1⟩⟩
  done := by
    intro X hP hw hK hc i pins s σ H E I hf st hg
    subst hP hw hK
    obtain ⟨xs, hq, hx⟩ := hg
    obtain ⟨its, rv, p, hz⟩ := I.list hq
    obtain ⟨f0, f1, f2, f3, f4, f5⟩ := hf it (by simp)
    have hl := rv.length
    exact wpAny_pyNext_list_end (I.ok.hd hc) st p.isList (by simp; omega) fun h' eb => ⟨rfl, I.turned (t' := s.toks) (fun b o hb e => eb b o hb e) f0 f1 f3 f4 f5⟩
  self := fun _ _ _ _ _ st h => wpAny_pyIter_listiter st h
theorem turn_range {P : Program} {w : World} {K : PySem.W.Frag} {tg : Expr} (it : Addr) (lo : Int) (n : Nat) : Turn P w K tg (Itr lo n) [it] it (fun i h => IsRangeIter h it (lo + (i : Nat) * 1) ((n : Int) - (i : Nat)) 1) where
  mem := by simp
  obj := fun i h st b hb => by
    have e : b = it := by simpa using hb
    subst e
    exact ⟨_, st, fun v z => by
      have z' : Data.fields _ = Data.cell v := z
      cases z'⟩
  keep := fun i h h' st k => k it (by simp) _ st
  item := by
    intro X hP hw hK hc i pins s σ H E I hf st hg
    subst hP hw hK
    obtain ⟨f0, f1, f2, f3, f4, f5⟩ := hf it (by simp)
    have W := Walks.range (prog := X.prog) (w := X.w) (I.ok.hd hc) it lo 1 n
    refine W.item i s _ _ hg st fun v h' tk hv st' kk => ?_
    obtain ⟨t, rfl⟩ := hv
    have I1 : Inv X pins σ H { s with heap := h', toks := tk } := I.turned (fun b o hb e => kk b o (by simpa using hb) e) f0 f1 f3 f4 f5
    refine ⟨_, rfl, go_of (s := { s with heap := h', toks := tk }) (n := "range_iterator") st' rfl rfl (by decide) ⟨.int (lo + i), H, I1, ⟨t, ?_⟩, ⟨rfl, rfl⟩, st', fun b hb => (hf b hb).1⟩⟩
    rw [Int.mul_one]
  done := by
    intro X hP hw hK hc i pins s σ H E I hf st hg
    subst hP hw hK
    obtain ⟨f0, f1, f2, f3, f4, f5⟩ := hf it (by simp)
    exact wpAny_pyNext_range_end (I.ok.hd hc) st (by have : n ≤ i := hg; omega) fun h' eb => ⟨rfl, I.turned (t' := s.toks) (fun b o hb e => eb b o hb e) f0 f1 f3 f4 f5⟩
  self := fun _ _ _ _ _ st h => wpAny_pyIter_rangeiter st h
end L2
namespace L2
open PySem PySem.Spec PyProof.Rows
section
variable {X : Cx} {tg : Expr}
def iList (K : PySem.W.Frag) (tl : TE) : TI := fun σ H R => tl σ H fun x H1 => ∃ a, x = .ref a ∧ (∃ xs, SqL K H1 a xs) ∧ R (Itl K a) H1
def iTup (K : PySem.W.Frag) (tl : TE) : TI := fun σ H R => tl σ H fun x H1 => ∃ a, x = .ref a ∧ (∃ xs, SqT K H1 a xs) ∧ R (Itt K a) H1
theorem pi_list {l : Expr} {tl : TE} (hl : PE X l tl) : PI X tg l (iList X.K tl) := by
  intro pins s σ H R I h
  refine thn (hl pins s σ H _ I h) fun v s1 ⟨x, H1, I1, r1, q1⟩ => ?_
  obtain ⟨a, e, ⟨xs, hq⟩, q⟩ := q1
  subst e
  cases r1
  obtain ⟨its, rv, p, hz⟩ := I1.list hq
  refine wpAny_pyIter_list p.isList ?_
  refine ⟨s1.heap.objs.size, [s1.heap.objs.size], _, _, H1, rfl, I1.kept (t' := s1.toks) fun b o e => Heap.get?_push_of_some _ e, turn_list a _, ⟨_, Heap.get?_push_size _ rfl, rfl, rfl⟩, fun b hb => ?_, q⟩
  have e : b = s1.heap.objs.size := by simpa using hb
  subst e
  exact I1.fpOk (Nat.le_refl _) (I1.hok.fresh (Nat.le_refl _))
/-- a range object just made, walked -/
theorem range_it {pins : List (Addr × Obj)} {σ : St} {H : Hp} {s : Shared} {R : It → Hp → Prop} {E : Value → Shared → Prop} {lo hi : Int} {t u v : Tok} {tk : Nat} (I : Inv X pins σ H s) (h1 : -(2 ^ 62) ≤ lo) (h2 : lo < 2 ^ 62) (h3 : -(2 ^ 62) ≤ hi) (h4 : hi < 2 ^ 62)
    (q : R (Itr lo (hi - lo).toNat) H) : wpAny (model X.prog X.w) X.A (pyIter (.ref s.heap.objs.size)) (PIE X pins σ tg R) E { s with heap := s.heap.push { cls := .type "range", data := .fields #[.int lo t, .int hi u, .int 1 v] }, toks := tk } := by
  refine wpAny_pyIter_range (IsRange.new ..) (small_one h1 h2 h3 h4) ?_
  have I1 : Inv X pins σ H { s with heap := s.heap.push { cls := .type "range", data := .fields #[.int lo t, .int hi u, .int 1 v] }, toks := tk } := I.kept fun b o e => Heap.get?_push_of_some _ e
  refine ⟨(s.heap.push { cls := .type "range", data := .fields #[.int lo t, .int hi u, .int 1 v] }).objs.size, [(s.heap.push { cls := .type "range", data := .fields #[.int lo t, .int hi u, .int 1 v] }).objs.size], _, _, H, rfl,
    I1.kept (t' := tk) fun b o e => Heap.get?_push_of_some _ e, turn_range _ lo (hi - lo).toNat, ?_, fun b hb => ?_, q⟩
  · have e1 : lo + ((0 : Nat) : Int) * 1 = lo := by simp
    have e2 : (((hi - lo).toNat : Nat) : Int) - ((0 : Nat) : Int) = Builtin.Range.rangeSize lo hi 1 := by rw [rangeSize_one]; split <;> omega
    show IsRangeIter _ _ (lo + ((0 : Nat) : Int) * 1) ((((hi - lo).toNat : Nat) : Int) - ((0 : Nat) : Int)) 1
    rw [e1, e2]
    exact Heap.get?_push_size _ rfl
  · have e : b = (s.heap.push { cls := .type "range", data := .fields #[.int lo t, .int hi u, .int 1 v] }).objs.size := by simpa using hb
    subst e
    exact I1.fpOk (Nat.le_refl _) (I1.hok.fresh (Nat.le_refl _))
def iRng1 (ta : TA) : TI := fun σ H R => ta σ H fun vs H1 => ∃ j : Int, vs = [.int j] ∧ -(2 ^ 62) ≤ j ∧ j < 2 ^ 62 ∧ R (Itr 0 j.toNat) H1
def iRng2 (ta : TA) : TI := fun σ H R => ta σ H fun vs H1 => ∃ i j : Int, vs = [.int i, .int j] ∧ (-(2 ^ 62) ≤ i ∧ i < 2 ^ 62 ∧ -(2 ^ 62) ≤ j ∧ j < 2 ^ 62) ∧ R (Itr i (j - i).toNat) H1
theorem pi_range1 {a : Expr} {ta : TA} {p pos : Pos} (hg : Gl X "range") (hm : X.mg "range" = none) (ha : PA X [a] ta) (hs : starEach [a] X.env = [(false, eval a X.env)] := by rfl) : PI X tg (.Call (.Name "range" p) [a] [] pos) (iRng1 ta) := by
  intro pins s σ H R I h
  refine Call_ (ld_blt I hg hm boot_range (PyProof.Rows.callWith_type1 (thn (ha pos pins s σ H _ I h) fun us s1 ⟨vs, H1, I1, r1, q1⟩ => ?_) hs rfl))
  obtain ⟨j, e, q1, q2, q⟩ := q1
  subst e
  cases r1 with
  | cons r rr =>
    cases rr
    obtain ⟨t, rfl⟩ := r
    exact call_range_1 (range_it I1 (by omega) (by omega) q1 q2 (by simpa using q))
theorem pi_range2 {a b : Expr} {ta : TA} {p pos : Pos} (hg : Gl X "range") (hm : X.mg "range" = none) (ha : PA X [a, b] ta) (hs : starEach [a, b] X.env = [(false, eval a X.env), (false, eval b X.env)] := by rfl) (hs2 : starEach [b] X.env = [(false, eval b X.env)] := by rfl) :
    PI X tg (.Call (.Name "range" p) [a, b] [] pos) (iRng2 ta) := by
  intro pins s σ H R I h
  refine Call_ (ld_blt I hg hm boot_range (PyProof.Rows.callWith_type1 (thn (ha pos pins s σ H _ I h) fun us s1 ⟨vs, H1, I1, r1, q1⟩ => ?_) (by rw [hs, hs2]) (by rw [hs2]; rfl)))
  obtain ⟨i, j, e, ⟨q1, q2, q3, q4⟩, q⟩ := q1
  subst e
  cases r1 with
  | cons r rr =>
    cases rr with
    | cons r' rr =>
      cases rr
      obtain ⟨t, rfl⟩ := r
      obtain ⟨t', rfl⟩ := r'
      exact call_range_2 (range_it I1 q1 q2 q3 q4 q)
/-! ### for -/
/-- W: the invariant by the turn and a measure; N: what the body is to reach -/
def tFor (wi : TI) (g : TG) (tb : TS) : TS := fun D σ H => wi σ H fun J H1 => ∃ W : Nat → Nat → St → Hp → Prop, (∃ m, W 0 m σ H1) ∧ ∀ i m σ H, W i m σ H →
  (J.stop i H ∧ D.nx σ H) ∨ (J.go i H ∧ ∃ N : St → Hp → Prop, (∀ σ' H', N σ' H' → ∃ m', m' < m ∧ W (i + 1) m' σ' H') ∧ ∀ x H', J.yld i H x H' → g x σ H' fun σ2 H2 => tb { D with nx := N, ct := N, bk := D.nx } σ2 H2)
/-- the records at fp as they stand -/
def pinsAt (fp : List Addr) (h : Heap) : List (Addr × Obj) := fp.filterMap fun b => (h.get? b).map fun o => (b, o)
theorem mem_pinsAt {fp : List Addr} {h : Heap} {b : Addr} {o : Obj} (hb : b ∈ fp) (e : h.get? b = some o) : (b, o) ∈ pinsAt fp h := List.mem_filterMap.mpr ⟨b, hb, by rw [e]; rfl⟩
theorem of_pinsAt {fp : List Addr} {h : Heap} {p : Addr × Obj} (hp : p ∈ pinsAt fp h) : p.1 ∈ fp ∧ h.get? p.1 = some p.2 := by
  obtain ⟨b, hb, e⟩ := List.mem_filterMap.mp hp
  cases q : h.get? b with
  | none => rw [q] at e; cases e
  | some o =>
    rw [q] at e
    have e' : (b, o) = p := Option.some.inj e
    subst e'
    exact ⟨hb, q⟩
theorem Inv.pinned {pins : List (Addr × Obj)} {σ : St} {H : Hp} {s : Shared} {fp : List Addr} (I : Inv X pins σ H s) (hf : ∀ b ∈ fp, FpOk X pins H b) (ho : ∀ b ∈ fp, ∃ o, s.heap.get? b = some o ∧ ∀ v, o.data ≠ .cell v) : Inv X (pins ++ pinsAt fp s.heap) σ H s :=
  I.pins_of fun p hp => (List.mem_append.mp hp).elim (fun z => I.pin p (List.mem_append_right _ z)) fun z => by
    obtain ⟨hb, e⟩ := of_pinsAt z
    obtain ⟨f0, f1, f2, _⟩ := hf p.1 hb
    obtain ⟨o, e', d⟩ := ho p.1 hb
    rw [e] at e'; cases e'
    exact ⟨e, f0, f1, f2, d⟩
theorem Inv.unpinned {pins pl : List (Addr × Obj)} {σ : St} {H : Hp} {s : Shared} (I : Inv X (pins ++ pl) σ H s) : Inv X pins σ H s := I.pins_of fun p hp => I.pin p (List.mem_append_right _ (List.mem_append_left _ hp))
theorem ps_for {iter : Expr} {body : List Stmt} {wi : TI} {g : TG} {tb : TS} {pos : Pos} (hp : PassesOwn (model X.prog X.w) X.A X.env X.xe) (hc : X.calm = true) (hi : PI X tg iter wi) (hg : PG X tg g) (hb : PSs X body tb)
    (hs : ∀ x, foldedSetIterable iter X.env x = pure x := by intro _; rfl) : PS X (.For tg iter body [] pos) (tFor wi g tb) := by
  intro pins s σ H D I h
  refine wpAny_For (thn (hi pins s σ H _ I h) fun v s1 h1 => thn h1 fun itv s2 h2 => ?_) hs
  obtain ⟨it, fp, tn, J, H2, e, I2, T, st2, f2, W, ⟨m0, w0⟩, turn⟩ := h2
  subst e
  -- what stays true of the iterator's objects through the loop
  have stat : ∀ {H' : Hp}, (∀ b ∈ fp, H' b = none) → ∀ b ∈ fp, FpOk X pins H' b := fun hn b hb => ⟨hn b hb, (f2 b hb).2⟩
  refine codeAny_forLoop_any (fun n s' => ∃ i σ' H', Inv X pins σ' H' s' ∧ tn i s'.heap ∧ (∀ b ∈ fp, H' b = none) ∧ W i n σ' H') ?_ m0 ⟨0, σ, H2, I2, st2, fun b hb => (f2 b hb).1, w0⟩
  rintro n s3 ⟨i, σ3, H3, I3, st3, fr3, w3⟩
  rcases turn i n σ3 H3 w3 with ⟨stop, qn⟩ | ⟨go, N, hN, step⟩
  · refine wpAny_passesOwn hp (thn (T.done X rfl rfl rfl hc i pins s3 σ3 H3 X.xe I3 (stat fr3) st3 stop) fun r s4 ⟨hr, I4⟩ => ?_)
    subst hr
    exact wpAny_execs_nil ⟨σ3, H3, I4, qn⟩
  · refine wpAny_passesOwn hp (thn (T.item X rfl rfl rfl hc i pins s3 σ3 H3 X.xe I3 (stat fr3) st3 go) fun r s4 ⟨u, hr, h4⟩ => ?_)
    subst hr
    refine wpAny_passesOwn hp (thn h4 fun _ s5 ⟨x, H5, I5, r5, y5, st5, fr5⟩ => ?_)
    have I5' := I5.pinned (stat fr5) (T.obj _ _ st5)
    refine wpAny_passesOwn hp (thn (hg _ s5 σ3 H5 x u _ I5' r5 (step x H5 y5)) fun _ s6 ⟨σ6, H6, I6, q6⟩ => ?_)
    refine wpAny_passesOwn hp (thn (hb _ s6 σ6 H6 _ I6 q6) fun f s7 q7 => ?_)
    have again : ∀ {σ7 : St} {H7 : Hp}, Inv X (pins ++ pinsAt fp s5.heap) σ7 H7 s7 → N σ7 H7 → ∃ m, m < n ∧ ∃ i σ' H', Inv X pins σ' H' s7 ∧ tn i s7.heap ∧ (∀ b ∈ fp, H' b = none) ∧ W i m σ' H' := fun {σ7 H7} I7 n7 => by
      obtain ⟨m', hm, w7⟩ := hN σ7 H7 n7
      refine ⟨m', hm, i + 1, σ7, H7, I7.unpinned, T.keep _ _ _ st5 fun b hb o e => (I7.pin (b, o) (List.mem_append_right _ (List.mem_append_right _ (mem_pinsAt hb e)))).1, fun b hb => ?_, w7⟩
      obtain ⟨o, e, d⟩ := T.obj _ _ st5 b hb
      exact (I7.pin (b, o) (List.mem_append_right _ (List.mem_append_right _ (mem_pinsAt hb e)))).2.1
    cases f with
    | next => obtain ⟨σ7, H7, I7, n7⟩ := q7; exact again I7 n7
    | cont => obtain ⟨σ7, H7, I7, n7⟩ := q7; exact again I7 n7
    | brk => obtain ⟨σ7, H7, I7, q7⟩ := q7; exact ⟨σ7, H7, I7.unpinned, q7⟩
    | ret v => obtain ⟨x7, σ7, H7, I7, r7, q7⟩ := q7; exact ⟨x7, σ7, H7, I7.unpinned, r7, q7⟩
end
/-! ### the forms one uses -/
/-- over a list that the body leaves as it is -/
theorem for_list {K : PySem.W.Frag} {a : Addr} {xs : List V} {g : TG} {tb : TS} {D : Ends} {σ : St} {H : Hp} (Pv : Nat → St → Hp → Prop) (h0 : Pv 0 σ H) (hl : ∀ i σ H, i ≤ xs.length → Pv i σ H → SqL K H a xs)
    (hs : ∀ i x σ H, xs[i]? = some x → Pv i σ H → g x σ H fun σ2 H2 => tb { D with nx := Pv (i + 1), ct := Pv (i + 1), bk := D.nx } σ2 H2) (hd : ∀ σ H, Pv xs.length σ H → D.nx σ H) :
    ∃ W : Nat → Nat → St → Hp → Prop, (∃ m, W 0 m σ H) ∧ ∀ i m σ H, W i m σ H →
      ((Itl K a).stop i H ∧ D.nx σ H) ∨ ((Itl K a).go i H ∧ ∃ N : St → Hp → Prop, (∀ σ' H', N σ' H' → ∃ m', m' < m ∧ W (i + 1) m' σ' H') ∧ ∀ x H', (Itl K a).yld i H x H' → g x σ H' fun σ2 H2 => tb { D with nx := N, ct := N, bk := D.nx } σ2 H2) := by
  refine ⟨fun i m σ H => m = xs.length - i ∧ i ≤ xs.length ∧ Pv i σ H, ⟨xs.length, by simp, Nat.zero_le _, h0⟩, ?_⟩
  rintro i m σ H ⟨rfl, hi, p⟩
  have q := hl i σ H hi p
  by_cases hlt : i < xs.length
  · refine .inr ⟨⟨xs, xs[i], q, by simp [hlt]⟩, Pv (i + 1), fun σ' H' p' => ⟨xs.length - (i + 1), by omega, rfl, hlt, p'⟩, fun x H' y => ?_⟩
    obtain ⟨e, y⟩ := y
    subst e
    exact hs i x σ _ (y xs q) p
  · have e : i = xs.length := by omega
    subst e
    exact .inl ⟨⟨xs, q, Nat.le_refl _⟩, hd σ H p⟩
theorem for_range {lo : Int} {n : Nat} {g : TG} {tb : TS} {D : Ends} {σ : St} {H : Hp} (Pv : Nat → St → Hp → Prop) (h0 : Pv 0 σ H)
    (hs : ∀ i σ H, i < n → Pv i σ H → g (.int (lo + i)) σ H fun σ2 H2 => tb { D with nx := Pv (i + 1), ct := Pv (i + 1), bk := D.nx } σ2 H2) (hd : ∀ σ H, Pv n σ H → D.nx σ H) :
    ∃ W : Nat → Nat → St → Hp → Prop, (∃ m, W 0 m σ H) ∧ ∀ i m σ H, W i m σ H →
      ((Itr lo n).stop i H ∧ D.nx σ H) ∨ ((Itr lo n).go i H ∧ ∃ N : St → Hp → Prop, (∀ σ' H', N σ' H' → ∃ m', m' < m ∧ W (i + 1) m' σ' H') ∧ ∀ x H', (Itr lo n).yld i H x H' → g x σ H' fun σ2 H2 => tb { D with nx := N, ct := N, bk := D.nx } σ2 H2) := by
  refine ⟨fun i m σ H => m = n - i ∧ i ≤ n ∧ Pv i σ H, ⟨n, by simp, Nat.zero_le _, h0⟩, ?_⟩
  rintro i m σ H ⟨rfl, hi, p⟩
  by_cases hlt : i < n
  · refine .inr ⟨hlt, Pv (i + 1), fun σ' H' p' => ⟨n - (i + 1), by omega, rfl, hlt, p'⟩, fun x H' y => ?_⟩
    obtain ⟨e, y⟩ := y
    subst e y
    exact hs i σ _ hlt p
  · have e : i = n := by omega
    subst e
    exact .inl ⟨Nat.le_refl _, hd σ H p⟩
end L2
namespace L2
open PySem PySem.Spec PyProof.Rows
abbrev R2 := V → V → Hp → VK → Prop
/-- a two-place operation on values: f is binaryOp op, inplaceOp op or compareOp op -/
def OpR (X : Cx) (f : Value → Value → Sem Value) (r : R2) : Prop :=
  ∀ (pins : List (Addr × Obj)) (s : Shared) (σ : St) (H : Hp) (x y : V) (v u : Value) (Q : VK), Inv X pins σ H s → RelV x v → RelV y u → r x y H Q →
    wpAny (model X.prog X.w) X.A (f v u) (EP X pins σ Q) X.xe s
/-- a one-place operation -/
def UnR (X : Cx) (f : Value → Sem Value) (r : V → Hp → VK → Prop) : Prop :=
  ∀ (pins : List (Addr × Obj)) (s : Shared) (σ : St) (H : Hp) (x : V) (v : Value) (Q : VK), Inv X pins σ H s → RelV x v → r x H Q →
    wpAny (model X.prog X.w) X.A (f v) (EP X pins σ Q) X.xe s
/-- a call of a value that is known (a builtin, a type) with values -/
def CallR (X : Cx) (f : Value) (r : List V → Hp → VK → Prop) : Prop :=
  ∀ (pins : List (Addr × Obj)) (s : Shared) (σ : St) (H : Hp) (xs : List V) (us : List Value) (Q : VK), Inv X pins σ H s → Vals xs us → r xs H Q →
    wpAny (model X.prog X.w) X.A (call f us) (EP X pins σ Q) X.xe s
/-- a value's truth -/
def TruR (X : Cx) (r : V → Hp → (Bool → Hp → Prop) → Prop) : Prop :=
  ∀ (pins : List (Addr × Obj)) (s : Shared) (σ : St) (H : Hp) (x : V) (v : Value) (Q : Bool → Hp → Prop), Inv X pins σ H s → RelV x v → r x H Q →
    wpAny (model X.prog X.w) X.A (truthy v) (TP X pins σ Q) X.xe s
def tOp (r : R2) (ta tb : TE) : TE := fun σ H Q => ta σ H fun x H1 => tb σ H1 fun y H2 => r x y H2 Q
def tUn (r : V → Hp → VK → Prop) (ta : TE) : TE := fun σ H Q => ta σ H fun x H1 => r x H1 Q
/-- ints in, under C, and a value out -/
def rI (C : Int → Int → Prop) (g : Int → Int → V) : R2 := fun x y H Q => ∃ i j, x = .int i ∧ y = .int j ∧ C i j ∧ Q (g i j) H
def rI0 (g : Int → Int → V) : R2 := fun x y H Q => ∃ i j, x = .int i ∧ y = .int j ∧ Q (g i j) H
def rU (g : Int → V) : V → Hp → VK → Prop := fun x H Q => ∃ i, x = .int i ∧ Q (g i) H
section
variable {X : Cx} {a b c : Expr} {ta tb tc : TE} {pos : Pos}
theorem binT (ha : PE X a ta) (hb : PE X b tb) {pins : List (Addr × Obj)} {s : Shared} {σ : St} {H : Hp} {R : V → V → Hp → Prop} (I : Inv X pins σ H s)
    (h : ta σ H fun x H1 => tb σ H1 fun y H2 => R x y H2) {Q : Value → Shared → Prop} {f : Value → Value → Sem Value}
    (hf : ∀ v u s2 x y H2, Inv X pins σ H2 s2 → RelV x v → RelV y u → R x y H2 → wpAny (model X.prog X.w) X.A (f v u) Q X.xe s2) :
    wpAny (model X.prog X.w) X.A (eval a X.env) (fun v s₁ => wpAny (model X.prog X.w) X.A (eval b X.env) (fun u s₂ => wpAny (model X.prog X.w) X.A (f v u) Q X.xe s₂) X.xe s₁) X.xe s := by
  refine thn (ha pins s σ H _ I h) fun v s1 ⟨x, H1, I1, r1, q1⟩ => ?_
  refine thn (hb pins s1 σ H1 _ I1 q1) fun u s2 ⟨y, H2, I2, r2, q2⟩ => ?_
  exact hf v u s2 x y H2 I2 r1 r2 q2
theorem pe_op {op : Operator} {r : R2} (ho : OpR X (binaryOp op) r) (ha : PE X a ta) (hb : PE X b tb) : PE X (.BinOp a op b pos) (tOp r ta tb) := by
  intro pins s σ H Q I h
  exact wpAny_BinOp (binT ha hb I h fun v u s2 x y H2 I2 rx ry q => ho pins s2 σ H2 x y v u Q I2 rx ry q)
/-! ### ints -/
theorem opI {f : Value → Value → Sem Value} {C : Int → Int → Prop} {g : Int → Int → Int}
    (rule : ∀ (i j : Int) (t u : Tok) (s : Shared) (Q : Value → Shared → Prop) (E : Value → Shared → Prop), C i j → Q (.int (g i j) s.toks) { s with toks := s.toks + 1 } → wpAny (model X.prog X.w) X.A (f (.int i t) (.int j u)) Q E s) :
    OpR X f (rI C fun i j => .int (g i j)) := by
  intro pins s σ H x y v u Q I rx ry h
  obtain ⟨i, j, rfl, rfl, hc, q⟩ := h
  obtain ⟨t, rfl⟩ := rx
  obtain ⟨t', rfl⟩ := ry
  exact rule i j t t' s _ _ hc ⟨.int (g i j), H, I.tok _, ⟨_, rfl⟩, q⟩
theorem opI0 {f : Value → Value → Sem Value} {g : Int → Int → Int}
    (rule : ∀ (i j : Int) (t u : Tok) (s : Shared) (Q : Value → Shared → Prop) (E : Value → Shared → Prop), Q (.int (g i j) s.toks) { s with toks := s.toks + 1 } → wpAny (model X.prog X.w) X.A (f (.int i t) (.int j u)) Q E s) :
    OpR X f (rI0 fun i j => .int (g i j)) := by
  intro pins s σ H x y v u Q I rx ry h
  obtain ⟨i, j, rfl, rfl, q⟩ := h
  obtain ⟨t, rfl⟩ := rx
  obtain ⟨t', rfl⟩ := ry
  exact rule i j t t' s _ _ ⟨.int (g i j), H, I.tok _, ⟨_, rfl⟩, q⟩
theorem opB0 {f : Value → Value → Sem Value} {g : Int → Int → Bool}
    (rule : ∀ (i j : Int) (t u : Tok) (s : Shared) (Q : Value → Shared → Prop) (E : Value → Shared → Prop), Q (.bool (g i j)) s → wpAny (model X.prog X.w) X.A (f (.int i t) (.int j u)) Q E s) :
    OpR X f (rI0 fun i j => .bl (g i j)) := by
  intro pins s σ H x y v u Q I rx ry h
  obtain ⟨i, j, rfl, rfl, q⟩ := h
  obtain ⟨t, rfl⟩ := rx
  obtain ⟨t', rfl⟩ := ry
  exact rule i j t t' s _ _ ⟨.bl (g i j), H, I, rfl, q⟩
def CDiv (i j : Int) : Prop := 0 < j ∧ j < 1073741824
def CDivN (i j : Int) : Prop := j ≠ 0 ∧ j.natAbs < 1073741824
def CPow (i j : Int) : Prop := 0 ≤ j ∧ j ≤ 1000000 ∧ i.natAbs < 2 ^ 64
def CMul (i j : Int) : Prop := (-(2 ^ 64) < i ∧ i < 2 ^ 64) ∨ (-(2 ^ 64) < j ∧ j < 2 ^ 64)
theorem CMul.ok {i j : Int} (h : CMul i j) : IntMulOk i j := by
  rcases h with ⟨h1, h2⟩ | ⟨h1, h2⟩
  · exact .of_left (intBits_le_64 h1 h2)
  · exact .of_right (intBits_le_64 h1 h2)
theorem op_add : OpR X (binaryOp .Add) (rI0 fun i j => .int (i + j)) := opI0 fun _ _ _ _ _ _ _ q => add_int q
theorem op_mul : OpR X (binaryOp .Mult) (rI CMul fun i j => .int (i * j)) := opI fun _ _ _ _ _ _ _ hc q => mul_int q hc.ok
/-- // by a positive divisor -/
theorem op_fdiv : OpR X (binaryOp .FloorDiv) (rI CDiv fun i j => .int (i / j)) := opI fun i j _ _ _ _ _ hc q => by
  have h1 : (0 : Int) < j := hc.1
  have h2 : j < 1073741824 := hc.2
  exact floordiv_int (by omega) (by rw [Int.fdiv_eq_ediv_of_nonneg i (by omega)]; exact q) (.inl (PyProof.noPylong_small (by omega)))
/-- % by a positive divisor of any size -/
theorem op_mod : OpR X (binaryOp .Mod) (rI (fun _ j => 0 < j) fun i j => .int (i % j)) := opI fun i j _ _ _ _ _ hc q => by
  have h1 : (0 : Int) < j := hc
  exact mod_int' (by omega) (by rw [Int.fmod_eq_emod_of_nonneg i (by omega)]; exact q)
/-! ### bools among ints: n += (a < b) -/
end
/-! ### comparisons -/
/-- the scalars that == tells apart as data does -/
def scal : V → V → Bool
  | .non, .non => true | .non, .int _ => true | .int _, .non => true | .non, .bl _ => true | .bl _, .non => true | .non, .str _ => true | .str _, .non => true
  | .int _, .int _ => true | .bl _, .bl _ => true | .str _, .str _ => true | .byt _, .byt _ => true
  | .int _, .str _ => true | .str _, .int _ => true | .bl _, .str _ => true | .str _, .bl _ => true
  | _, _ => false
def rEq : R2 := fun x y H Q => scal x y = true ∧ Q (.bl (decide (x = y))) H
def rNe : R2 := fun x y H Q => scal x y = true ∧ Q (.bl (!decide (x = y))) H
theorem dec_int {i j : Int} : decide (V.int i = V.int j) = (i == j) := by
  rw [Bool.eq_iff_iff]
  simp
theorem dec_bl {i j : Bool} : decide (V.bl i = V.bl j) = (i == j) := by
  rw [Bool.eq_iff_iff]
  simp
theorem dec_str {i j : Str} : decide (V.str i = V.str j) = (i == j) := by
  rw [Bool.eq_iff_iff]
  simp
theorem dec_byt {i j : Array UInt8} : decide (V.byt i = V.byt j) = (i.toList == j.toList) := by
  rw [Bool.eq_iff_iff]
  cases i
  cases j
  simp
section
variable {X : Cx} {a b c : Expr} {ta tb tc : TE} {pos : Pos}
theorem fin_bl {pins : List (Addr × Obj)} {σ : St} {H : Hp} {s : Shared} {Q : VK} {k k' : Bool} (I : Inv X pins σ H s) (q : Q (.bl k) H) (e : k = k') : EP X pins σ Q (.bool k') s := by
  subst e
  exact ⟨.bl k, H, I, rfl, q⟩
theorem op_eq : OpR X (compareOp .Eq) rEq := by
  intro pins s σ H x y v u Q I rx ry h
  obtain ⟨hs, q⟩ := h
  cases x with
  | non =>
    cases rx
    cases y with
    | non => cases ry; exact PySem.EqNone.eq_none_none (fin_bl I q (by simp))
    | bl j => cases ry; exact PySem.EqNone.eq_none_bool (fin_bl I q (by simp))
    | int j => obtain ⟨t', rfl⟩ := ry; exact PySem.EqNone.eq_none_int (fin_bl I q (by simp))
    | str j => obtain ⟨t', rfl⟩ := ry; exact PySem.EqNone.eq_none_str (fin_bl I q (by simp))
    | _ => exact absurd (show false = true from hs) Bool.false_ne_true
  | bl i =>
    cases rx
    cases y with
    | non => cases ry; exact PySem.EqNone.eq_bool_none (fin_bl I q (by simp))
    | bl j => cases ry; exact eq_bool (fin_bl I q dec_bl)
    | str j => obtain ⟨t', rfl⟩ := ry; exact PySem.EqMixed.eq_bool_str (fin_bl I q (by simp))
    | _ => exact absurd (show false = true from hs) Bool.false_ne_true
  | int i =>
    obtain ⟨t, rfl⟩ := rx
    cases y with
    | non => cases ry; exact PySem.EqNone.eq_int_none (fin_bl I q (by simp))
    | int j => obtain ⟨t', rfl⟩ := ry; exact eq_int (fin_bl I q dec_int)
    | str j => obtain ⟨t', rfl⟩ := ry; exact PySem.EqMixed.eq_int_str (fin_bl I q (by simp))
    | _ => exact absurd (show false = true from hs) Bool.false_ne_true
  | str i =>
    obtain ⟨t, rfl⟩ := rx
    cases y with
    | non => cases ry; exact PySem.EqNone.eq_str_none (fin_bl I q (by simp))
    | bl j => cases ry; exact PySem.EqMixed.eq_str_bool (fin_bl I q (by simp))
    | int j => obtain ⟨t', rfl⟩ := ry; exact PySem.EqMixed.eq_str_int (fin_bl I q (by simp))
    | str j => obtain ⟨t', rfl⟩ := ry; exact eq_str (fin_bl I q dec_str)
    | _ => exact absurd (show false = true from hs) Bool.false_ne_true
  | byt i =>
    obtain ⟨t, rfl⟩ := rx
    cases y with
    | byt j => obtain ⟨t', rfl⟩ := ry; exact PySem.W.eq_bytes (fin_bl I q dec_byt)
    | _ => exact absurd (show false = true from hs) Bool.false_ne_true
  | _ => cases y <;> exact absurd (show false = true from hs) Bool.false_ne_true
theorem op_ne : OpR X (compareOp .NotEq) rNe := by
  intro pins s σ H x y v u Q I rx ry h
  obtain ⟨hs, q⟩ := h
  cases x with
  | non =>
    cases rx
    cases y with
    | non => cases ry; exact PySem.EqNone.ne_none_none (fin_bl I q (by simp))
    | bl j => cases ry; exact PySem.EqNone.ne_none_bool (fin_bl I q (by simp))
    | int j => obtain ⟨t', rfl⟩ := ry; exact PySem.EqNone.ne_none_int (fin_bl I q (by simp))
    | str j => obtain ⟨t', rfl⟩ := ry; exact PySem.EqNone.ne_none_str (fin_bl I q (by simp))
    | _ => exact absurd (show false = true from hs) Bool.false_ne_true
  | bl i =>
    cases rx
    cases y with
    | non => cases ry; exact PySem.EqNone.ne_bool_none (fin_bl I q (by simp))
    | bl j => cases ry; exact ne_bool (fin_bl I q (congrArg not dec_bl))
    | str j => obtain ⟨t', rfl⟩ := ry; exact PySem.EqMixed.ne_bool_str (fin_bl I q (by simp))
    | _ => exact absurd (show false = true from hs) Bool.false_ne_true
  | int i =>
    obtain ⟨t, rfl⟩ := rx
    cases y with
    | non => cases ry; exact PySem.EqNone.ne_int_none (fin_bl I q (by simp))
    | int j => obtain ⟨t', rfl⟩ := ry; exact ne_int (fin_bl I q (congrArg not dec_int))
    | str j => obtain ⟨t', rfl⟩ := ry; exact PySem.EqMixed.ne_int_str (fin_bl I q (by simp))
    | _ => exact absurd (show false = true from hs) Bool.false_ne_true
  | str i =>
    obtain ⟨t, rfl⟩ := rx
    cases y with
    | non => cases ry; exact PySem.EqNone.ne_str_none (fin_bl I q (by simp))
    | bl j => cases ry; exact PySem.EqMixed.ne_str_bool (fin_bl I q (by simp))
    | int j => obtain ⟨t', rfl⟩ := ry; exact PySem.EqMixed.ne_str_int (fin_bl I q (by simp))
    | str j => obtain ⟨t', rfl⟩ := ry; exact ne_str (fin_bl I q (congrArg not dec_str))
    | _ => exact absurd (show false = true from hs) Bool.false_ne_true
  | byt i =>
    obtain ⟨t, rfl⟩ := rx
    cases y with
    | byt j => obtain ⟨t', rfl⟩ := ry; exact PySem.W.ne_bytes (fin_bl I q (congrArg not dec_byt))
    | _ => exact absurd (show false = true from hs) Bool.false_ne_true
  | _ => cases y <;> exact absurd (show false = true from hs) Bool.false_ne_true
theorem op_lt : OpR X (compareOp .Lt) (rI0 fun i j => .bl (decide (i < j))) := opB0 fun _ _ _ _ _ _ _ q => lt_int q
theorem op_gt : OpR X (compareOp .Gt) (rI0 fun i j => .bl (decide (j < i))) := opB0 fun _ _ _ _ _ _ _ q => gt_int q
/-- is None, is not None: the right side a value none -/
theorem op_isN : OpR X (compareOp .Is) (fun x y H Q => y = .non ∧ Q (.bl (decide (x = .non))) H) := by
  intro pins s σ H x y v u Q I rx ry h
  obtain ⟨rfl, q⟩ := h
  cases ry
  refine is_none_gen (fin_bl I q ?_)
  cases x <;> first
    | (cases rx; rfl)
    | (obtain ⟨t, rfl⟩ := rx; rfl)
theorem op_notN : OpR X (compareOp .IsNot) (fun x y H Q => y = .non ∧ Q (.bl (!decide (x = .non))) H) := by
  intro pins s σ H x y v u Q I rx ry h
  obtain ⟨rfl, q⟩ := h
  cases ry
  refine isnot_none_gen (fin_bl I q ?_)
  cases x <;> first
    | (cases rx; rfl)
    | (obtain ⟨t, rfl⟩ := rx; rfl)
/-- is, is not of two objects that are tracked lists or instances -/
def isObj : HO → Bool
  | .lst _ => true
  | .ins _ _ _ => true
  | _ => false
/-- two rules for one operation: by cases -/
theorem OpR.or {f : Value → Value → Sem Value} {r r' : R2} (h : OpR X f r) (h' : OpR X f r') : OpR X f (fun x y H Q => r x y H Q ∨ r' x y H Q) := by
  intro pins s σ H x y v u Q I rx ry q
  rcases q with q | q
  · exact h pins s σ H x y v u Q I rx ry q
  · exact h' pins s σ H x y v u Q I rx ry q
theorem nomark (b : Expr) {op : CmpOp} (h : op ≠ .In := by decide) (h2 : op ≠ .NotIn := by decide) : behindInMarks op b = false := by
  have e1 : (op == CmpOp.In) = false := by cases op <;> first | rfl | exact absurd rfl h
  have e2 : (op == CmpOp.NotIn) = false := by cases op <;> first | rfl | exact absurd rfl h2
  cases b <;> simp [behindInMarks, e1, e2]
/-- a comparison as a value; hm: nomark b, or (for in, not in) by with_unfolding_all rfl -/
theorem pe_cmpR {op : CmpOp} {r : R2} (ho : OpR X (compareOp op) r) (ha : PE X a ta) (hb : PE X b tb) (hm : behindInMarks op b = false) : PE X (.Compare a [op] [b] pos) (tOp r ta tb) := by
  intro pins s σ H Q I h
  exact wpAny_Compare1 (binT ha hb I h fun v u s2 x y H2 I2 rx ry q => ho pins s2 σ H2 x y v u Q I2 rx ry q) hm
/-- a reading of a value as a test -/
def tTest (t : TE) : TT := fun σ H Q => t σ H fun x H' => ∃ k, x = .bl k ∧ Q k H'
theorem pt_cmpR {op : CmpOp} {r : R2} (ho : OpR X (compareOp op) r) (ha : PE X a ta) (hb : PE X b tb) (hm : behindInMarks op b = false) : PT X (.Compare a [op] [b] pos) (tTest (tOp r ta tb)) := by
  intro pins s σ H Q I h
  refine wpAny_isTrue_Compare1 (thn (ha pins s σ H _ I h) fun v s1 ⟨x, H1, I1, r1, q1⟩ => thn (hb pins s1 σ H1 _ I1 q1) fun u s2 ⟨y, H2, I2, r2, q2⟩ =>
    thn (ho pins s2 σ H2 x y v u _ I2 r1 r2 q2) fun c s3 ⟨z, H3, I3, r3, k, e, q3⟩ => ?_) hm
  subst e
  cases r3
  exact wpAny_truthy_bool ⟨H3, I3, q3⟩
/-- a op1 b op2 c -/
def tChain (r r' : R2) (ta tb tc : TE) : TE := fun σ H Q => ta σ H fun x H1 => tb σ H1 fun y H2 => r x y H2 fun z H3 => ∃ k, z = .bl k ∧
  (if k = true then tc σ H3 fun w' H4 => r' y w' H4 Q else Q (.bl false) H3)
/-! ### truth -/
/-- a value's truth by the abstract heap -/
def TruV (K : PySem.W.Frag) (x : V) (H : Hp) (k : Bool) : Prop :=
  match x with
  | .non => k = false
  | .bl b => k = b
  | .int i => k = (i != 0)
  | .str y => y.length ≤ sizeLine ∧ k = ((y.length : Int) != 0)
  | .byt y => y.size ≤ sizeLine ∧ k = ((y.size : Int) != 0)
  | .ref p => (∃ xs, SqL K H p xs ∧ k = !xs.isEmpty) ∨ (∃ xs, SqT K H p xs ∧ k = !xs.isEmpty) ∨ ∃ kvs, H p = some (.dK kvs) ∧ k = !kvs.isEmpty
  | _ => False
theorem line63 : (sizeLine : Nat) < 2 ^ 63 := by rw [sizeLine_eq]; decide
/-! ### strs and bytes -/
theorem op_add_str : OpR X (binaryOp .Add) (fun x y H Q => ∃ i j, x = .str i ∧ y = .str j ∧ i.length + j.length ≤ sizeLine ∧ Q (.str (i ++ j)) H) := by
  intro pins s σ H x y v u Q I rx ry h
  obtain ⟨i, j, rfl, rfl, hz, q⟩ := h
  obtain ⟨t, rfl⟩ := rx
  obtain ⟨t', rfl⟩ := ry
  exact add_str (fun t' tk => ⟨.str (i ++ j), H, I.tok _, ⟨_, rfl⟩, q⟩) hz
def PlainIxT (b : Expr) : Prop := ∀ o i, subscripted b false o i = operate [o, i] (getItem o i)
/-! ### scalar builtins, by CallR -/
theorem vals1 {x : V} {us : List Value} (r : Vals [x] us) : ∃ u, us = [u] ∧ RelV x u := by
  cases r with
  | cons r1 r2 => cases r2; exact ⟨_, rfl, r1⟩
theorem vals2 {x y : V} {us : List Value} (r : Vals [x, y] us) : ∃ u w', us = [u, w'] ∧ RelV x u ∧ RelV y w' := by
  cases r with
  | cons r1 r2 =>
    cases r2 with
    | cons r3 r4 => cases r4; exact ⟨_, _, rfl, r1, r3⟩
theorem call_min2 (hc : X.calm = true) : CallR X (.builtin "min") (fun xs H Q => ∃ i j, xs = [.int i, .int j] ∧ Q (.int (if j < i then j else i)) H) := by
  intro pins s σ H xs us Q I r h
  obtain ⟨i, j, rfl, q⟩ := h
  obtain ⟨u, w', rfl, ⟨t, rfl⟩, ⟨t', rfl⟩⟩ := vals2 r
  refine min_two_ints (I.ok.hd hc) fun h' tk k => ⟨_, H, I.kept k, ?_, q⟩
  by_cases hj : j < i
  · rw [if_pos hj, if_pos hj]; exact ⟨_, rfl⟩
  · rw [if_neg hj, if_neg hj]; exact ⟨_, rfl⟩
theorem call_str_int : CallR X (.type "str") (fun xs H Q => ∃ i, xs = [.int i] ∧ i.natAbs.log2 < 1920 ∧ Q (.str (toString i)) H) := by
  intro pins s σ H xs us Q I r h
  obtain ⟨i, rfl, hz, q⟩ := h
  obtain ⟨u, rfl, t, rfl⟩ := vals1 r
  exact PySem.P.str_of_int hz ⟨.str _, H, I.tok _, ⟨_, rfl⟩, q⟩
/-- len of a str, a bytes, a list, a tuple -/
def LenV (K : PySem.W.Frag) (x : V) (H : Hp) (n : Nat) : Prop :=
  match x with
  | .str y => y.length ≤ sizeLine ∧ n = y.length
  | .byt y => y.size ≤ sizeLine ∧ n = y.size
  | .ref p => (∃ xs, SqL K H p xs ∧ n = xs.length) ∨ ∃ xs, SqT K H p xs ∧ n = xs.length
  | _ => False
end
end L2
namespace L2
open PySem PySem.Spec PyProof.Rows
/-! ### an instance, its attributes a map -/
structure ObjM (h : Heap) (x dx C : Addr) (mA : Str → Option Value) : Prop where
  obj : h.get? x = some (PySem.W.instObj C dx)
  ns : h.Ns1 dx mA
  ne : dx ≠ x
theorem lookIn_ns {h : Heap} {dx : Addr} {mA : Str → Option Value} (n : h.Ns1 dx mA) : ∃ od, h.get? dx = some od ∧ ∀ name, PySem.W.lookIn name od = some (mA name) := by
  obtain ⟨o, es, ep, ho, hd, hk, _, hm⟩ := n
  refine ⟨o, ho, fun name => ?_⟩
  have e := hm name
  unfold nsFind findBy at e
  rw [← Array.find?_toList] at e
  unfold PySem.W.lookIn
  rw [hd]
  dsimp only
  split
  · rename_i y q
    rw [q] at e
    exact congrArg some e
  · rename_i q
    rw [q] at e
    have a : es.toList.any (·.refKey) = false := by
      rw [List.any_eq_false]
      intro y hy
      obtain ⟨z, t, hkey⟩ := hk y (Array.mem_toList_iff.mp hy)
      simp [DictEntry.refKey, hkey]
    have a' : ¬ es.toList.any (·.refKey) = true := by rw [a]; exact Bool.false_ne_true
    rw [if_neg a']
    exact congrArg some e
theorem ObjM.look {h : Heap} {x dx C : Addr} {mA : Str → Option Value} (I : ObjM h x dx C mA) : ∃ od, PySem.W.InstAt h x (PySem.W.instObj C dx) C (some od) ∧ ∀ name, PySem.W.lookIn name od = some (mA name) :=
  let ⟨od, ho, hl⟩ := lookIn_ns I.ns
  ⟨od, ⟨I.obj, rfl, rfl, ho⟩, hl⟩
section
variable {prog : Program} {w : World} {A : Around} {E : Value → Shared → Prop} {s : Shared} {K : PySem.W.Frag} {x dx C f : Addr} {mA : Str → Option Value} {name : Str} {v : Value}
theorem get_map {expr : Bool} {Q : Value → Shared → Prop} (X : K.In s.heap) (I : ObjM s.heap x dx C mA) (hg : PySem.W.plainGet K C name = true) (hh : PySem.W.hasDictIn K C = true)
    (ha : PySem.W.findIn K (.ref C) name = some none) (hv : mA name = some v) (hv' : PySem.W.handedIn v = true) (h : Q v { s with toks := s.toks + 1 }) :
    wpAny (model prog w) A (getAttr (.ref x) name expr) Q E s := by
  obtain ⟨od, J, hl⟩ := I.look
  exact PySem.W.get_value X J (PySem.W.plainGet_of hg).1 (PySem.W.findObj_own hh ha rfl (by rw [hl, hv])) hv' h
theorem get_meth {pl : Sem Bool} {Q : Value × List Value → Shared → Prop} (X : K.In s.heap) (I : ObjM s.heap x dx C mA) (hg : PySem.W.plainGet K C name = true)
    (hf : PySem.W.findIn K (.ref C) name = some (some (.ref f))) (ht : PySem.W.isFn K (.ref f) = true) (hv : mA name = none) (h : Q (.ref f, [.ref x]) s) :
    wpAny (model prog w) A (getMethod (.ref x) name pl) Q E s := by
  obtain ⟨od, J, hl⟩ := I.look
  exact PySem.W.method_fn X J (PySem.W.plainGet_of hg).1 (PySem.W.plainGet_of hg).2 hf (beq_iff_eq.mp ht) (by show (PySem.W.lookIn name od).map (·.isSome) = some false; rw [hl, hv]; rfl) h
theorem set_map {ns : List Str} {Q : Unit → Shared → Prop} (X : K.In s.heap) (I : ObjM s.heap x dx C mA)
    (hs : PySem.W.findIn K (.ref C) "__setattr__" = some (some (.builtin "object.__setattr__"))) (hp : PySem.W.plainOver K C = true) (ht : PySem.W.takerIn K C name = some none) (hh : PySem.W.hasDictIn K C = true)
    (hw : PySem.Within mA ns) (hsz : ns.length ≤ sizeLine)
    (h : ∀ h', ObjM h' x dx C (fun y => if y = name then some v else mA y) → Heap.SameBut dx s.heap h' → Q () { s with heap := h', toks := s.toks + 2 }) :
    wpAny (model prog w) A (setAttr (.ref x) name v) Q E s := by
  obtain ⟨od, J, hl⟩ := I.look
  refine PySem.W.set_plain X J hs (PySem.W.osa_open (s := { s with toks := s.toks + 1 }) (r := none) X J hp ht fun b => ?_)
  obtain ⟨cd, hc, hd'⟩ := PySem.W.any_some hh
  have hx : s.heap.get? x = some ⟨.ref C, some dx, .plain, #[]⟩ := I.obj
  refine wpAny_bind (wpAny_pure (wpAny_bind (wpAny_bind (wpAny_loadPart hx (wpAny_bind (PySem.W.Looks.here (s := { s with toks := s.toks + 1 }) (PySem.W.looks_clsIn X hc) ?_))))))
  rw [hd']
  refine wpAny_pure (a := some dx) (wpAny_bind (wpAny_pure (wpAny_bind ?_)))
  refine wpAny_nsSet1 (s := { s with toks := s.toks + 1 }) I.ns fun h' hn2 hs2 => ?_
  obtain ⟨oD, esD, epD, hoD, hdD, hcD⟩ := hn2.count (PySem.Within.cons name v hw)
  refine wpAny_bind (wpAny_lookBehind hoD (by rw [hdD]; exact pastItsLine_dict (Nat.le_trans hcD (by rw [List.length_cons]; omega))) ?_)
  exact wpAny_pure (h _ ⟨(hs2.2 _ (Ne.symm I.ne)).trans I.obj, hn2, I.ne⟩ hs2)
/-- C(..): the dict at the heap's end, the instance behind it; then its __init__ -/
theorem make_map {R : Result → Shared → Prop} {vs : List Value} {kw : List (Str × Value)} (X : K.In s.heap) (hm : PySem.W.makesIn K C = true)
    (hi : PySem.W.findIn K (.ref C) "__init__" = some (some (.ref f))) (hf : PySem.W.typeIn K (.ref f) = some (.type "function"))
    (h : codeAny (model prog w) (A.under (.builtin "type.__call__" ⟨.ref C :: vs, kw⟩)) (.call (.ref f) ⟨.ref (s.heap.objs.size + 1) :: vs, kw⟩) (PySem.W.InitBack (s.heap.objs.size + 1) R)
      { s with heap := (s.heap.push PySem.W.emptyDict).push (PySem.W.instObj C s.heap.objs.size) }) :
    codeAny (model prog w) A (.call (.ref C) ⟨vs, kw⟩) R s := by
  obtain ⟨hh, g, d, t, os⟩ := s
  exact PySem.W.make_core (PySem.W.makes_of X hm) (PySem.W.looks_findIn X hi) (fun self => PySem.W.bind_fn X self hf) (.inl rfl) h
end
/-! ### the attributes as a list of pairs -/
def putF (f : Str) (v : V) : List (Str × V) → List (Str × V)
  | [] => [(f, v)]
  | (g, x) :: r => if g = f then (g, v) :: r else (g, x) :: putF f v r
theorem lookup_putF (f g : Str) (v : V) : ∀ fs : List (Str × V), (putF f v fs).lookup g = if g = f then some v else fs.lookup g
  | [] => by
    show List.lookup g [(f, v)] = _
    by_cases h : g = f
    · have hb : (g == f) = true := beq_iff_eq.mpr h
      simp only [List.lookup, hb, if_pos h]
    · have hb : (g == f) = false := beq_eq_false_iff_ne.mpr h
      simp only [List.lookup, hb, if_neg h]
  | (k, x) :: r => by
    have ih := lookup_putF f g v r
    rw [show putF f v ((k, x) :: r) = (if k = f then (k, v) :: r else (k, x) :: putF f v r) from rfl]
    by_cases hk : k = f
    · rw [if_pos hk]
      by_cases h : g = k
      · have hb : (g == k) = true := beq_iff_eq.mpr h
        simp only [List.lookup, hb, if_pos (h.trans hk)]
      · have hb : (g == k) = false := beq_eq_false_iff_ne.mpr h
        simp only [List.lookup, hb, if_neg (fun e : g = f => h (e.trans hk.symm))]
    · rw [if_neg hk]
      by_cases h : g = k
      · have hb : (g == k) = true := beq_iff_eq.mpr h
        simp only [List.lookup, hb, if_neg (fun e : g = f => hk (h.symm.trans e))]
      · have hb : (g == k) = false := beq_eq_false_iff_ne.mpr h
        simp only [List.lookup, hb]
        exact ih
theorem keys_putF (f : Str) (v : V) : ∀ fs : List (Str × V), f ∈ (putF f v fs).map (·.1) ∧ ∀ g, g ∈ fs.map (·.1) → g ∈ (putF f v fs).map (·.1)
  | [] => ⟨by simp [putF], fun g h => by simp at h⟩
  | (k, x) :: r => by
    obtain ⟨i1, i2⟩ := keys_putF f v r
    rw [show putF f v ((k, x) :: r) = (if k = f then (k, v) :: r else (k, x) :: putF f v r) from rfl]
    by_cases hk : k = f
    · rw [if_pos hk]
      subst hk
      exact ⟨by simp, fun g h => by simpa using h⟩
    · rw [if_neg hk]
      refine ⟨?_, fun g h => ?_⟩
      · rw [List.map_cons]
        exact List.mem_cons_of_mem _ i1
      · rw [List.map_cons] at h ⊢
        rcases List.mem_cons.mp h with e | e
        · exact List.mem_cons.mpr (.inl e)
        · exact List.mem_cons_of_mem _ (i2 g e)
theorem length_putF (f : Str) (v : V) : ∀ fs : List (Str × V), (putF f v fs).length ≤ fs.length + 1
  | [] => by simp [putF]
  | (k, x) :: r => by
    have ih := length_putF f v r
    rw [show putF f v ((k, x) :: r) = (if k = f then (k, v) :: r else (k, x) :: putF f v r) from rfl]
    by_cases hk : k = f
    · rw [if_pos hk, List.length_cons, List.length_cons]; omega
    · rw [if_neg hk, List.length_cons, List.length_cons]; omega
theorem RelO.some_of {v : V} {o : Option Value} (r : RelO (some v) o) : ∃ u, o = some u ∧ RelV v u := by
  cases o with
  | none => exact (show False from r).elim
  | some u => exact ⟨u, rfl, r⟩
theorem RelO.none_of {o : Option Value} (r : RelO none o) : o = none := by
  cases o with
  | none => rfl
  | some u => exact (show False from r).elim
theorem handed_of {v : V} {u : Value} (r : RelV v u) : PySem.W.handedIn u = true := by
  cases v with
  | non => cases (show u = Value.none from r); rfl
  | bl b => cases (show u = Value.bool b from r); rfl
  | int i => obtain ⟨t, e⟩ := (show ∃ t, u = Value.int i t from r); cases e; rfl
  | str x => obtain ⟨t, e⟩ := (show ∃ t, u = Value.str x t from r); cases e; rfl
  | byt b => obtain ⟨t, e⟩ := (show ∃ t, u = Value.bytes b t from r); cases e; rfl
  | flt b => obtain ⟨t, e⟩ := (show ∃ t, u = Value.float b t from r); cases e; rfl
  | ref a => cases (show u = Value.ref a from r); rfl
  | ty n => cases (show u = Value.type n from r); rfl
section
variable {P : Program} {w : World} {H H' : Hp} {h h' : Heap} {a C dx : Addr} {fs fs' : List (Str × V)}
theorem ins_get (hok : HOk P w H h) (e : H a = some (.ins C dx fs)) : ∃ mA, ObjM h a dx C mA ∧ (∀ f, RelO (fs.lookup f) (mA f)) ∧ PySem.Within mA (fs.map (·.1)) ∧ fs.length ≤ 1000 ∧ H dx = some (.own a) := by
  obtain ⟨d, z, ne, ob, mA, n, r, q⟩ := (show ObjOk P w H h a (.ins C dx fs) from hok a _ e)
  exact ⟨mA, ⟨ob, n, ne⟩, r, q, z, d⟩
end
/-! ### what of the text a class must have -/
structure Cls (K : PySem.W.Frag) (C : Addr) : Prop where
  pg : PySem.W.plainGet K C Str.empty = true
  hd : PySem.W.hasDictIn K C = true
  po : PySem.W.plainOver K C = true
  sa : PySem.W.findIn K (.ref C) "__setattr__" = some (some (.builtin "object.__setattr__"))
theorem Cls.get {K : PySem.W.Frag} {C : Addr} (c : Cls K C) (f : Str) : PySem.W.plainGet K C f = true := c.pg
/-- no class of it has the name -/
def NoAttr (K : PySem.W.Frag) (C : Addr) (f : Str) : Prop := PySem.W.findIn K (.ref C) f = some none
theorem NoAttr.taker {K : PySem.W.Frag} {C : Addr} {f : Str} (n : NoAttr K C f) : PySem.W.takerIn K C f = some none := by
  unfold PySem.W.takerIn
  rw [show PySem.W.findIn K (.ref C) f = some none from n]
  rfl
/-- a constant of the class -/
structure Con (K : PySem.W.Frag) (C : Addr) (f : Str) (v : V) (u : Value) : Prop where
  at_ : PySem.W.findIn K (.ref C) f = some (some u)
  rel : RelV v u
  get : PySem.W.specialIn K u "__get__" = some none
  cp : PySem.W.copiedNames.contains f = false
/-- a method: a plain def of the class or of one above it -/
structure Meth (K : PySem.W.Frag) (C : Addr) (m : Str) (f : Addr) : Prop where
  at_ : PySem.W.findIn K (.ref C) m = some (some (.ref f))
  fn : PySem.W.isFn K (.ref f) = true
  kp : PySem.W.keepIn K (.ref f) = true
section
variable {X : Cx} {pins : List (Addr × Obj)} {σ : St} {H : Hp} {s : Shared} {a C dx : Addr} {fs : List (Str × V)} {f : Str} {v : V} {A : Around} {E : Value → Shared → Prop}
theorem getattr_ok {b : Bool} {Q : Value → Shared → Prop} (I : Inv X pins σ H s) (e : H a = some (.ins C dx fs)) (c : Cls X.K C) (n : NoAttr X.K C f) (l : fs.lookup f = some v)
    (h : ∀ u s', Inv X pins σ H s' → RelV v u → Q u s') : wpAny (model X.prog X.w) A (getAttr (.ref a) f b) Q E s := by
  obtain ⟨mA, O, r, _, _, _⟩ := ins_get I.hok e
  obtain ⟨u, hu, ru⟩ := RelO.some_of (v := v) (o := mA f) (by rw [← l]; exact r f)
  exact get_map I.kIn O (c.get f) c.hd n hu (handed_of ru) (h u _ (I.tok _) ru)
theorem getmeth_ok {m : Str} {g : Addr} {pl : Sem Bool} {Q : Value × List Value → Shared → Prop} (I : Inv X pins σ H s) (e : H a = some (.ins C dx fs)) (c : Cls X.K C) (k : Meth X.K C m g) (l : fs.lookup m = none)
    (h : Q (.ref g, [.ref a]) s) : wpAny (model X.prog X.w) A (getMethod (.ref a) m pl) Q E s := by
  obtain ⟨mA, O, r, _, _, _⟩ := ins_get I.hok e
  have hn : mA m = none := RelO.none_of (by rw [← l]; exact r m)
  exact get_meth I.kIn O (c.get m) k.at_ k.fn hn h
theorem setattr_ok {y : V} {u : Value} {Q : Unit → Shared → Prop} (I : Inv X pins σ H s) (e : H a = some (.ins C dx fs)) (c : Cls X.K C) (n : NoAttr X.K C f) (hl : fs.length < 1000) (ry : RelV y u)
    (h : ∀ s', Inv X pins σ (upd H a (.ins C dx (putF f y fs))) s' → Q () s') : wpAny (model X.prog X.w) A (setAttr (.ref a) f u) Q E s := by
  obtain ⟨mA, O, r, wi, _, ho⟩ := ins_get I.hok e
  have hz : (fs.map (·.1)).length ≤ sizeLine := by rw [List.length_map, sizeLine_eq]; omega
  refine set_map I.kIn O c.sa c.po n.taker c.hd wi hz fun h' O' sb => h _ ?_
  have hd : ∃ o, h'.get? dx = some o := let ⟨o, _, _, e', _⟩ := O'.ns; ⟨o, e'⟩
  refine I.write (x := a) (e := dx) (by rw [e]; exact True.intro) (.inr ho) (fun b q hb z => (sb.2 b hb).trans z) hd ?_
  refine ⟨by rw [upd_ne O.ne]; exact ho, ?_, O.ne, O'.obj, _, O'.ns, fun g => ?_, fun g hg => ?_⟩
  · have := length_putF f y fs; omega
  · show RelO ((putF f y fs).lookup g) (if g = f then some u else mA g)
    rw [lookup_putF]
    by_cases q : g = f
    · rw [if_pos q, if_pos q]; exact ry
    · rw [if_neg q, if_neg q]; exact r g
  · by_cases q : g = f
    · rw [q]; exact (keys_putF f y fs).1
    · refine (keys_putF f y fs).2 g (wi g fun z => hg ?_)
      show (if g = f then some u else mA g) = none
      rw [if_neg q]; exact z
/-- a new instance, tracked, without attributes -/
theorem Inv.made (I : Inv X pins σ H s) : Inv X pins σ (upd (upd H s.heap.objs.size (.own (s.heap.objs.size + 1))) (s.heap.objs.size + 1) (.ins C s.heap.objs.size []))
    { s with heap := (s.heap.push PySem.W.emptyDict).push (PySem.W.instObj C s.heap.objs.size) } := by
  have e1 : (s.heap.push PySem.W.emptyDict).get? s.heap.objs.size = some PySem.W.emptyDict := Heap.get?_push_size s.heap rfl
  have e2 : ((s.heap.push PySem.W.emptyDict).push (PySem.W.instObj C s.heap.objs.size)).get? (s.heap.objs.size + 1) = some (PySem.W.instObj C s.heap.objs.size) := by
    have := Heap.get?_push_size (s.heap.push PySem.W.emptyDict) (o := PySem.W.instObj C s.heap.objs.size) rfl
    rwa [Heap.size_push] at this
  have e3 : (s.heap.push PySem.W.emptyDict).Ns s.heap.objs.size (fun _ => none) := ⟨PySem.W.emptyDict, #[], _, e1, rfl, (fun e he => absurd he (by simp)), fun _ => rfl⟩
  have I1 := I.laid (a := s.heap.objs.size) (o := .own (s.heap.objs.size + 1)) (h' := s.heap.push PySem.W.emptyDict) (t' := s.toks) (fun b u q => Heap.get?_push_of_some _ q) (Nat.le_refl _) ⟨_, e1⟩
  refine I1.laid (a := s.heap.objs.size + 1) (o := .ins C s.heap.objs.size []) (t' := s.toks) (fun b u q => Heap.get?_push_of_some _ q) (Nat.le_of_eq (Heap.size_push _ _)) ?_
  have ne : s.heap.objs.size ≠ s.heap.objs.size + 1 := Nat.ne_of_lt (Nat.lt_succ_self _)
  refine ⟨by rw [upd_ne ne, upd_same], Nat.zero_le _, ne, e2, fun _ => none, (Heap.Ns1.of_empty e3).at fun o q => Heap.get?_push_of_some _ q, fun _ => True.intro, fun y hy => absurd rfl hy⟩
/-- e.f where nothing but the object is asked: through attributeBase (super) and the last hold -/
theorem attr_of {prog : Program} {w : World} {env : Env} {e : Expr} {f : Str} {pos : Pos} {s : Shared} {Q : Value → Shared → Prop} (hb : attributeBase e f env (eval e env) = eval e env)
    (h : wpAny (model prog w) A (eval e env) (fun o s₁ => wpAny (model prog w) A (getAttr o f true) Q E s₁) E s) : wpAny (model prog w) A (eval (.Attribute e f pos) env) Q E s :=
  Attribute_any_ h (by rw [arm_eval_Attribute, hb])
end
/-! ### readings and rules -/
/-- e.f, an attribute of the instance -/
def tFld (K : PySem.W.Frag) (ta : TE) (f : Str) : TE := fun σ H Q => ta σ H fun x H1 => ∃ a C dx fs v, x = .ref a ∧ H1 a = some (.ins C dx fs) ∧ Cls K C ∧ NoAttr K C f ∧ fs.lookup f = some v ∧ Q v H1
/-- e.f, a constant of the class -/
def tCon (K : PySem.W.Frag) (ta : TE) (f : Str) : TE := fun σ H Q => ta σ H fun x H1 => ∃ a C dx fs v u, x = .ref a ∧ H1 a = some (.ins C dx fs) ∧ Cls K C ∧ Con K C f v u ∧ fs.lookup f = none ∧ Q v H1
/-- e.f = value -/
def sFld (K : PySem.W.Frag) (ta tv : TE) (f : Str) : TS := fun D σ H => tv σ H fun y H1 => ta σ H1 fun x H2 => ∃ a C dx fs, x = .ref a ∧ H2 a = some (.ins C dx fs) ∧ Cls K C ∧ NoAttr K C f ∧ fs.length < 1000 ∧
  D.nx σ (upd H2 a (.ins C dx (putF f y fs)))
/-- an augmented operator on two values -/
def InOp (X : Cx) (op : Operator) (rd : V → V → Hp → VK → Prop) : Prop :=
  ∀ (pins : List (Addr × Obj)) (s : Shared) (σ : St) (H : Hp) (x y : V) (u v : Value) (Q : VK), Inv X pins σ H s → RelV x u → RelV y v → rd x y H Q → wpAny (model X.prog X.w) X.A (inplaceOp op u v) (EP X pins σ Q) X.xe s
/-- e.f op= value -/
def sFldAug (K : PySem.W.Frag) (ta tv : TE) (rd : V → V → Hp → VK → Prop) (f : Str) : TS := fun D σ H => ta σ H fun x H1 => ∃ a C dx fs v, x = .ref a ∧ H1 a = some (.ins C dx fs) ∧ Cls K C ∧ NoAttr K C f ∧ fs.lookup f = some v ∧
  tv σ H1 fun y H2 => rd v y H2 fun z H3 => ∃ dx' fs', H3 a = some (.ins C dx' fs') ∧ fs'.length < 1000 ∧ D.nx σ (upd H3 a (.ins C dx' (putF f z fs')))
section
variable {X : Cx} {o e value : Expr} {f : Str} {pos pos' tpos : Pos} {ta tv : TE}
theorem pe_fld (he : PE X e ta) (hb : attributeBase e f X.env (eval e X.env) = eval e X.env) : PE X (.Attribute e f pos) (tFld X.K ta f) := by
  intro pins s σ H Q I h
  refine attr_of hb (thn (he pins s σ H _ I h) fun u s1 ⟨x, H1, I1, rx, a, C, dx, fs, v, ex, ea, c, n, l, q⟩ => ?_)
  subst ex
  obtain rfl : u = Value.ref a := rx
  exact getattr_ok I1 ea c n l fun u' s2 I2 ru => ⟨v, H1, I2, ru, q⟩
theorem ps_fld (ha : PE X o ta) (hv : PE X value tv) (hs : swapsWith value (some (.Attribute o f pos')) pos.line X.env = pure false) : PS X (.Assign [.Attribute o f pos'] value pos) (sFld X.K ta tv f) := by
  intro pins s σ H D I h
  refine plainObj_wpAny_Assign_Attribute (thn (hv pins s σ H _ I h) fun u s1 ⟨y, H1, I1, ry, q⟩ => thn (ha pins s1 σ H1 _ I1 q) fun ov s2 ⟨x, H2, I2, rx, a, C, dx, fs, ex, ea, c, n, l, q2⟩ => ?_) hs
  subst ex
  obtain rfl : ov = Value.ref a := rx
  exact setattr_ok I2 ea c n l ry fun s3 I3 => ⟨σ, _, I3, q2⟩
def rAdd : V → V → Hp → VK → Prop := fun x y H Q => ∃ i j, x = .int i ∧ y = .int j ∧ Q (.int (i + j)) H
def rSub : V → V → Hp → VK → Prop := fun x y H Q => ∃ i j, x = .int i ∧ y = .int j ∧ Q (.int (i - j)) H
/-- what is between an instance and its method: the tree of a method call -/
theorem methcall_of {pl : Sem Bool} {m : Str} {apos : Pos} {args : List Expr} {pins : List (Addr × Obj)} {s : Shared} {σ : St} {H : Hp} {Q : Value → Shared → Prop} {te : TE} (he : PE X e te) (I : Inv X pins σ H s)
    (h : te σ H fun x H1 => ∃ a C dx fs g, x = .ref a ∧ H1 a = some (.ins C dx fs) ∧ Cls X.K C ∧ Meth X.K C m g ∧ fs.lookup m = none ∧
      ∀ s1, Inv X pins σ H1 s1 → wpAny (model X.prog X.w) X.A (callWith pos (.ref g) [.ref a] (backTo pos (starEach args X.env)) (backToKw pos (keywordEach [] X.env))) Q X.xe s1)
    (ht : eval (.Call (.Attribute e m apos) args [] pos) X.env = (do
      let ov ← eval e X.env
      standAt apos.atName
      let (f, first) ← holding [ov] (getMethod ov m pl)
      callWith pos f first (backTo pos (starEach args X.env)) (backToKw pos (keywordEach [] X.env)))) :
    wpAny (model X.prog X.w) X.A (eval (.Call (.Attribute e m apos) args [] pos) X.env) Q X.xe s := by
  refine PySem.W.methodCall_KW (pl := pl) (thn (he pins s σ H _ I h) fun u s1 ⟨x, H1, I1, rx, a, C, dx, fs, g, ex, ea, c, k, l, q⟩ => ?_) ht
  subst ex
  obtain rfl : u = Value.ref a := rx
  exact getmeth_ok I1 ea c k l (q s1 I1)
end
/-! ### isinstance -/
section
variable {X : Cx} {pins : List (Addr × Obj)} {σ : St} {H : Hp} {s : Shared} {A : Around} {E : Value → Shared → Prop} {Q : Value → Shared → Prop} {c : Value} {b : Bool}
/-- the type of a value, as the fragment's deciders take it; for an instance its class -/
inductive TyOf (K : PySem.W.Frag) (H : Hp) : V → Value → Prop where
  | non : TyOf K H .non (.type "NoneType")
  | bl (x : Bool) : TyOf K H (.bl x) (.type "bool")
  | int (i : Int) : TyOf K H (.int i) (.type "int")
  | str (x : Str) : TyOf K H (.str x) (.type "str")
  | flt (x : UInt64) : TyOf K H (.flt x) (.type "float")
  | lst {a : Addr} {xs : List V} (e : H a = some (.lst xs)) : TyOf K H (.ref a) (.type "list")
  | frz {a : Addr} {o : Obj} {xs : List V} (e : H a = some (.frz o (.lst xs))) : TyOf K H (.ref a) (.type "list")
  | tup {a : Addr} {xs : List V} (e : H a = some (.tup xs)) : TyOf K H (.ref a) (.type "tuple")
  | dK {a : Addr} {kvs : List (Key × V)} (e : H a = some (.dK kvs)) : TyOf K H (.ref a) (.type "dict")
  | dT {a : Addr} {kvs : List (List Key × V)} (e : H a = some (.dT kvs)) : TyOf K H (.ref a) (.type "dict")
  | ins {a C dx : Addr} {fs : List (Str × V)} (e : H a = some (.ins C dx fs)) (cl : Cls K C) (ha : PySem.W.findIn K (.ref C) "__class__" = some (some (.builtin "object.__class__")))
      (hn : PySem.W.specialIn K (.builtin "object.__class__") "__get__" = some (some (.builtin "getset_descriptor.__get__"))) (htk : PySem.W.takesIn K (.builtin "object.__class__") = some true)
      (hm : PySem.W.mroIn K C (.type "object") = some true) : TyOf K H (.ref a) (.ref C)
/-- isinstance(x, c) for one class c, a built-in or an own one: kitOne's answer -/
theorem isinst_ok {x : V} {u t : Value} (I : Inv X pins σ H s) (rx : RelV x u) (ty : TyOf X.K H x t) (e : PySem.W.kitOne X.K t c = some b) (h : ∀ tk, Q (.bool b) { s with toks := tk }) :
    wpAny (model X.prog X.w) A (call (.builtin "isinstance") [u, c]) Q E s := by
  cases ty with
  | non => cases (show u = Value.none from rx); exact PySem.W.kia_one PySem.W.kitx_none I.kIn True.intro e (fun z => nomatch z) h
  | bl y => cases (show u = Value.bool y from rx); exact PySem.W.kia_one PySem.W.kitx_bool I.kIn True.intro e (fun z => nomatch z) h
  | int i => obtain ⟨t, q⟩ := (show ∃ t, u = Value.int i t from rx); cases q; exact PySem.W.kia_one PySem.W.kitx_int I.kIn True.intro e (fun z => nomatch z) h
  | str y => obtain ⟨t, q⟩ := (show ∃ t, u = Value.str y t from rx); cases q; exact PySem.W.kia_one PySem.W.kitx_str I.kIn True.intro e (fun z => nomatch z) h
  | flt y => obtain ⟨t, q⟩ := (show ∃ t, u = Value.float y t from rx); cases q; exact PySem.W.kia_one PySem.W.kitx_float I.kIn True.intro e (fun z => nomatch z) h
  | @lst a xs ea =>
    cases (show u = Value.ref a from rx)
    obtain ⟨_, _, n, _, h1⟩ := (show ObjOk X.prog X.w H s.heap a (.lst xs) from I.hok a _ ea)
    exact PySem.W.kia_one PySem.W.kitx_list I.kIn ⟨_, h1, rfl⟩ e (fun z => nomatch z) h
  | @frz a ob xs ea =>
    cases (show u = Value.ref a from rx)
    obtain ⟨_, _, _, n, _, h1⟩ := (show ObjOk X.prog X.w H s.heap a (.frz ob (.lst xs)) from I.hok a _ ea)
    exact PySem.W.kia_one PySem.W.kitx_list I.kIn ⟨_, h1, rfl⟩ e (fun z => nomatch z) h
  | @tup a xs ea =>
    cases (show u = Value.ref a from rx)
    obtain ⟨_, _, _, p⟩ := (show ObjOk X.prog X.w H s.heap a (.tup xs) from I.hok a _ ea)
    obtain ⟨o, h1, h2, _⟩ := p
    exact PySem.W.kia_one PySem.W.kitx_tuple I.kIn ⟨o, h1, h2⟩ e (fun z => nomatch z) h
  | @dK a kvs ea =>
    cases (show u = Value.ref a from rx)
    obtain ⟨_, _, vs, _, p⟩ := (show ObjOk X.prog X.w H s.heap a (.dK kvs) from I.hok a _ ea)
    obtain ⟨o, es, ep, h1, h2, _⟩ := p
    exact PySem.W.kia_one PySem.W.kitx_dict I.kIn ⟨o, h1, h2.1⟩ e (fun z => nomatch z) h
  | @dT a kvs ea =>
    cases (show u = Value.ref a from rx)
    obtain ⟨_, _, xs, _, o, es, ep, h1, h2, _⟩ := (show ObjOk X.prog X.w H s.heap a (.dT kvs) from I.hok a _ ea)
    exact PySem.W.kia_one PySem.W.kitx_dict I.kIn ⟨o, h1, h2.1⟩ e (fun z => nomatch z) h
  | @ins a C dx fs ea cl ha hn htk hm =>
    cases (show u = Value.ref a from rx)
    obtain ⟨mA, O, _⟩ := ins_get I.hok ea
    obtain ⟨od, J, _⟩ := O.look
    exact PySem.W.kia_one (PySem.W.kitx_own (cl.get _) cl.hd ha hn htk hm) I.kIn J e (fun z => nomatch z) h
end
end L2
namespace L2
open PySem PySem.Spec PyProof.Rows
/-! ### room -/
structure Room (k : Nat) (A : Around) : Prop where
  hd : A.handled = none
  dp : A.depth + 3 * k + 5 < recursionLimit
  un : A.units + 16 * k + 200 < cLine
theorem Room.mono {j k : Nat} {A : Around} (r : Room k A) (h : j ≤ k) : Room j A := ⟨r.hd, by have := r.dp; omega, by have := r.un; omega⟩
theorem Room.deeper {k : Nat} {A : Around} (r : Room (k + 1) A) (env : Env) : Room k (A.deeper env) :=
  ⟨r.hd, by have := r.dp; show A.depth + 1 + 3 * k + 5 < _; omega, by have := r.un; show A.units + 3 + 16 * k + 200 < _; omega⟩
theorem Room.in1 {k : Nat} {A : Around} (r : Room (k + 1) A) : Room k A.in1 :=
  ⟨r.hd, by have := r.dp; show A.depth + 3 * k + 5 < _; omega, by have := r.un; show A.units + 1 + 16 * k + 200 < _; omega⟩
theorem make_depth {A : Around} {C : Addr} {us : List Value} {kw : List (Str × Value)} : (A.under (.builtin "type.__call__" ⟨.ref C :: us, kw⟩)).depth = A.depth + 1 := by
  first | rfl | simp [Around.under, Code.weight, Code.isCreation, Code.isGuard, Code.isCaller, Code.frames, Code.isFrame, guardIds]
theorem make_units {A : Around} {C : Addr} {us : List Value} {kw : List (Str × Value)} : (A.under (.builtin "type.__call__" ⟨.ref C :: us, kw⟩)).units = A.units + 1 := by
  first | rfl | simp [Around.under, Code.cUnits, Code.frames, Code.isFrame]
theorem Room.make {k : Nat} {A : Around} (r : Room (k + 1) A) (C : Addr) (us : List Value) (kw : List (Str × Value)) : Room k (A.under (.builtin "type.__call__" ⟨.ref C :: us, kw⟩)) :=
  ⟨r.hd, by have := r.dp; rw [make_depth]; omega, by have := r.un; rw [make_units]; omega⟩
theorem Room.depth {k : Nat} {A : Around} (r : Room k A) : A.depth < recursionLimit := by have := r.dp; omega
theorem Room.units {k : Nat} {A : Around} (r : Room k A) : A.units + 64 < cLine := by have := r.un; omega
/-! ### argument lists and displays -/
def tNil : TA := fun _ H Q => Q [] H
def tCons (ta : TE) (tr : TA) : TA := fun σ H Q => ta σ H fun x H1 => tr σ H1 fun xs H2 => Q (x :: xs) H2
section
variable {X : Cx} {e : Expr} {es : List Expr} {te : TE} {t : TA} {pos : Pos}
theorem pa_nil : PA X [] tNil := fun _ _ _ _ H Q I h => Calls.spliced_nil ⟨[], H, I, .nil, h⟩
theorem pa_cons (ha : PE X e te) (hr : PA X es t) (hs : starEach (e :: es) X.env = (false, eval e X.env) :: starEach es X.env := by rfl) : PA X (e :: es) (tCons te t) := by
  intro pos pins s σ H Q I h
  rw [hs]
  show wpAny _ _ (spliced ((false, eval e X.env) :: backTo pos (starEach es X.env))) _ _ s
  refine Calls.spliced_cons (thn (ha pins s σ H _ I h) fun u s1 ⟨x, H1, I1, r1, q1⟩ => ?_)
  exact thn (hr pos pins s1 σ H1 _ I1 q1) fun us s2 ⟨xs, H2, I2, r2, q2⟩ => ⟨x :: xs, H2, I2, .cons r1 r2, q2⟩
/-- a tuple, a list of written items -/
def tTup (t : TA) : TE := fun σ H Q => t σ H fun xs H1 => xs.length ≤ sizeLine ∧ ∀ p, H1 p = none → Q (.ref p) (upd H1 p (.tup xs))
def tLst (t : TA) : TE := fun σ H Q => t σ H fun xs H1 => xs.length ≤ sizeLine ∧ ∀ p, H1 p = none → Q (.ref p) (upd H1 p (.lst xs))
end
/-! ### what a def promises -/
/-- a def's promise: the bound arguments in the parameters' order, the heap, the wanted end, the wanted exception -/
abbrev Sp := List V → Hp → VK → XK → Prop
/-- how an exception lies behind a call (file 08 gives it): the callers' frames, abstract heap and state ahead of the call, the wish, the exception, the state -/
abbrev CXT := List Env → Hp → Shared → XK → Value → Shared → Prop
/-- the state at a call -/
structure Env0 (P : Program) (w : World) (K : PySem.W.Frag) (mg : Str → Option Value) (base : Heap) (A : Around) (outer : List Env) (s : Shared) (H : Hp) : Prop where
  frames : A.frames = some outer
  mod : Mod K mg base
  bs : ∀ b o, base.get? b = some o → s.heap.get? b = some o ∧ H b = none
  bsz : base.objs.size ≤ s.heap.objs.size
  funs : s.heap.FunFrames base outer
  frf : ∀ b ∈ frs outer, H b = none
  hok : HOk P w H s.heap
  bare : AllBare s.gens
/-- a call's end -/
def CE (outer : List Env) (P : Program) (w : World) (H : Hp) (s : Shared) (Q : VK) (u : Value) (s' : Shared) : Prop :=
  ∃ v H', s'.os = s.os ∧ AllBare s'.gens ∧ Un (frs outer) [] H H' s.heap s'.heap ∧ HOk P w H' s'.heap ∧ RelV v u ∧ Q v H'
def CR (CX : CXT) (outer : List Env) (P : Program) (w : World) (H : Hp) (s : Shared) (Q : VK) (E : XK) (r : Result) (s' : Shared) : Prop :=
  match r with
  | .ok (.ret u) => CE outer P w H s Q u s'
  | .ok _ => False
  | .error e => CX outer H s E e s'
structure FnOk (P : Program) (w : World) (K : PySem.W.Frag) (mg : Str → Option Value) (base : Heap) (CX : CXT) (k : Nat) (f : Addr) (fd : FuncData) (ps : List Str) (sp : Sp) : Prop where
  len : ∀ vs H Q E, sp vs H Q E → vs.length = ps.length
  run : ∀ (A : Around) (outer : List Env) (s : Shared) (H : Hp) (args : Args) (us : List Value) (vs : List V) (Q : VK) (E : XK), Room k A → Env0 P w K mg base A outer s H → BindsTo s fd args (ps.zip us) → Vals vs us → sp vs H Q E →
    codeAny (model P w) A (.call (.ref f) args) (CR CX outer P w H s Q E) s
theorem FnOk.mono {P : Program} {w : World} {K : PySem.W.Frag} {mg : Str → Option Value} {base : Heap} {CX : CXT} {j k : Nat} {f : Addr} {fd : FuncData} {ps : List Str} {sp : Sp} (F : FnOk P w K mg base CX j f fd ps sp) (h : j ≤ k) :
    FnOk P w K mg base CX k f fd ps sp := ⟨F.len, fun A outer s H args us vs Q E hr => F.run A outer s H args us vs Q E (hr.mono h)⟩
/-- a weaker promise -/
theorem FnOk.imp {P : Program} {w : World} {K : PySem.W.Frag} {mg : Str → Option Value} {base : Heap} {CX : CXT} {k : Nat} {f : Addr} {fd : FuncData} {ps : List Str} {sp sp' : Sp} (F : FnOk P w K mg base CX k f fd ps sp)
    (h : ∀ vs H Q E, sp' vs H Q E → sp vs H Q E) : FnOk P w K mg base CX k f fd ps sp' :=
  ⟨fun vs H Q E q => F.len vs H Q E (h _ _ _ _ q), fun A outer s H args us vs Q E hr he hb hv hs => F.run A outer s H args us vs Q E hr he hb hv (h _ _ _ _ hs)⟩
theorem Env0.make {P : Program} {w : World} {K : PySem.W.Frag} {mg : Str → Option Value} {base : Heap} {A : Around} {outer : List Env} {s : Shared} {H : Hp} (e : Env0 P w K mg base A outer s H) (C : Addr) (us : List Value) (kw : List (Str × Value)) :
    Env0 P w K mg base (A.under (.builtin "type.__call__" ⟨.ref C :: us, kw⟩)) outer s H := ⟨by first | exact e.frames | (simpa [Around.under, Code.envs, Code.isFrame, pushEnvs] using e.frames), e.mod, e.bs, e.bsz, e.funs, e.frf, e.hok, e.bare⟩
theorem Env0.in1 {P : Program} {w : World} {K : PySem.W.Frag} {mg : Str → Option Value} {base : Heap} {A : Around} {outer : List Env} {s : Shared} {H : Hp} (e : Env0 P w K mg base A outer s H) :
    Env0 P w K mg base A.in1 outer s H := ⟨e.frames, e.mod, e.bs, e.bsz, e.funs, e.frf, e.hok, e.bare⟩
section
variable {X : Cx} {pins : List (Addr × Obj)} {σ : St} {H : Hp} {s s' : Shared}
/-- from a body: what a callee wants -/
theorem Inv.env0 (I : Inv X pins σ H s) : Env0 X.prog X.w X.K X.mg X.base X.A X.stack s H :=
  ⟨I.ok.frames, I.ok.mod, I.bs, Nat.le_trans I.ok.bsz I.sz, I.stack, I.stkFree, I.hok, I.bare⟩
/-- behind a call -/
theorem Inv.after {Q : VK} {u : Value} (I : Inv X pins σ H s) (h : CE X.stack X.prog X.w H s Q u s') : EP X pins σ Q u s' := by
  obtain ⟨v, H', os, bare, un, hok, r, q⟩ := h
  obtain ⟨hh, g, d, t, os'⟩ := s'
  obtain rfl : os' = s.os := os
  exact ⟨v, H', I.call (h' := hh) (g' := g) (d' := d) (t' := t) (ch := []) un hok bare (fun b z => absurd z (by simp)), r, q⟩
end
/-! ### calls -/
/-- f(..): the written arguments, then the defaults dvs; E: what is wanted of an exception -/
def tCall (sp : Sp) (dvs : List V) (E : XK) (t : TA) : TE := fun σ H Q => t σ H fun vs H1 => sp (vs ++ dvs) H1 Q E
/-- o.m(..) of an instance of the class at C -/
def tMeth (C : Addr) (m : Str) (sp : Sp) (dvs : List V) (E : XK) (ta : TE) (t : TA) : TE := fun σ H Q => ta σ H fun x H1 => ∃ a dx fs, x = .ref a ∧ H1 a = some (.ins C dx fs) ∧ fs.lookup m = none ∧
  t σ H1 fun vs H2 => sp (x :: (vs ++ dvs)) H2 Q E
/-- C(..): a new instance and its dict, then __init__ -/
def tMake (C : Addr) (sp : Sp) (dvs : List V) (E : XK) (t : TA) : TE := fun σ H Q => t σ H fun vs H1 => ∀ x dx, H1 x = none → H1 dx = none → dx ≠ x →
  sp (.ref x :: (vs ++ dvs)) (upd (upd H1 dx (.own x)) x (.ins C dx [])) (fun v H2 => v = .non ∧ Q (.ref x) H2) E
/-- how the parameters are bound: us the positional arguments, kw the keywords' values by name, ds the defaults that fill up -/
def Binds (K : PySem.W.Frag) (fd : FuncData) (ps : List Str) (ds : List Value) : Prop :=
  ∀ (s : Shared) (us : List Value), K.In s.heap → (us ++ ds).length = ps.length → BindsTo s fd ⟨us, []⟩ (ps.zip (us ++ ds))
/-- every parameter is given -/
theorem Binds.all {K : PySem.W.Frag} {fd : FuncData} {ps : List Str} (h : ∀ us : List Value, us.length = ps.length → bindArgs fd ⟨us, []⟩ = pure (ps.zip us)) : Binds K fd ps [] := fun s us _ hl => by
  rw [List.append_nil] at hl ⊢
  exact .of_eq (h us hl)
/-- an exception of a callee reaches what this body wants of exceptions -/
def Passes (CX : CXT) (X : Cx) (E : XK) : Prop := ∀ (pins : List (Addr × Obj)) (σ : St) (H : Hp) (s : Shared) (e : Value) (s' : Shared), Inv X pins σ H s → CX X.stack H s E e s' → X.xe e s'
section
variable {X : Cx} {CX : CXT} {k : Nat} {f C : Addr} {fd : FuncData} {ps : List Str} {sp : Sp} {dvs : List V} {ds : List Value} {E : XK} {x m : Str} {p pos apos : Pos} {e o : Expr} {es : List Expr} {ta : TE} {t : TA}
/-- the callee runs -/
theorem run_fn {pins : List (Addr × Obj)} {σ : St} {H : Hp} {s : Shared} {Q : VK} {us : List Value} {vs : List V} (F : FnOk X.prog X.w X.K X.mg X.base CX k f fd ps sp) (hr : Room k X.A) (hb : Binds X.K fd ps ds) (hd : Vals dvs ds) (hx : Passes CX X E)
    (I : Inv X pins σ H s) (r : Vals vs us) (h : sp (vs ++ dvs) H Q E) : wpAny (model X.prog X.w) X.A (call (.ref f) us) (EP X pins σ Q) X.xe s := by
  have r2 : Vals (vs ++ dvs) (us ++ ds) := r.append hd
  have hl : (us ++ ds).length = ps.length := by rw [← r2.length]; exact F.len _ _ _ _ h
  refine wpAny_call (codeAny_mono (F.run X.A X.stack s H ⟨us, []⟩ (us ++ ds) (vs ++ dvs) Q E hr I.env0 (hb s us I.kIn hl) r2 h) fun r s' hq => ?_)
  cases r with
  | error e => exact hx pins σ H s e s' I hq
  | ok fl =>
    cases fl with
    | ret u => exact I.after hq
    | next => exact False.elim hq
    | brk => exact False.elim hq
    | cont => exact False.elim hq
theorem pe_call (F : FnOk X.prog X.w X.K X.mg X.base CX k f fd ps sp) (hr : Room k X.A) (hg : Gl X x) (hm : X.mg x = some (.ref f)) (hk : PySem.W.keepIn X.K (.ref f) = true) (hb : Binds X.K fd ps ds) (hd : Vals dvs ds) (hx : Passes CX X E)
    (ha : PA X (e :: es) t) (hdb : (x == ("__debug__" : Str)) = false := by decide) (he : starEach (e :: es) X.env = (false, eval e X.env) :: starEach es X.env := by rfl) (hpl : (backTo pos (starEach es X.env)).any (·.1) = false := by rfl) :
    PE X (.Call (.Name x p) (e :: es) [] pos) (tCall sp dvs E t) := by
  intro pins s σ H Q I h
  refine wpAny_Call_Name_kw (ld_glob I hg hm ?_ hdb)
  refine PySem.W.callWith_K (h₀ := X.base) I.ok.mod.kin hk (thn (ha pos pins s σ H _ I h) fun us s1 ⟨vs, H1, I1, r, q⟩ => ⟨I1.kIn, ?_⟩) he hpl
  exact run_fn F hr hb hd hx I1 r q
/-- o.m(e, ..) -/
theorem pe_meth {pl : Sem Bool} (he : PE X o ta) (c : Cls X.K C) (hm : Meth X.K C m f) (F : FnOk X.prog X.w X.K X.mg X.base CX k f fd ps sp) (hr : Room k X.A) (hb : Binds X.K fd ps ds) (hd : Vals dvs ds) (hx : Passes CX X E) (ha : PA X (e :: es) t)
    (hst : starEach (e :: es) X.env = (false, eval e X.env) :: starEach es X.env := by rfl) (hpl : (backTo pos (starEach es X.env)).any (·.1) = false := by rfl)
    (ht : eval (.Call (.Attribute o m apos) (e :: es) [] pos) X.env = (do
      let ov ← eval o X.env
      standAt apos.atName
      let (f, first) ← holding [ov] (getMethod ov m pl)
      callWith pos f first (backTo pos (starEach (e :: es) X.env)) (backToKw pos (keywordEach [] X.env))) := by rfl) :
    PE X (.Call (.Attribute o m apos) (e :: es) [] pos) (tMeth C m sp dvs E ta t) := by
  intro pins s σ H Q I h
  refine PySem.W.methodCall_KW (pl := pl) (thn (he pins s σ H _ I h) fun u s1 ⟨x, H1, I1, rx, a, dx, fs, ex, ea, l, q⟩ => ?_) ht
  subst ex
  obtain rfl : u = Value.ref a := rx
  refine getmeth_ok I1 ea c hm l ?_
  refine PySem.W.callWith_K (first := [.ref a]) (h₀ := X.base) I.ok.mod.kin hm.kp (thn (ha pos pins s1 σ H1 _ I1 q) fun us s2 ⟨vs, H2, I2, r, q2⟩ => ⟨I2.kIn, ?_⟩) hst hpl
  exact run_fn (us := .ref a :: us) (vs := .ref a :: vs) F hr hb hd hx I2 (.cons rfl r) q2
/-- o.m() -/
theorem pe_meth0 {pl : Sem Bool} (he : PE X o ta) (c : Cls X.K C) (hm : Meth X.K C m f) (F : FnOk X.prog X.w X.K X.mg X.base CX k f fd ps sp) (hr : Room k X.A) (hb : Binds X.K fd ps ds) (hd : Vals dvs ds) (hx : Passes CX X E)
    (ht : eval (.Call (.Attribute o m apos) [] [] pos) X.env = (do
      let ov ← eval o X.env
      standAt apos.atName
      let (f, first) ← holding [ov] (getMethod ov m pl)
      callWith pos f first (backTo pos (starEach [] X.env)) (backToKw pos (keywordEach [] X.env))) := by rfl) :
    PE X (.Call (.Attribute o m apos) [] [] pos) (tMeth C m sp dvs E ta tNil) := by
  intro pins s σ H Q I h
  refine PySem.W.methodCall_KW (pl := pl) (thn (he pins s σ H _ I h) fun u s1 ⟨x, H1, I1, rx, a, dx, fs, ex, ea, l, q⟩ => ?_) ht
  subst ex
  obtain rfl : u = Value.ref a := rx
  refine getmeth_ok I1 ea c hm l ?_
  exact PySem.W.callWith_K0 (first := [.ref a]) I1.kIn hm.kp (run_fn (us := [.ref a]) (vs := [.ref a]) F hr hb hd hx I1 (.cons rfl .nil) q)
/-- what a class must have to be made -/
structure Mk (K : PySem.W.Frag) (C f : Addr) : Prop where
  makes : PySem.W.makesIn K C = true
  init : PySem.W.findIn K (.ref C) "__init__" = some (some (.ref f))
  fn : PySem.W.isFn K (.ref f) = true
  kp : PySem.W.keepIn K (.ref C) = true
theorem run_make {pins : List (Addr × Obj)} {σ : St} {H : Hp} {s : Shared} {Q : VK} {us : List Value} {vs : List V} (M : Mk X.K C f) (F : FnOk X.prog X.w X.K X.mg X.base CX k f fd ps sp) (hr : Room (k + 1) X.A) (hb : Binds X.K fd ps ds) (hd : Vals dvs ds)
    (hx : Passes CX X E) (I : Inv X pins σ H s) (r : Vals vs us)
    (h : ∀ x dx, H x = none → H dx = none → dx ≠ x → sp (.ref x :: (vs ++ dvs)) (upd (upd H dx (.own x)) x (.ins C dx [])) (fun v H2 => v = .non ∧ Q (.ref x) H2) E) :
    wpAny (model X.prog X.w) X.A (call (.ref C) us) (EP X pins σ Q) X.xe s := by
  have hq := h (s.heap.objs.size + 1) s.heap.objs.size (I.hok.fresh (Nat.le_succ _)) (I.hok.fresh (Nat.le_refl _)) (Nat.ne_of_lt (Nat.lt_succ_self _))
  have I2 := Inv.made (C := C) I
  have r2 : Vals (V.ref (s.heap.objs.size + 1) :: (vs ++ dvs)) (Value.ref (s.heap.objs.size + 1) :: (us ++ ds)) := .cons rfl (r.append hd)
  have hl : (Value.ref (s.heap.objs.size + 1) :: us ++ ds).length = ps.length := by
    have e := r2.length
    rw [F.len _ _ _ _ hq] at e
    exact e.symm
  refine wpAny_call (make_map (f := f) I.kIn M.makes M.init (beq_iff_eq.mp M.fn) (codeAny_mono (F.run _ X.stack _ _ ⟨Value.ref (s.heap.objs.size + 1) :: us, []⟩ (Value.ref (s.heap.objs.size + 1) :: (us ++ ds)) _ _ E (hr.make C us [])
    (I2.env0.make C us []) (hb _ (Value.ref (s.heap.objs.size + 1) :: us) I2.kIn hl) r2 hq) fun r s' hq' => ?_))
  cases r with
  | error e => exact hx pins σ _ _ e s' I2 hq'
  | ok fl =>
    cases fl with
    | ret u =>
      obtain ⟨v, H', I3, rv, ev, q3⟩ := I2.after hq'
      subst ev
      exact ⟨rv, ⟨V.ref (s.heap.objs.size + 1), H', I3, rfl, q3⟩⟩
    | next => exact False.elim hq'
    | brk => exact False.elim hq'
    | cont => exact False.elim hq'
end
/-! ### keywords -/
/-- the values of the keywords, from the left -/
def PK (X : Cx) (kws : List Keyword) (t : TA) : Prop :=
  ∀ (pos : Pos) (pins : List (Addr × Obj)) (s : Shared) (σ : St) (H : Hp) (Q : List V → Hp → Prop), Inv X pins σ H s → t σ H Q → wpAny (model X.prog X.w) X.A (evalAll ((backToKw pos (keywordEach kws X.env)).map (·.2))) (AP X pins σ Q) X.xe s
section
variable {X : Cx} {CX : CXT} {k : Nat} {f C : Addr} {fd : FuncData} {ps ks : List Str} {sp : Sp} {E : XK} {x m : Str} {p pos apos kpos : Pos} {e o : Expr} {es : List Expr} {kws : List Keyword} {te ta : TE} {t tk : TA} {nm : Option Str}
/-- how a call with keywords binds: g puts the positional values us and the keywords' values ws (names ks) in the parameters' order, defaults among them -/
structure KBinds (K : PySem.W.Frag) (fd : FuncData) (ps ks : List Str) (g : List Value → List Value → List Value) (gV : List V → List V → List V) : Prop where
  to : ∀ (s : Shared) (us ws : List Value), K.In s.heap → (g us ws).length = ps.length → BindsTo s fd ⟨us, ks.zip ws⟩ (ps.zip (g us ws))
  rel : ∀ {vs : List V} {us : List Value} {zs : List V} {ws : List Value}, Vals vs us → Vals zs ws → Vals (gV vs zs) (g us ws)
def tCallK (sp : Sp) (gV : List V → List V → List V) (E : XK) (t tk : TA) : TE := fun σ H Q => t σ H fun vs H1 => tk σ H1 fun zs H2 => sp (gV vs zs) H2 Q E
variable {g : List Value → List Value → List Value} {gV : List V → List V → List V}
end
/-! ### a def's body keeps its promise -/
/-- names: the parameters first -/
structure FnScope (N P : List Str) (sc : Scope) : Prop where
  kind : sc.kind = .function
  co : sc.isCoroutine = false
  gen : sc.isGenerator = false
  nd : N.Nodup
  pre : N.take P.length = P
  par : ∀ x ∈ P, sc.names.lookup x = some .local ∨ sc.names.lookup x = some .cell
  nofree : ∀ y ∈ sc.names, y.2 ≠ .free
theorem bindL_out {kindOf : Str → Option NameKind} {x : Str} : ∀ {binds : List (Str × Value)} {m : Str → Option Value}, (∀ v, (x, v) ∉ binds) → bindL kindOf binds m x = m x
  | [], _, _ => rfl
  | (n, v) :: r, m, h => by
    unfold bindL
    rw [bindL_out fun w hw => h w (List.mem_cons_of_mem _ hw)]
    split
    · have : x ≠ n := by rintro rfl; exact h v List.mem_cons_self
      simp [this]
    · rfl
theorem bindC_out {kindOf : Str → Option NameKind} {x : Str} : ∀ {binds : List (Str × Value)} {m : Str → Option Value}, (∀ v, (x, v) ∉ binds) → bindC kindOf binds m x = m x
  | [], _, _ => rfl
  | (n, v) :: r, m, h => by
    unfold bindC
    rw [bindC_out fun w hw => h w (List.mem_cons_of_mem _ hw)]
    split
    · rfl
    · have : x ≠ n := by rintro rfl; exact h v List.mem_cons_self
      simp [this]
theorem bindL_get {kindOf : Str → Option NameKind} {x : Str} {v : Value} : ∀ {P : List Str} {vs : List Value} {i : Nat} {m : Str → Option Value}, P.Nodup → P[i]? = some x → vs[i]? = some v → kindOf x = some .local →
    bindL kindOf (P.zip vs) m x = some v
  | [], _, _, _, _, h, _, _ => by simp at h
  | _ :: _, [], _, _, _, _, h, _ => by simp at h
  | p :: P, w :: vs, 0, m, nd, h1, h2, hk => by
    simp at h1 h2; subst h1; subst h2
    show bindL kindOf ((p, w) :: P.zip vs) m p = _
    unfold bindL
    rw [bindL_out fun v hv => (List.nodup_cons.mp nd).1 (List.of_mem_zip hv).1, if_pos hk]
    simp
  | p :: P, w :: vs, i + 1, m, nd, h1, h2, hk => by
    show bindL kindOf ((p, w) :: P.zip vs) m x = _
    unfold bindL
    exact bindL_get (i := i) (List.nodup_cons.mp nd).2 (by simpa using h1) (by simpa using h2) hk
theorem bindC_get {kindOf : Str → Option NameKind} {x : Str} {v : Value} : ∀ {P : List Str} {vs : List Value} {i : Nat} {m : Str → Option Value}, P.Nodup → P[i]? = some x → vs[i]? = some v → kindOf x ≠ some .local →
    bindC kindOf (P.zip vs) m x = some v
  | [], _, _, _, _, h, _, _ => by simp at h
  | _ :: _, [], _, _, _, _, h, _ => by simp at h
  | p :: P, w :: vs, 0, m, nd, h1, h2, hk => by
    simp at h1 h2; subst h1; subst h2
    show bindC kindOf ((p, w) :: P.zip vs) m p = _
    unfold bindC
    rw [bindC_out fun v hv => (List.nodup_cons.mp nd).1 (List.of_mem_zip hv).1, if_neg hk]
    simp
  | p :: P, w :: vs, i + 1, m, nd, h1, h2, hk => by
    show bindC kindOf ((p, w) :: P.zip vs) m x = _
    unfold bindC
    exact bindC_get (i := i) (List.nodup_cons.mp nd).2 (by simpa using h1) (by simpa using h2) hk
/-- the names' values at the entry -/
def start (N : List Str) (vs : List V) : St := vs.map some ++ List.replicate (N.length - vs.length) none
/-- the context of a def's body, at its entry; an exception leaves the frame, then lies as CX says -/
def cxOf (CX : CXT) (P : Program) (w : World) (K : PySem.W.Frag) (mg : Str → Option Value) (base : Heap) (N : List Str) (qual : Str) (scope : Scope) (f : Addr) (cd : Value) (A : Around) (outer : List Env) (s : Shared) (H : Hp) (E : XK) : Cx where
  prog := P
  w := w
  K := K
  mg := mg
  base := base
  A := A.deeper (envOfC qual scope s.heap.objs.size f cd)
  N := N
  s₀ := s
  H₀ := H
  env := envOfC qual scope s.heap.objs.size f cd
  outer := outer
  stack := envOfC qual scope s.heap.objs.size f cd :: outer
  ex := []
  calm := true
  fn := fun _ => true
  pn := []
  xe := fun e s' => wpAny (model P w) (A.deeper (envOfC qual scope s.heap.objs.size f cd)) (leaving (envOfC qual scope s.heap.objs.size f cd) e) (fun _ s'' => CX outer H s E e s'') (fun e' s'' => CX outer H s E e' s'') s'
theorem cell_has {sc : Scope} {n : Nat} {x : Str} (h : sc.names.lookup x = some .cell) : ∃ c, (cellsFrom n sc.names []).lookup x = some c := by
  have q := PySem.W.cellsFrom_some sc.names n [] (.inl h)
  exact Option.isSome_iff_exists.mp q
theorem inv_start {CX : CXT} {P : Program} {w : World} {K : PySem.W.Frag} {mg : Str → Option Value} {base : Heap} {N ps : List Str} {qual : Str} {scope : Scope} {f : Addr} {cd : Value} {A : Around} {outer : List Env} {s s1 : Shared} {H : Hp} {E : XK} {us : List Value} {vs : List V}
    (S : FnScope N ps scope) (hd : A.handled = none) (e0 : Env0 P w K mg base A outer s H) (hl : vs.length = ps.length) (r : Vals vs us)
    (x : InCallC s s.heap.objs.size (bindL (envOfC qual scope s.heap.objs.size f cd).kindOf (ps.zip us) fun _ => none) (cellsFrom (s.heap.objs.size + 1) scope.names []) (bindC (envOfC qual scope s.heap.objs.size f cd).kindOf (ps.zip us) fun _ => none) s1) :
    Inv (cxOf CX P w K mg base N qual scope f cd A outer s H E) [] (start N vs) H s1 := by
  have hpl : ps.length ≤ N.length := by have := congrArg List.length S.pre; rw [List.length_take] at this; omega
  obtain ⟨h1, tk, rfl, hk⟩ := x.done
  have noA : ∀ b : Addr, b ∉ (cxOf CX P w K mg base N qual scope f cd A outer s H E).ex := fun b z => absurd (show b ∈ ([] : List Addr) from z) (by simp)
  refine ⟨⟨e0.mod, S.kind, rfl, rfl, Nat.le_refl _, fun y z c h1 h2 => ?_, fun y hy => ?_, fun y c _ h => ?_, fun _ => hd, Around.frames_deeper e0.frames, .inr ⟨rfl, rfl⟩, fun b z => absurd z (noA b), e0.bs, e0.bsz, fun b _ _ => noA b, fun b z => absurd z (noA b), e0.funs, e0.frf⟩,
    rfl, e0.bare, Un.kept hk, ⟨_, x.toInCall.ns, fun i y v h1 h2 h3 => ?_⟩, fun y c h => ⟨_, x.cell y c h⟩, e0.hok.fresh (Nat.le_refl _), fun y c h => ?_, fun p hp => absurd (show p ∈ ([] : List (Addr × Obj)) from hp) (by simp), e0.hok.kept hk, ?_⟩
  · exact name_of_addr x.apart (PySem.mem_of_lookup h1) (PySem.mem_of_lookup h2)
  · have hy : scope.names.lookup y = some .cell ∨ scope.names.lookup y = some .free := hy
    rcases hy with hy | hy
    · exact cell_has hy
    · exact absurd rfl (S.nofree _ (PySem.mem_of_lookup hy))
  · exact Nat.le_of_lt (x.above y c (PySem.mem_of_lookup h))
  · have hi : i < vs.length := by
      unfold start at h2
      by_cases hi : i < vs.length
      · exact hi
      · rw [List.getElem?_append_right (by simpa using hi)] at h2
        rw [List.getElem?_replicate] at h2
        split at h2 <;> cases h2
    have ha : vs[i]? = some v := by
      unfold start at h2
      rw [List.getElem?_append_left (by simpa using hi), List.getElem?_map] at h2
      cases e : vs[i]? with
      | none => rw [e] at h2; cases h2
      | some a => rw [e] at h2; cases h2; rfl
    obtain ⟨u, hu, rv⟩ := r.get ha
    have hp : ps[i]? = some y := by
      rw [← S.pre, List.getElem?_take_of_lt (by omega)]; exact h1
    have ndP : ps.Nodup := by rw [← S.pre]; exact S.nd.sublist (List.take_sublist _ _)
    refine ⟨u, rv, ?_⟩
    rcases S.par y (List.mem_of_getElem? hp) with k | k
    · exact .inl ⟨k, bindL_get ndP hp hu k⟩
    · obtain ⟨c, e⟩ := cell_has (n := s.heap.objs.size + 1) k
      refine .inr ⟨.inl k, c, e, ?_⟩
      have q := x.cell y c e
      rw [bindC_get ndP hp hu (by show scope.names.lookup y ≠ _; rw [k]; decide)] at q
      exact q
  · exact e0.hok.fresh (Nat.le_of_lt (x.above y c (PySem.mem_of_lookup h)))
  · unfold start
    show _ = N.length
    rw [List.length_append, List.length_map, List.length_replicate]
    omega
/-- THE RULE: a def (or a method) of the text, by its body. The body's reading t is chosen for each entry; it is run at the parameters' values -/
theorem fn_of {CX : CXT} {P : Program} {w : World} {K : PySem.W.Frag} {mg : Str → Option Value} {base : Heap} {k : Nat} {f : Addr} {name qual : Str} {params : Arguments} {body : List Stmt} {scope : Scope} {dV kV doc pm cdv ct oc : Value} {an od : Option Addr}
    {osl : Array (Option Value)} {N ps : List Str} {sp : Sp} (lk : K.lookup f = some ⟨oc, od, .func (PySem.W.fnOf name qual params body scope dV kV doc pm an cdv ct), osl⟩) (hcd : PySem.W.codeIn K cdv qual = true) (S : FnScope N ps scope)
    (len : ∀ vs H Q E, sp vs H Q E → vs.length = ps.length)
    (hbody : ∀ (A : Around) (outer : List Env) (s : Shared) (H : Hp) (vs : List V) (Q : VK) (E : XK), Room k (A.deeper (envOfC qual scope s.heap.objs.size f cdv)) → sp vs H Q E →
      ∃ t, PSs (cxOf CX P w K mg base N qual scope f cdv A outer s H E) body t ∧ t { nx := fun _ H' => Q .non H', rt := Q } (start N vs) H) :
    FnOk P w K mg base CX (k + 1) f (PySem.W.fnOf name qual params body scope dV kV doc pm an cdv ct) ps sp := by
  refine ⟨len, fun A outer s H args us vs Q E hr e0 hb r hsp => ?_⟩
  have hl := len _ _ _ _ hsp
  have KX : K.In s.heap := e0.mod.kin.keeps fun b o e => (e0.bs b o e).1
  have lim : s.heap.NoLimit := e0.mod.nolimit.keeps fun b o e => (e0.bs b o e).1
  have hkind : ∀ y ∈ ps.zip us, scope.names.lookup y.1 = some .local ∨ (scope.names.lookup y.1 = some .cell ∧ ((cellsFrom (s.heap.objs.size + 1) scope.names []).lookup y.1).isSome = true) := fun ⟨n, v⟩ hy => by
    rcases S.par n (List.of_mem_zip hy).1 with q | q
    · exact .inl q
    · exact .inr ⟨q, PySem.W.cellsFrom_some _ _ _ (.inl q)⟩
  refine codeAny_call_function hr.depth (KX _ _ lk) rfl S.co S.gen rfl (PySem.W.codeRec_of KX hcd) (hb _ _ _ _ ?_)
  refine wpAny_newFunctionEnv_cells S.kind hkind fun env he s1 x => ?_
  subst he
  refine ⟨lim.keeps x.toInCall.keep, codeAny_func ?_⟩
  obtain ⟨t, ht, hq⟩ := hbody A outer s H vs Q E (hr.deeper _) hsp
  have I : Inv (cxOf CX P w K mg base N qual scope f cdv A outer s H E) [] (start N vs) H s1 := inv_start S hr.hd e0 hl r x
  refine wpAny_mono (ht [] s1 (start N vs) H _ I hq) (fun fl s' hs => ?_) fun e s' hs => hs
  have fin : ∀ {σ' : St} {H' : Hp} {v : V} {u : Value}, Inv (cxOf CX P w K mg base N qual scope f cdv A outer s H E) [] σ' H' s' → RelV v u → Q v H' → CE outer P w H s Q u s' :=
    fun {σ' H' v u} J rv q => ⟨v, H', J.os, J.bare, J.base, J.hok, rv, q⟩
  cases fl with
  | ret u =>
    obtain ⟨v, σ', H', J, rv, q⟩ := hs
    exact fin J rv q
  | next =>
    obtain ⟨σ', H', J, q⟩ := hs
    exact fin (v := V.non) (u := Value.none) J rfl q
  | brk =>
    obtain ⟨_, _, _, q⟩ := hs
    exact False.elim q
  | cont =>
    obtain ⟨_, _, _, q⟩ := hs
    exact False.elim q
end L2
namespace L2
open PySem PySem.Spec PyProof.Rows
section
variable {X : Cx} {x : Str} {p pos : Pos} {e : Expr} {es : List Expr} {t : TA} {id T : String} {r : List V → Hp → VK → Prop}
def tCB (r : List V → Hp → VK → Prop) (t : TA) : TE := fun σ H Q => t σ H fun vs H1 => r vs H1 Q
/-- f(e, ..), f a built-in function -/
theorem pe_callB (hc : CallR X (.builtin id) r) (hg : Gl X x) (hm : X.mg x = none) (hv : bootBuiltins x = some (.builtin id)) (ha : PA X (e :: es) t) (hn : x ≠ "__name__" := by decide) (hdb : (x == ("__debug__" : Str)) = false := by decide)
    (he : starEach (e :: es) X.env = (false, eval e X.env) :: starEach es X.env := by rfl) (hpl : (backTo pos (starEach es X.env)).any (·.1) = false := by rfl) : PE X (.Call (.Name x p) (e :: es) [] pos) (tCB r t) := by
  intro pins s σ H Q I h
  refine wpAny_Call_Name_kw (ld_blt I hg hm hv ?_ hn hdb)
  exact PyProof.Rows.callWith_builtin1 (thn (ha pos pins s σ H _ I h) fun us s1 ⟨vs, H1, I1, r1, q1⟩ => hc pins s1 σ H1 vs us Q I1 r1 q1) he hpl
/-- T(e, ..), T a built-in type -/
theorem pe_callTy (hc : CallR X (.type T) r) (hg : Gl X x) (hm : X.mg x = none) (hv : bootBuiltins x = some (.type T)) (ha : PA X (e :: es) t) (hn : x ≠ "__name__" := by decide) (hdb : (x == ("__debug__" : Str)) = false := by decide)
    (he : starEach (e :: es) X.env = (false, eval e X.env) :: starEach es X.env := by rfl) (hpl : (backTo pos (starEach es X.env)).any (·.1) = false := by rfl) : PE X (.Call (.Name x p) (e :: es) [] pos) (tCB r t) := by
  intro pins s σ H Q I h
  refine wpAny_Call_Name_kw (ld_blt I hg hm hv ?_ hn hdb)
  exact PyProof.Rows.callWith_type1 (thn (ha pos pins s σ H _ I h) fun us s1 ⟨vs, H1, I1, r1, q1⟩ => hc pins s1 σ H1 vs us Q I1 r1 q1) he hpl
end
end L2
namespace HT
open PySem PyProof.Rows
/-- t < u of tuples of ints -/
def lexLt : List Int → List Int → Bool
  | [], [] => false
  | [], _ :: _ => true
  | _ :: _, [] => false
  | x :: xs, y :: ys => if x = y then lexLt xs ys else decide (x < y)
section
open PySem.SeqAt
open PySem.AutoSeq1 (wpAny_loadPart')
open PySem.MeetsSeq PySem.MeetsSeq2 PySem.MeetsSeq3
end
section
variable {prog : Program} {w : World} {A : Around} {E : Value → Shared → Prop} {s : Shared}
/-! ### t[a:b], not the whole -/
/-- a slice's bound as a place among n (d where it is left out) -/
def sIx (n d : Nat) : Option Int → Nat
  | none => d
  | some v => if v < 0 then (v + (n : Int)).toNat else min v.toNat n
theorem sIx_none (n d : Nat) : sIx n d none = d := rfl
theorem sIx_nat (n d k : Nat) : sIx n d (some (k : Int)) = min k n := by
  show (if (k : Int) < 0 then ((k : Int) + (n : Int)).toNat else min (k : Int).toNat n) = min k n
  rw [if_neg (by omega), Int.toNat_natCast]
theorem sIx_le (n d : Nat) (hd : d ≤ n) (o : Option Int) : sIx n d o ≤ n := by
  cases o with
  | none => exact hd
  | some v =>
    show (if v < 0 then (v + (n : Int)).toNat else min v.toNat n) ≤ n
    by_cases hv : v < 0
    · rw [if_pos hv]; omega
    · rw [if_neg hv]; exact Nat.min_le_right _ _
theorem clip_eq (v : Int) (n d : Nat) : (if v < 0 then max (v + (n : Int)) 0 else min v (n : Int)) = ((sIx n d (some v) : Nat) : Int) := by
  show (if v < 0 then max (v + (n : Int)) 0 else min v (n : Int)) = (((if v < 0 then (v + (n : Int)).toNat else min v.toNat n) : Nat) : Int)
  by_cases hv : v < 0
  · simp only [if_pos hv]; omega
  · simp only [if_neg hv]; omega
theorem adjust_gen (lo hi : Option Int) (n : Nat) : Builtin.Slice.sliceAdjust lo hi 1 (n : Int) = (((sIx n 0 lo : Nat) : Int), ((sIx n n hi : Nat) : Int)) := by
  have h1 : ¬ ((1 : Int) < 0) := by omega
  unfold Builtin.Slice.sliceAdjust
  simp only [h1, if_false]
  refine Prod.ext ?_ ?_
  · cases lo with
    | none => rfl
    | some v => exact clip_eq v n 0
  · cases hi with
    | none => rfl
    | some v => exact clip_eq v n n
theorem places_gen (i j : Nat) : Builtin.Slice.slicePlaces (i : Int) (j : Int) 1 = j - i := by
  unfold Builtin.Slice.slicePlaces
  have h1 : (1 : Int) > 0 := by omega
  simp only [h1, if_true, Int.ediv_one]
  split <;> omega
theorem slicePart_ {v : Value} {o : Option Int} {Q : Option Int → Shared → Prop} (p : IsPart v o) (h : Q o s) : wpAny (model prog w) A (Builtin.Slice.slicePartIndex v) Q E s := by
  cases p with
  | none => exact slicePart_none h
  | int i t => exact slicePart_int h
theorem sliceApplied_gen {sl : Addr} {vl vu : Value} {lo hi : Option Int} {n : Nat} {Q : Int × Int × Nat → Shared → Prop} (hs : s.heap.IsSliceOf sl vl vu .none) (pl : IsPart vl lo) (pu : IsPart vu hi)
    (h : Q (((sIx n 0 lo : Nat) : Int), 1, sIx n n hi - sIx n 0 lo) s) : wpAny (model prog w) A (Builtin.Slice.sliceApplied (.ref sl) (pure (n : Int))) Q E s := by
  obtain ⟨os, hos, hcs, hds⟩ := id hs
  unfold Builtin.Slice.sliceApplied Builtin.Slice.sliceFields
  refine wpAny_bind (wpAny_bind (wpAny_field hos hds (x := vl) rfl (wpAny_bind (wpAny_field hos hds (x := vu) rfl (wpAny_bind (wpAny_field hos hds (x := .none) rfl (wpAny_pure ?_)))))))
  refine wpAny_bind (slicePart_none ?_)
  show wpAny _ _ (if ((1 : Int) == 0) = true then _ else _) _ _ s
  rw [if_neg (by decide)]
  refine wpAny_bind (slicePart_ pl (wpAny_bind (slicePart_ pu (wpAny_bind (wpAny_pure ?_)))))
  show wpAny _ _ (match Builtin.Slice.sliceAdjust lo hi 1 (n : Int) with | (lo, hi) => pure (lo, (1 : Int), Builtin.Slice.slicePlaces lo hi 1)) _ _ s
  rw [adjust_gen lo hi n]
  show wpAny _ _ (pure (((sIx n 0 lo : Nat) : Int), (1 : Int), Builtin.Slice.slicePlaces ((sIx n 0 lo : Nat) : Int) ((sIx n n hi : Nat) : Int) 1)) _ _ s
  rw [places_gen]
  exact wpAny_pure h
theorem pick_gen (xs : Array Value) (i k : Nat) : ((List.range k).filterMap fun (m : Nat) => xs[((i : Int) + (m : Int) * 1).toNat]?).toArray = ((xs.toList.drop i).take k).toArray := by
  have e : (fun (m : Nat) => xs[((i : Int) + (m : Int) * 1).toNat]?) = fun m => xs[i + m]? := by
    funext m
    have : ((i : Int) + (m : Int) * 1).toNat = i + m := by omega
    rw [this]
  rw [e]
  have := pick_run xs i k
  rw [List.filterMap_map] at this
  have e2 : ((fun x => xs[x]?) ∘ fun x => i + x) = fun m => xs[i + m]? := rfl
  rw [e2] at this
  rw [this]
theorem getItem_tuple_cut {t sl : Addr} {items : Array Value} {vl vu : Value} {lo hi : Option Int} {Q : Value → Shared → Prop} (ht : IsTup s.heap t items) (hs : s.heap.IsSliceOf sl vl vu .none) (pl : IsPart vl lo) (pu : IsPart vu hi)
    (hw : ¬ (sIx items.size 0 lo = 0 ∧ sIx items.size items.size hi = items.size))
    (h : Q (.ref s.heap.objs.size) { s with heap := s.heap.push { cls := .type "tuple", data := .seq ((items.toList.drop (sIx items.size 0 lo)).take (sIx items.size items.size hi - sIx items.size 0 lo)).toArray } })
    (hsz : items.size ≤ sizeLine) : wpAny (model prog w) A (getItem (.ref t) (.ref sl)) Q E s := by
  have htake : sizeOk (.seq ((items.toList.drop (sIx items.size 0 lo)).take (sIx items.size items.size hi - sIx items.size 0 lo)).toArray) := by
    show ((items.toList.drop (sIx items.size 0 lo)).take (sIx items.size items.size hi - sIx items.size 0 lo)).toArray.size ≤ sizeLine
    rw [List.size_toArray, List.length_take, List.length_drop, Array.length_toList]
    omega
  have hj : sIx items.size items.size hi ≤ items.size := sIx_le _ _ (Nat.le_refl _) hi
  obtain ⟨os, hos, hcs, hds⟩ := id hs
  have hTs : s.TypeIs (.ref sl) "slice" := ⟨os, hos, hcs⟩
  unfold getItem
  try with_reducible refine wpAny_holding ?_
  first | refine wpAny_bind (wpAny_pure ?_) | skip
  refine wpAny_bind (wpAny_sequenceKey ht.typeIs (by decide) ?_)
  refine wpAny_bind (wpAny_callSpecial?_slot (name := Str.ofString "__getitem__") ht.typeIs PyProof.Rows.slot_tuple_getitem
    (wpAny_call_entry PyProof.Rows.slot_tuple_getitem ht.typeIs entry_tuple_getitem ?_ (args_tuple_getitem _ _)))
  show wpAny _ _ (Builtin.Tuple.tupleItemsOf (.ref t) >>= _) _ _ s
  refine wpAny_bind (tupleItemsOf_ ht ?_)
  refine wpAny_bind (wpAny_typeOf hTs ?_)
  rw [if_pos (by decide)]
  refine wpAny_bind (sliceApplied_gen hs pl pu ?_)
  have hno : ¬ ((((sIx items.size 0 lo : Nat) : Int) == 0 && (1 : Int) == 1 && (sIx items.size items.size hi - sIx items.size 0 lo) == items.size) = true) := by
    intro q
    rw [Bool.and_eq_true, Bool.and_eq_true] at q
    have q1 : ((sIx items.size 0 lo : Nat) : Int) = 0 := eq_of_beq q.1.1
    have q2 : sIx items.size items.size hi - sIx items.size 0 lo = items.size := eq_of_beq q.2
    exact hw ⟨by omega, by omega⟩
  show wpAny _ _ (if (((sIx items.size 0 lo : Nat) : Int) == 0 && (1 : Int) == 1 && (sIx items.size items.size hi - sIx items.size 0 lo) == items.size) = true then _ else _) _ _ s
  rw [if_neg hno, pick_gen]
  first
    | exact wpAny_bind (m := Builtin.Tuple.tupleExact _) (wpAny_newObj_type (wpAny_pure ⟨_, rfl, wpAny_pure h⟩) htake)
    | exact wpAny_bind (m := Builtin.Tuple.tupleExact _) (wpAny_newObj_type (wpAny_bind (wpAny_pure (wpAny_pure ⟨_, rfl, wpAny_pure h⟩))) htake)
    | exact wpAny_bind (wpAny_bind (m := Builtin.Tuple.tupleExact _) (wpAny_newObj_type (wpAny_pure (wpAny_pure ⟨_, rfl, wpAny_pure h⟩)) htake))
    | exact wpAny_bind (wpAny_bind (m := Builtin.Tuple.tupleExact _) (wpAny_newObj_type (wpAny_pure ⟨_, rfl, wpAny_pure h⟩) htake))
end
end HT
namespace L2
open PySem PySem.Spec PyProof.Rows
/-! ### the parts of a slice -/
abbrev TO := St → Hp → (Option Int → Hp → Prop) → Prop
/-- a slice's part (left out, or an int) -/
def PO (X : Cx) (e : Option Expr) (t : TO) : Prop :=
  ∀ (pins : List (Addr × Obj)) (s : Shared) (σ : St) (H : Hp) (Q : Option Int → Hp → Prop), Inv X pins σ H s → t σ H Q →
    wpAny (model X.prog X.w) X.A (evalPart e X.env) (fun u s' => ∃ o H', Inv X pins σ H' s' ∧ IsPart u o ∧ Q o H') X.xe s
def tNoPart : TO := fun _ H Q => Q none H
def tPart (t : TE) : TO := fun σ H Q => t σ H fun x H1 => ∃ i, x = .int i ∧ Q (some i) H1
section
variable {X : Cx} {e : Expr} {te : TE} {lo hi : Option Expr} {tl th : TO} {pos p2 : Pos}
theorem po_none : PO X none tNoPart := by
  intro pins s σ H Q I h
  rw [evalPart_none]
  exact wpAny_pure ⟨none, H, I, .none, h⟩
theorem po_some (h : PE X e te) : PO X (some e) (tPart te) := by
  intro pins s σ H Q I hw
  rw [evalPart_some]
  refine thn (h pins s σ H _ I hw) fun u s1 ⟨x, H1, I1, r1, q1⟩ => ?_
  obtain ⟨i, rfl, q⟩ := q1
  obtain ⟨t, rfl⟩ := r1
  exact ⟨some i, H1, I1, .int i t, q⟩
/-- what a slice of a value is, by values: the slice object stands at sl -/
def SlR (X : Cx) (r : V → Option Int → Option Int → Hp → VK → Prop) : Prop :=
  ∀ (pins : List (Addr × Obj)) (s : Shared) (σ : St) (H : Hp) (x : V) (v vl vu : Value) (lo hi : Option Int) (sl : Addr) (Q : VK), Inv X pins σ H s → RelV x v → s.heap.IsSliceOf sl vl vu .none → IsPart vl lo → IsPart vu hi → r x lo hi H Q →
    ∃ T id, typeLookup (.type T) "__getitem__" = pure (some (.builtin id)) ∧ s.TypeIs v T ∧ wpAny (model X.prog X.w) X.A (getItem v (.ref sl)) (EP X pins σ Q) X.xe s
theorem SlR.or {r r' : V → Option Int → Option Int → Hp → VK → Prop} (h : SlR X r) (h' : SlR X r') : SlR X (fun x lo hi H Q => r x lo hi H Q ∨ r' x lo hi H Q) := by
  intro pins s σ H x v vl vu lo hi sl Q I rx hs pl pu q
  rcases q with q | q
  · exact h pins s σ H x v vl vu lo hi sl Q I rx hs pl pu q
  · exact h' pins s σ H x v vl vu lo hi sl Q I rx hs pl pu q
def tSl (r : V → Option Int → Option Int → Hp → VK → Prop) (te : TE) (tl th : TO) : TE := fun σ H Q => te σ H fun x H1 => tl σ H1 fun l H2 => th σ H2 fun u H3 => r x l u H3 Q
/-- a[lo:hi], any a -/
theorem pe_slice {r : V → Option Int → Option Int → Hp → VK → Prop} (hr : SlR X r) (he : PE X e te) (hl : PO X lo tl) (hu : PO X hi th) : PE X (.Subscript e (.Slice lo hi none p2) pos) (tSl r te tl th) := by
  intro pins s σ H Q I h
  refine Subscript_ (thn (he pins s σ H _ I h) fun v s1 ⟨x, H1, I1, r1, q1⟩ => ?_)
  refine wpAny_Slice (thn (hl pins s1 σ H1 _ I1 q1) fun vl s2 ⟨l, H2, I2, pl, q2⟩ => thn (hu pins s2 σ H2 _ I2 q2) fun vu s3 ⟨u, H3, I3, pu, q3⟩ => ?_)
  rw [evalPart_none]
  refine wpAny_pure ?_
  have I4 : Inv X pins σ H3 { s3 with heap := s3.heap.push { cls := .type "slice", data := .fields #[vl, vu, .none] } } := I3.kept (t' := s3.toks) fun b ob q => Heap.get?_push_of_some _ q
  obtain ⟨T, id, hT, ht, hg⟩ := hr pins { s3 with heap := s3.heap.push { cls := .type "slice", data := .fields #[vl, vu, .none] } } σ H3 x v vl vu l u s3.heap.objs.size Q I4 r1 (Heap.IsSliceOf.new ..) pl pu q3
  show wpAny (model X.prog X.w) X.A (subscriptTail e (.Slice lo hi none p2) v (.ref s3.heap.objs.size)) (EP X pins σ Q) X.xe { s3 with heap := s3.heap.push { cls := .type "slice", data := .fields #[vl, vu, .none] } }
  exact tail_any (ops := [.ref s3.heap.objs.size, v]) ht hT hg (by with_unfolding_all rfl)
/-- the items of xs[lo:hi] -/
def cutV (xs : List V) (lo hi : Option Int) : List V := (xs.drop (HT.sIx xs.length 0 lo)).take (HT.sIx xs.length xs.length hi - HT.sIx xs.length 0 lo)
theorem cutV_length (xs : List V) (lo hi : Option Int) : (cutV xs lo hi).length ≤ xs.length := by
  unfold cutV
  rw [List.length_take, List.length_drop]
  omega
/-- t[lo:hi], not the whole of it (the whole would be t itself) -/
def rSlT (K : PySem.W.Frag) : V → Option Int → Option Int → Hp → VK → Prop := fun x lo hi H Q => ∃ a xs, x = .ref a ∧ SqT K H a xs ∧
  ¬ (HT.sIx xs.length 0 lo = 0 ∧ HT.sIx xs.length xs.length hi = xs.length) ∧ ∀ p, H p = none → Q (.ref p) (upd H p (.tup (cutV xs lo hi)))
theorem sl_tup : SlR X (rSlT X.K) := by
  intro pins s σ H x v vl vu lo hi sl Q I rx hs pl pu h
  obtain ⟨a, xs, rfl, hx, hw, q⟩ := h
  cases rx
  obtain ⟨its, r, ht, hz⟩ := I.tuple hx
  have hlen : its.toArray.size = xs.length := by rw [List.size_toArray]; exact r.length.symm
  refine ⟨"tuple", _, PyProof.Rows.slot_tuple_getitem.lookup, ht.typeIs, ?_⟩
  refine HT.getItem_tuple_cut ht hs pl pu (by rw [hlen]; exact hw) ?_ (by rw [hlen]; exact hz)
  rw [hlen]
  refine ⟨.ref s.heap.objs.size, _, I.laid (t' := s.toks) (o := .tup (cutV xs lo hi)) (fun b ob q => Heap.get?_push_of_some _ q) (Nat.le_refl _) ?_, rfl, q _ (I.hok.fresh (Nat.le_refl _))⟩
  exact ⟨Nat.le_trans (cutV_length xs lo hi) hz, _, (r.drop (HT.sIx xs.length 0 lo)).take (HT.sIx xs.length xs.length hi - HT.sIx xs.length 0 lo), IsTup.new _ _⟩
/-! ### t < u, t + u -/
def rLtT (K : PySem.W.Frag) : R2 := fun x y H Q => ∃ a b ns ms, x = .ref a ∧ y = .ref b ∧ SqT K H a (ns.map V.int) ∧ SqT K H b (ms.map V.int) ∧ Q (.bl (HT.lexLt ns ms)) H
/-- t + u, t not empty: u empty gives t itself -/
def rCatT (K : PySem.W.Frag) : R2 := fun x y H Q => ∃ a b xs ys, x = .ref a ∧ y = .ref b ∧ SqT K H a xs ∧ SqT K H b ys ∧ xs ≠ [] ∧ xs.length + ys.length ≤ sizeLine ∧
  (ys = [] → Q (.ref a) H) ∧ (ys ≠ [] → ∀ p, H p = none → Q (.ref p) (upd H p (.tup (xs ++ ys))))
end
end L2
namespace L2
open PySem PySem.Spec PyProof.Rows
/-! ### places -/
/-- the place that an index of any sign means -/
def ixN (n : Nat) (i : Int) : Option Nat := if 0 ≤ i then (if i < n then some i.toNat else none) else if -(n : Int) ≤ i then some (i + n).toNat else none
def atI {α : Type} (xs : List α) (i : Int) : Option α := (ixN xs.length i).bind fun j => xs[j]?
theorem ixN_seq {n : Nat} {i : Int} {j : Nat} (h : ixN n i = some j) : seqIndex? i n = some j ∧ j < n ∧ -(n : Int) ≤ i ∧ i < n := by
  unfold ixN at h
  by_cases h0 : 0 ≤ i
  · rw [if_pos h0] at h
    by_cases h1 : i < n
    · rw [if_pos h1] at h
      have e : i.toNat = j := Option.some.inj h
      exact ⟨by rw [seqIndex_of h0 h1, e], by omega, by omega, h1⟩
    · rw [if_neg h1] at h; cases h
  · rw [if_neg h0] at h
    by_cases h1 : -(n : Int) ≤ i
    · rw [if_pos h1] at h
      have e : (i + n).toNat = j := Option.some.inj h
      exact ⟨by rw [seqIndex_neg (by omega) h1, e], by omega, h1, by omega⟩
    · rw [if_neg h1] at h; cases h
theorem atI_get {α : Type} {xs : List α} {i : Int} {v : α} (h : atI xs i = some v) : ∃ j, seqIndex? i xs.length = some j ∧ xs[j]? = some v ∧ j < xs.length ∧ -(xs.length : Int) ≤ i ∧ i < xs.length := by
  unfold atI at h
  cases e : ixN xs.length i with
  | none => rw [e] at h; cases h
  | some j =>
    rw [e] at h
    obtain ⟨h1, h2, h3, h4⟩ := ixN_seq e
    exact ⟨j, h1, h, h2, h3, h4⟩
theorem atI_nat {α : Type} {xs : List α} {j : Nat} {v : α} (h : xs[j]? = some v) : atI xs (j : Int) = some v := by
  have hj : j < xs.length := (List.getElem?_eq_some_iff.mp h).1
  have e : ixN xs.length (j : Int) = some j := by
    unfold ixN
    rw [if_pos (by omega), if_pos (by omega)]; simp
  unfold atI; rw [e]; exact h
/-! ### what may be subscripted -/
/-- what stands as an index of a plain subscript -/
def PlainIx (b : Expr) : Prop := ∀ o i, subscripted b false o i = operate [o, i] (getItem o i)
/-- a subscript by values -/
def IxR (X : Cx) (r : R2) : Prop :=
  ∀ (value slice : Expr) (pins : List (Addr × Obj)) (s : Shared) (σ : St) (H : Hp) (x y : V) (v u : Value) (Q : VK), Inv X pins σ H s → RelV x v → RelV y u → r x y H Q →
    subscripted slice false v u = operate [v, u] (getItem v u) → wpAny (model X.prog X.w) X.A (subscriptTail value slice v u) (EP X pins σ Q) X.xe s
/-- a call of a builtin's method by values: the receiver, the arguments -/
def MtR (X : Cx) (id : String) (r : V → List V → Hp → VK → Prop) : Prop :=
  ∀ (pins : List (Addr × Obj)) (s : Shared) (σ : St) (H : Hp) (x : V) (xs : List V) (v : Value) (us : List Value) (Q : VK), Inv X pins σ H s → RelV x v → Vals xs us → r x xs H Q →
    wpAny (model X.prog X.w) X.A (call (.builtin id) (v :: us)) (EP X pins σ Q) X.xe s
section
variable {X : Cx} {a b : Expr} {ta tb : TE} {pos : Pos}
theorem IxR.or {r r' : R2} (h : IxR X r) (h' : IxR X r') : IxR X (fun x y H Q => r x y H Q ∨ r' x y H Q) := by
  intro value slice pins s σ H x y v u Q I rx ry q hs
  rcases q with q | q
  · exact h value slice pins s σ H x y v u Q I rx ry q hs
  · exact h' value slice pins s σ H x y v u Q I rx ry q hs
theorem MtR.or {id : String} {r r' : V → List V → Hp → VK → Prop} (h : MtR X id r) (h' : MtR X id r') : MtR X id (fun x xs H Q => r x xs H Q ∨ r' x xs H Q) := by
  intro pins s σ H x xs v us Q I rx rs q
  rcases q with q | q
  · exact h pins s σ H x xs v us Q I rx rs q
  · exact h' pins s σ H x xs v us Q I rx rs q
/-- a[b] -/
theorem pe_ix {r : R2} (hr : IxR X r) (ha : PE X a ta) (hb : PE X b tb) (hs : PlainIx b) : PE X (.Subscript a b pos) (tOp r ta tb) := by
  intro pins s σ H Q I h
  exact Subscript_ (binT ha hb I h fun v u s2 x y H2 I2 rx ry q => hr a b pins s2 σ H2 x y v u Q I2 rx ry q (hs _ _))
def rIxL (K : PySem.W.Frag) : R2 := fun x y H Q => ∃ p xs i v, x = .ref p ∧ y = .int i ∧ SqL K H p xs ∧ atI xs i = some v ∧ Q v H
def rIxT (K : PySem.W.Frag) : R2 := fun x y H Q => ∃ p xs i v, x = .ref p ∧ y = .int i ∧ SqT K H p xs ∧ atI xs i = some v ∧ Q v H
def rIxS : R2 := fun x y H Q => ∃ z i c, x = .str z ∧ y = .int i ∧ z.length ≤ sizeLine ∧ atI z.cps.toList i = some c ∧ Q (.str ⟨#[c]⟩) H
theorem ix_list : IxR X (rIxL X.K) := by
  intro value slice pins s σ H x y v u Q I rx ry h hs
  obtain ⟨p, xs, i, z, rfl, rfl, hq, he, q⟩ := h
  cases rx
  obtain ⟨t, rfl⟩ := ry
  obtain ⟨its, r, pl, hz⟩ := I.list hq
  obtain ⟨j, h1, h2, h3, h4, h5⟩ := atI_get he
  obtain ⟨w, ew, rw'⟩ := r.get h2
  have hl := r.length
  have hn := line63
  have fin : EP X pins σ Q w s := ⟨z, H, I, rw', q⟩
  by_cases h0 : 0 ≤ i
  · have hj : i.toNat = j := by
      rw [seqIndex_of h0 h5] at h1
      exact Option.some.inj h1
    exact item_listR pl.isList h0 (by omega) (by rw [hj]; simpa using ew) fin hs
  · have hj : (i + (its.toArray.size : Int)).toNat = j := by
      rw [seqIndex_neg (by omega) h4] at h1
      rw [List.size_toArray, ← hl]
      exact Option.some.inj h1
    exact subscriptTail_builtinR (x := w) pl.isList.typeIs slot_list_getitem.lookup
      (wpAny_getItem_list_neg (Q := fun r s' => r = w ∧ EP X pins σ Q r s') pl.isList (by omega) (by rw [List.size_toArray] <;> omega) (by omega) (by rw [hj]; simpa using ew) ⟨rfl, fin⟩) hs
theorem ix_tup : IxR X (rIxT X.K) := by
  intro value slice pins s σ H x y v u Q I rx ry h hs
  obtain ⟨p, xs, i, z, rfl, rfl, hq, he, q⟩ := h
  cases rx
  obtain ⟨t, rfl⟩ := ry
  obtain ⟨its, r, pl, hz⟩ := I.tuple hq
  obtain ⟨j, h1, h2, h3, h4, h5⟩ := atI_get he
  obtain ⟨w, ew, rw'⟩ := r.get h2
  have hl := r.length
  have hn := line63
  have fin : EP X pins σ Q w s := ⟨z, H, I, rw', q⟩
  exact subscriptTail_builtinR (x := w) pl.typeIs slot_tuple_getitem.lookup
    (getItem_tuple (j := j) (Q := fun r s' => r = w ∧ EP X pins σ Q r s') pl (by omega) (by omega) (by rw [List.size_toArray, ← hl]; exact h1) (by simpa using ew) ⟨rfl, fin⟩) hs
theorem ix_str : IxR X rIxS := by
  intro value slice pins s σ H x y v u Q I rx ry h hs
  obtain ⟨z, i, c, rfl, rfl, hz, he, q⟩ := h
  obtain ⟨t, rfl⟩ := rx
  obtain ⟨t', rfl⟩ := ry
  obtain ⟨j, h1, h2, h3, h4, h5⟩ := atI_get he
  have hl : z.cps.toList.length = z.length := by simp [Str.length]
  rw [hl] at h1 h4 h5
  have hn := line63
  exact tail_any (typeIs_str s z t) slot_str_getitem.lookup (getItem_str (c := c) (by
    have e1 : decide (i < -(2 ^ 63 : Int)) = false := decide_eq_false (by omega)
    have e2 : decide (i ≥ 2 ^ 63) = false := decide_eq_false (by omega)
    rw [e1, e2, Bool.or_false]) (by rw [h1]; simpa using h2) ⟨.str ⟨#[c]⟩, H, I.tok _, ⟨_, rfl⟩, q⟩) hs
/-- list, tuple or str -/
def rIx (K : PySem.W.Frag) : R2 := fun x y H Q => rIxL K x y H Q ∨ rIxT K x y H Q ∨ rIxS x y H Q
theorem ix_seq : IxR X (rIx X.K) := ix_list.or (ix_tup.or ix_str)
/-! ### xs[i] = v, any sign -/
theorem Inv.lst {pins : List (Addr × Obj)} {σ : St} {H : Hp} {s : Shared} {p : Addr} {xs : List V} (I : Inv X pins σ H s) (h : H p = some (.lst xs)) :
    ∃ (its : List Value) (n : Nat), Vals xs its ∧ s.heap.get? p = some { cls := .type "list", data := .seq its.toArray n } ∧ xs.length ≤ sizeLine := by
  obtain ⟨z, its, n, r, e⟩ := I.hok p _ h
  exact ⟨its, n, r, e, z⟩
def rSetL : V → V → V → Hp → (Hp → Prop) → Prop := fun o i v H Q => ∃ p xs k j, o = .ref p ∧ i = .int k ∧ H p = some (.lst xs) ∧ ixN xs.length k = some j ∧ Q (upd H p (.lst (xs.set j v)))
/-! ### slices -/
theorem slice_bounds (lo hi : Option Int) (n : Nat) : (sliceBounds lo hi none n).1 = ((HT.sIx n 0 lo : Nat) : Int) ∧ (sliceBounds lo hi none n).2.1 = ((HT.sIx n n hi : Nat) : Int) ∧ (sliceBounds lo hi none n).2.2 = 1 := by
  refine ⟨?_, ?_, rfl⟩
  · cases lo with
    | none => simp [sliceBounds, HT.sIx]
    | some i =>
      simp only [sliceBounds, HT.sIx, Option.getD_none, show (1 : Int) > 0 by decide, if_true]
      by_cases h : i < 0
      · simp only [h, if_true] <;> omega
      · simp only [h, if_false] <;> omega
  · cases hi with
    | none => simp [sliceBounds, HT.sIx]
    | some i =>
      simp only [sliceBounds, HT.sIx, Option.getD_none, show (1 : Int) > 0 by decide, if_true]
      by_cases h : i < 0
      · simp only [h, if_true] <;> omega
      · simp only [h, if_false] <;> omega
theorem slicePick_cut (its : List Value) (lo hi : Option Int) : slicePick its.toArray lo hi none = ((its.drop (HT.sIx its.length 0 lo)).take (HT.sIx its.length its.length hi - HT.sIx its.length 0 lo)).toArray := by
  obtain ⟨h1, h2, h3⟩ := slice_bounds lo hi its.toArray.size
  unfold slicePick
  rw [h1, h2, h3]
  simp only [sliceRange_one, pick_run, List.size_toArray] <;> rfl
/-- xs[lo:hi] of a list: a new list -/
def rSlL (K : PySem.W.Frag) : V → Option Int → Option Int → Hp → VK → Prop := fun x lo hi H Q => ∃ a xs, x = .ref a ∧ SqL K H a xs ∧ ∀ p, H p = none → Q (.ref p) (upd H p (.lst (cutV xs lo hi)))
theorem sl_list : SlR X (rSlL X.K) := by
  intro pins s σ H x v vl vu lo hi sl Q I rx hs pl pu h
  obtain ⟨a, xs, rfl, hx, q⟩ := h
  cases rx
  obtain ⟨its, r, ht, hz⟩ := I.list hx
  have hlen := r.length
  refine ⟨"list", _, slot_list_getitem.lookup, ht.isList.typeIs, ?_⟩
  refine wpAny_getItem_list_slice ht.isList hs pl pu .none (by simp) ?_ (by rw [List.size_toArray] <;> omega)
  rw [slicePick_cut, ← hlen]
  refine ⟨.ref s.heap.objs.size, _, I.laid (t' := s.toks) (o := .lst (cutV xs lo hi)) (fun b ob q => Heap.get?_push_of_some _ q) (Nat.le_refl _) ?_, rfl, q _ (I.hok.fresh (Nat.le_refl _))⟩
  exact ⟨Nat.le_trans (cutV_length xs lo hi) hz, _, 0, (r.drop (HT.sIx xs.length 0 lo)).take (HT.sIx xs.length xs.length hi - HT.sIx xs.length 0 lo), Heap.get?_push_size _ rfl⟩
/-! ### in, not in: flat items -/
def flatV : V → Bool
  | .non => true
  | .bl _ => true
  | .int _ => true
  | .str _ => true
  | _ => false
/-- == of flat values -/
def eqV : V → V → Bool
  | .non, .non => true
  | .bl a, .bl b => a == b
  | .bl a, .int b => (if a then 1 else 0) == b
  | .int a, .bl b => a == (if b then 1 else 0)
  | .int a, .int b => a == b
  | .str a, .str b => a == b
  | _, _ => false
theorem eqAt_V {A : Around} {s : Shared} {y x : V} {u v : Value} (ry : RelV y u) (rx : RelV x v) (fy : flatV y = true) (fx : flatV x = true) : SeqAt.EqAt A s u v (eqV y x) := by
  cases y with
  | non =>
    cases ry
    cases x with
    | non => cases rx; exact SeqAt.EqAt.same _
    | bl b => cases rx; exact SeqAt.EqAt.none_bool b
    | int b => obtain ⟨t, rfl⟩ := rx; exact SeqAt.EqAt.none_int b t
    | str b => obtain ⟨t, rfl⟩ := rx; exact SeqAt.EqAt.none_str b t
    | _ => exact absurd (show false = true from fx) Bool.false_ne_true
  | bl a =>
    cases ry
    cases x with
    | non => cases rx; exact SeqAt.EqAt.bool_none a
    | bl b => cases rx; exact SeqAt.EqAt.bool_bool a b
    | int b => obtain ⟨t, rfl⟩ := rx; exact SeqAt.EqAt.bool_int a b t
    | str b => obtain ⟨t, rfl⟩ := rx; exact SeqAt.EqAt.bool_str a b t
    | _ => exact absurd (show false = true from fx) Bool.false_ne_true
  | int a =>
    obtain ⟨t', rfl⟩ := ry
    cases x with
    | non => cases rx; exact SeqAt.EqAt.int_none a t'
    | bl b => cases rx; exact SeqAt.EqAt.int_bool a t' b
    | int b => obtain ⟨t, rfl⟩ := rx; exact SeqAt.EqAt.int_int a t' b t
    | str b => obtain ⟨t, rfl⟩ := rx; exact SeqAt.EqAt.int_str a t' b t
    | _ => exact absurd (show false = true from fx) Bool.false_ne_true
  | str a =>
    obtain ⟨t', rfl⟩ := ry
    cases x with
    | non => cases rx; exact SeqAt.EqAt.str_none a t'
    | bl b => cases rx; exact SeqAt.EqAt.str_bool a t' b
    | int b => obtain ⟨t, rfl⟩ := rx; exact SeqAt.EqAt.str_int a t' b t
    | str b => obtain ⟨t, rfl⟩ := rx; exact SeqAt.EqAt.str_str a t' b t
    | _ => exact absurd (show false = true from fx) Bool.false_ne_true
  | _ => exact absurd (show false = true from fy) Bool.false_ne_true
/-- the items' answers, read off the values (a value's own answer does not lean on its token) -/
def eqU (x : V) (u : Value) : Bool := match u with
  | .none => eqV .non x
  | .bool b => eqV (.bl b) x
  | .int i _ => eqV (.int i) x
  | .str z _ => eqV (.str z) x
  | _ => false
theorem eqU_of {x y : V} {u : Value} (r : RelV y u) (f : flatV y = true) : eqU x u = eqV y x := by
  cases y with
  | non => cases r; rfl
  | bl b => cases r; rfl
  | int i => obtain ⟨t, rfl⟩ := r; rfl
  | str z => obtain ⟨t, rfl⟩ := r; rfl
  | _ => exact absurd (show false = true from f) Bool.false_ne_true
theorem any_eqU {x : V} : ∀ {xs : List V} {us : List Value}, Vals xs us → xs.all flatV = true → us.any (eqU x) = xs.any fun y => eqV y x
  | _, _, .nil, _ => rfl
  | y :: xs, u :: us, .cons r t, f => by
    rw [List.all_cons, Bool.and_eq_true] at f
    rw [List.any_cons, List.any_cons, eqU_of r f.1, any_eqU t f.2]
theorem mem_eqAt {A : Around} {s : Shared} {x : V} {v : Value} (rx : RelV x v) (fx : flatV x = true) : ∀ {xs : List V} {us : List Value}, Vals xs us → xs.all flatV = true → ∀ u ∈ us, SeqAt.EqAt A s u v (eqU x u)
  | _, _, .nil, _ => fun u hu => by cases hu
  | y :: xs, u :: us, .cons r t, f => fun u' hu => by
    rw [List.all_cons, Bool.and_eq_true] at f
    rcases List.mem_cons.mp hu with rfl | hu
    · rw [eqU_of r f.1]; exact eqAt_V r rx f.1 fx
    · exact mem_eqAt rx fx t f.2 u' hu
def inV (x : V) (xs : List V) : Bool := xs.any fun y => eqV y x
/-- x in a list or tuple of flat items -/
def rIn (K : PySem.W.Frag) (neg : Bool) : R2 := fun x y H Q => ∃ p xs, y = .ref p ∧ (SqL K H p xs ∨ SqT K H p xs) ∧ flatV x = true ∧ xs.all flatV = true ∧ Q (.bl (if neg then !inV x xs else inV x xs)) H
theorem op_notIn_seq : OpR X (compareOp .NotIn) (rIn X.K true) := by
  intro pins s σ H x y v u Q I rx ry h
  obtain ⟨p, xs, rfl, hq, fx, fs, q⟩ := h
  cases ry
  rcases hq with hq | hq
  · obtain ⟨its, r, pl, hz⟩ := I.list hq
    refine SeqAt.notIn_listAt (eqU x) pl.isList (fun w hw => mem_eqAt rx fx r fs w (by simpa using hw)) ⟨.bl _, H, I, rfl, ?_⟩
    rw [show its.toArray.any (eqU x) = its.any (eqU x) by simp, any_eqU r fs]
    exact q
  · obtain ⟨its, r, pl, hz⟩ := I.tuple hq
    refine SeqAt.notIn_tupleAt (eqU x) pl (fun w hw => mem_eqAt rx fx r fs w (by simpa using hw)) ⟨.bl _, H, I, rfl, ?_⟩
    rw [show its.toArray.any (eqU x) = its.any (eqU x) by simp, any_eqU r fs]
    exact q
/-! ### len, list(x), tuple(x) of any list or tuple that is read -/
theorem call_len_seq : CallR X (.builtin "len") (fun xs H Q => ∃ p ys, xs = [.ref p] ∧ (SqL X.K H p ys ∨ SqT X.K H p ys) ∧ Q (.int ys.length) H) := by
  intro pins s σ H xs us Q I r h
  obtain ⟨p, ys, rfl, hq, q⟩ := h
  obtain ⟨u, rfl, rx⟩ := vals1 r
  cases rx
  have hn := line63
  rcases hq with hq | hq
  · obtain ⟨its, r', pl, hz⟩ := I.list hq
    have hlen := r'.length
    exact Calls.call_len_list pl.isList (by simp only [List.size_toArray] <;> omega) ⟨.int ys.length, H, I.tok _, ⟨s.toks + 1, by rw [List.size_toArray, hlen]⟩, q⟩
  · obtain ⟨its, r', pl, hz⟩ := I.tuple hq
    have hlen := r'.length
    exact len_tuple pl (by simp only [List.size_toArray] <;> omega) ⟨.int ys.length, H, I.tok _, ⟨s.toks + 1, by rw [List.size_toArray, hlen]⟩, q⟩
theorem call_len_str : CallR X (.builtin "len") (fun xs H Q => ∃ z, xs = [.str z] ∧ z.length ≤ sizeLine ∧ Q (.int z.length) H) := by
  intro pins s σ H xs us Q I r h
  obtain ⟨z, rfl, hz, q⟩ := h
  obtain ⟨u, rfl, t, rfl⟩ := vals1 r
  have hn := line63
  exact len_str (by omega) ⟨.int z.length, H, I.tok _, ⟨_, rfl⟩, q⟩
theorem CallR.or {f : Value} {r r' : List V → Hp → VK → Prop} (h : CallR X f r) (h' : CallR X f r') : CallR X f (fun xs H Q => r xs H Q ∨ r' xs H Q) := by
  intro pins s σ H xs us Q I rs q
  rcases q with q | q
  · exact h pins s σ H xs us Q I rs q
  · exact h' pins s σ H xs us Q I rs q
theorem call_list_of : CallR X (.type "list") (fun xs H Q => ∃ p ys, xs = [.ref p] ∧ (SqL X.K H p ys ∨ SqT X.K H p ys) ∧ ∀ l, H l = none → Q (.ref l) (upd H l (.lst ys))) := by
  intro pins s σ H xs us Q I r h
  obtain ⟨p, ys, rfl, hq, q⟩ := h
  obtain ⟨u, rfl, rx⟩ := vals1 r
  cases rx
  have fin : ∀ (its : List Value), Vals ys its → ys.length ≤ sizeLine → ∀ (h' : Heap) (c' : Nat), (∀ b o', s.heap.get? b = some o' → h'.get? b = some o') →
      h'.get? s.heap.objs.size = some { cls := .type "list", dict := none, data := .seq its.toArray c', slots := #[] } → EP X pins σ Q (.ref s.heap.objs.size) { s with heap := h' } := fun its r' hz h' c' kp e =>
    ⟨.ref s.heap.objs.size, _, I.laid (t' := s.toks) kp (Nat.le_refl _) (show ObjOk X.prog X.w _ h' _ (.lst ys) from ⟨hz, its, c', r', e⟩), rfl, q _ (I.hok.fresh (Nat.le_refl _))⟩
  rcases hq with hq | hq
  · obtain ⟨its, r', pl, hz⟩ := I.list hq
    have hlen := r'.length
    obtain ⟨o, ho, hc, n, hd⟩ := pl.isList
    exact call_list_seq p (.inl rfl) ho hc hd (fun h' c' kp e => fin its r' hz h' c' kp e) (by simp only [List.size_toArray] <;> omega)
  · obtain ⟨its, r', pl, hz⟩ := I.tuple hq
    have hlen := r'.length
    obtain ⟨o, ho, hc, n, hd⟩ := pl
    exact call_list_seq p (.inr rfl) ho hc hd (fun h' c' kp e => fin its r' hz h' c' kp e) (by simp only [List.size_toArray] <;> omega)
/-! ### the call of a builtin's method: o.m(..) -/
/-- the value is of that builtin type -/
def tyV (K : PySem.W.Frag) (T : String) (x : V) (H : Hp) : Prop := match x with
  | .str _ => T = "str"
  | .int _ => T = "int"
  | .ref p => (T = "list" ∧ ∃ xs, SqL K H p xs) ∨ (T = "tuple" ∧ ∃ o, K.lookup p = some o ∧ o.cls = .type "tuple" ∧ o.dict = none) ∨
      (T = "dict" ∧ ((∃ kvs, H p = some (.dK kvs)) ∨ ∃ kvs, H p = some (.dT kvs))) ∨ (T = "set" ∧ ∃ S n, H p = some (.set S n))
  | _ => False
theorem tyV_is {pins : List (Addr × Obj)} {σ : St} {H : Hp} {s : Shared} {T : String} {x : V} {v : Value} (I : Inv X pins σ H s) (r : RelV x v) (ty : tyV X.K T x H) :
    s.TypeIs v T ∧ ∀ a, v = .ref a → ∃ ob, s.heap.get? a = some ob ∧ ob.dict = none := by
  cases x with
  | str z =>
    obtain ⟨t, rfl⟩ := r
    cases (show T = "str" from ty)
    exact ⟨typeIs_str s z t, fun _ e => nomatch e⟩
  | int i =>
    obtain ⟨t, rfl⟩ := r
    cases (show T = "int" from ty)
    exact ⟨typeIs_int s i t, fun _ e => nomatch e⟩
  | ref p =>
    cases r
    rcases ty with ⟨rfl, xs, hq⟩ | ⟨rfl, o, hk, hc, hd⟩ | ⟨rfl, hk⟩ | ⟨rfl, S, n, hk⟩
    · obtain ⟨its, _, pl, _⟩ := I.list hq
      refine ⟨pl.isList.typeIs, fun a e => ?_⟩
      cases e
      obtain ⟨o, n, e, c, hd, _⟩ := pl
      exact ⟨o, e, hd⟩
    · refine ⟨⟨o, I.kIn p o hk, hc⟩, fun a e => ?_⟩
      cases e
      exact ⟨o, I.kIn _ o hk, hd⟩
    · have z : ∃ o, s.heap.get? p = some o ∧ o.ExactDict := by
        rcases hk with ⟨kvs, hk⟩ | ⟨kvs, hk⟩
        · obtain ⟨_, _, _, _, o, _, _, e, ex, _⟩ := I.hok p _ hk
          exact ⟨o, e, ex⟩
        · obtain ⟨_, _, _, _, o, _, _, e, ex, _⟩ := I.hok p _ hk
          exact ⟨o, e, ex⟩
      obtain ⟨o, e, ex⟩ := z
      refine ⟨⟨o, e, ex.1⟩, fun a e2 => ?_⟩
      cases e2
      exact ⟨o, e, ex.2.1⟩
    · obtain ⟨o, _, _, _, e, ex, _⟩ := I.hok p _ hk
      refine ⟨⟨o, e, ex.1⟩, fun a e2 => ?_⟩
      cases e2
      exact ⟨o, e, ex.2.1⟩
  | _ => exact False.elim ty
def tBM0 (K : PySem.W.Frag) (T : String) (r : V → List V → Hp → VK → Prop) (to : TE) : TE := fun σ H Q => to σ H fun x H1 => tyV K T x H1 ∧ r x [] H1 Q
def tBM (K : PySem.W.Frag) (T : String) (r : V → List V → Hp → VK → Prop) (to : TE) (t : TA) : TE := fun σ H Q => to σ H fun x H1 => tyV K T x H1 ∧ t σ H1 fun xs H2 => r x xs H2 Q
variable {o e : Expr} {es : List Expr} {to : TE} {t : TA} {name : Str} {apos cpos : Pos} {T id : String} {r : V → List V → Hp → VK → Prop}
theorem pe_bm0 (pa : PlainAttrs T) (slot : Slot T name id) (hty : typeOf (.builtin id) = pure (.type "method_descriptor")) (hm : MtR X id r) (ho : PE X o to)
    (hbase : attributeBase o name X.env (eval o X.env) = eval o X.env := by rfl) (hline : (apos.endLine == cpos.line) = true := by rfl) : PE X (.Call (.Attribute o name apos) [] [] cpos) (tBM0 X.K T r to) := by
  intro pins s σ H Q I h
  refine wpAny_Call_method0_late hbase hline (thn (ho pins s σ H _ I h) fun v s1 ⟨x, H1, I1, r1, ty, q1⟩ => ?_)
  obtain ⟨h1, h2⟩ := tyV_is I1 r1 ty
  exact ⟨T, id, pa, slot, hty, h1, h2, Calls.callWith_builtin rfl (PySem.evalArgs_none (hm pins s1 σ H1 x [] v [] Q I1 r1 .nil q1))⟩
theorem pe_bm (pa : PlainAttrs T) (slot : Slot T name id) (hty : typeOf (.builtin id) = pure (.type "method_descriptor")) (hm : MtR X id r) (ho : PE X o to) (ha : PA X (e :: es) t)
    (hbase : attributeBase o name X.env (eval o X.env) = eval o X.env := by rfl)
    (hfew : ((backTo cpos (starEach (e :: es) X.env)).all (fun x => !x.1) && (backToKw cpos (keywordEach [] X.env)).all (fun x => x.1.isSome)
      && decide ((e :: es).length + ([] : List Keyword).length + (if ([] : List Keyword).isEmpty then 0 else 1) < 30)) = true := by rfl)
    (hline : (apos.endLine == cpos.line) = true := by rfl) (hs : starEach (e :: es) X.env = (false, eval e X.env) :: starEach es X.env := by rfl) (hplain : (backTo cpos (starEach es X.env)).any (·.1) = false := by rfl) :
    PE X (.Call (.Attribute o name apos) (e :: es) [] cpos) (tBM X.K T r to t) := by
  intro pins s σ H Q I h
  refine wpAny_Call_method_late hbase hfew hline rfl (thn (ho pins s σ H _ I h) fun v s1 ⟨x, H1, I1, r1, ty, q1⟩ => ?_)
  obtain ⟨h1, h2⟩ := tyV_is I1 r1 ty
  refine ⟨T, id, pa, slot, hty, h1, h2, ?_⟩
  have hA := ha cpos pins s1 σ H1 _ I1 q1
  rw [hs] at hA ⊢
  refine Calls.callWith_builtin (by show (false || (backTo cpos (starEach es X.env)).any (·.1)) = false; rw [hplain] <;> rfl) (Calls.evalArgs_plain ?_)
  exact thn hA fun us s2 ⟨vs, H2, I2, r2, q2⟩ => hm pins s2 σ H2 x vs v us Q I2 r1 r2 q2
/- xs.append(e), list.index on a module's tuple .. are MtR facts of 06m -/
end
end L2
namespace L2
open PySem PySem.Spec PyProof.Rows
def MtM (X : Cx) (id : String) (r : V → List V → Hp → VK → Prop) : Prop :=
  ∀ (pins : List (Addr × Obj)) (s : Shared) (σ : St) (H : Hp) (x : V) (xs : List V) (v : Value) (us : List Value) (Q : VK), Inv X pins σ H s → RelV x v → Vals xs us → r x xs H Q →
    wpAny (model X.prog X.w) X.A (call (.builtin id) (v :: us)) (EP X pins σ Q) X.xe s
/-! ### lists of values -/
theorem Vals.one : ∀ {x : V} {us : List Value}, Vals [x] us → ∃ u, us = [u] ∧ RelV x u
  | _, _, .cons r .nil => ⟨_, rfl, r⟩
theorem Vals.two : ∀ {x y : V} {us : List Value}, Vals [x, y] us → ∃ u v, us = [u, v] ∧ RelV x u ∧ RelV y v
  | _, _, _, .cons r (.cons q .nil) => ⟨_, _, rfl, r, q⟩
theorem Vals.zero : ∀ {us : List Value}, Vals [] us → us = []
  | _, .nil => rfl
theorem Vals.dropLast {xs : List V} {us : List Value} (h : Vals xs us) : Vals xs.dropLast us.dropLast := by
  induction h with
  | nil => exact .nil
  | cons r t ih =>
    cases t with
    | nil => exact .nil
    | cons q t' => exact .cons r ih
theorem Vals.eraseIdx : ∀ {xs : List V} {us : List Value} (i : Nat), Vals xs us → Vals (xs.eraseIdx i) (us.eraseIdx i)
  | _, _, _, .nil => .nil
  | _, _, 0, .cons _ t => t
  | _, _, i + 1, .cons r t => .cons r (Vals.eraseIdx i t)
theorem Vals.reverse {xs : List V} {us : List Value} (h : Vals xs us) : Vals xs.reverse us.reverse := by
  induction h with
  | nil => exact .nil
  | cons r t ih => rw [List.reverse_cons, List.reverse_cons]; exact Vals.append ih (.cons r .nil)
theorem erase_last {α : Type} (l : List α) : l.eraseIdx (l.length - 1) = l.dropLast := by
  induction l with
  | nil => rfl
  | cons a r ih =>
    cases r with
    | nil => rfl
    | cons b r =>
      have e : (a :: b :: r).length - 1 = ((b :: r).length - 1) + 1 := by
        have h1 : (a :: b :: r).length = r.length + 2 := rfl
        have h2 : (b :: r).length = r.length + 1 := rfl
        omega
      rw [e, List.eraseIdx_cons_succ, ih]
      all_goals rfl
section
variable {X : Cx} {pins : List (Addr × Obj)} {σ : St} {H : Hp} {s : Shared} {l b : Addr} {xs ys zs : List V}
/-! ### the two steps: a tracked list is rewritten, a new list is laid -/
theorem Inv.lset {its its' : List Value} {n : Nat} {f : Array Value → Array Value} {t' : Nat} (I : Inv X pins σ H s) (hH : H l = some (.lst xs))
    (e : s.heap.get? l = some { cls := .type "list", data := .seq its.toArray n }) (hf : f its.toArray = its'.toArray) (hv : Vals ys its') (hz : ys.length ≤ sizeLine) :
    Inv X pins σ (upd H l (.lst ys)) { s with heap := s.heap.update l (Obj.mapSeq f), toks := t' } := by
  have q := PySem.IsL.update e f
  rw [hf] at q
  refine I.write (x := l) (e := l) (by rw [hH]; exact trivial) (.inl rfl) (fun b' u hb hu => (Heap.get?_update_other s.heap (Obj.mapSeq f) (Ne.symm hb)).trans hu) ⟨_, q⟩ ?_
  exact ⟨hz, its', _, hv, q⟩
theorem Inv.lnew {its : List Value} {t' : Nat} (I : Inv X pins σ H s) (hv : Vals ys its) (hz : ys.length ≤ sizeLine) :
    Inv X pins σ (upd H s.heap.objs.size (.lst ys)) { s with heap := s.heap.push { cls := .type "list", data := .seq its.toArray }, toks := t' } :=
  I.laid (fun _ _ q => Heap.get?_push_of_some _ q) (Nat.le_refl _) ⟨hz, its, 0, hv, Heap.get?_push_size _ rfl⟩
theorem Inv.fresh (I : Inv X pins σ H s) : H s.heap.objs.size = none := I.hok.fresh (Nat.le_refl _)
theorem Inv.lstM (I : Inv X pins σ H s) (hH : H l = some (.lst xs)) : xs.length ≤ sizeLine ∧ ∃ (its : List Value) (n : Nat), Vals xs its ∧ xs.length = its.length ∧ s.heap.get? l = some { cls := .type "list", data := .seq its.toArray n } := by
  obtain ⟨z, its, n, r, e⟩ := I.hok l _ hH
  exact ⟨z, its, n, r, r.length, e⟩
theorem notLongL {n : Nat} (h : n ≤ sizeLine) : Builtin.List.listTooLong n = false := by
  unfold Builtin.List.listTooLong
  exact decide_eq_false (by omega)
end
section
variable {X : Cx}
/-! ### methods -/
def rAppend : V → List V → Hp → VK → Prop := fun x vs H Q => ∃ l xs y, x = .ref l ∧ vs = [y] ∧ H l = some (.lst xs) ∧ xs.length < sizeLine ∧ Q .non (upd H l (.lst (xs ++ [y])))
theorem mt_append : MtM X "list.append" rAppend := by
  intro pins s σ H x vs v us Q I rx rv h
  obtain ⟨l, xs, y, rfl, rfl, hH, hz, q⟩ := h
  cases rx
  obtain ⟨u, rfl, ru⟩ := rv.one
  obtain ⟨z, its, n, r, hl, e⟩ := I.lstM hH
  refine call_meets F.slot_list_append ⟨_, e, rfl⟩ F.entry_list_append (F.args_list_append_2 _ _) (PySem.list_append l its.toArray n u (by rw [List.size_toArray]; omega)) ⟨e, ?_⟩
  refine ⟨.non, _, I.lset (its' := its ++ [u]) hH e (by simp) (r.append (.cons ru .nil)) ?_, rfl, q⟩
  rw [List.length_append, List.length_singleton]
  omega
def rExtend : V → List V → Hp → VK → Prop := fun x vs H Q => ∃ l b xs zs, x = .ref l ∧ vs = [.ref b] ∧ H l = some (.lst xs) ∧ H b = some (.lst zs) ∧ xs.length + zs.length ≤ sizeLine ∧ Q .non (upd H l (.lst (xs ++ zs)))
theorem mt_extend : MtM X "list.extend" rExtend := by
  intro pins s σ H x vs v us Q I rx rv h
  obtain ⟨l, b, xs, zs, rfl, rfl, hH, hB, hz, q⟩ := h
  cases rx
  obtain ⟨u, rfl, ru⟩ := rv.one
  cases ru
  obtain ⟨z, its, n, r, hl, e⟩ := I.lstM hH
  obtain ⟨z2, its2, n2, r2, hl2, e2⟩ := I.lstM hB
  have hsz : its.toArray.size + its2.toArray.size ≤ sizeLine := by rw [List.size_toArray, List.size_toArray]; omega
  have hlong : ¬ (!its.toArray.isEmpty && Builtin.List.listTooLong (its.toArray.size + its2.toArray.size)) = true := by
    rw [notLongL hsz, Bool.and_false]
    exact Bool.false_ne_true
  refine call_meets F.slot_list_extend ⟨_, e, rfl⟩ F.entry_list_extend (F.args_list_extend_2 _ _)
    (AutoSeq1.list_extend_list_list_0 l its.toArray n b its2.toArray n2 hlong (by rw [List.size_toArray]; omega) (by omega)) ⟨e, e2, ?_⟩
  refine ⟨.non, _, I.lset (its' := its ++ its2) hH e (by simp) (r.append r2) ?_, rfl, q⟩
  rw [List.length_append]
  omega
def rPop : V → List V → Hp → VK → Prop := fun x vs H Q => ∃ l xs y, x = .ref l ∧ vs = [] ∧ H l = some (.lst xs) ∧ xs[xs.length - 1]? = some y ∧ Q y (upd H l (.lst xs.dropLast))
theorem mt_pop : MtM X "list.pop" rPop := by
  intro pins s σ H x vs v us Q I rx rv h
  obtain ⟨l, xs, y, rfl, rfl, hH, hy, q⟩ := h
  cases rx
  have hus := rv.zero
  subst hus
  obtain ⟨z, its, n, r, hl, e⟩ := I.lstM hH
  obtain ⟨u, hu, ru⟩ := r.get hy
  have hy' : its.toArray[its.toArray.size - 1]? = some u := by
    show its.toArray[its.length - 1]? = some u
    rw [← Array.getElem?_toList, ← hl]
    exact hu
  refine call_meets F.slot_list_pop ⟨_, e, rfl⟩ F.entry_list_pop (F.args_list_pop_1 _) (MeetsSeq.list_pop_last l its.toArray n u hy' (by rw [List.size_toArray]; omega)) ⟨e, ?_⟩
  refine ⟨y, _, I.lset (its' := its.dropLast) hH e ?_ r.dropLast ?_, ru, q⟩
  · show its.toArray.eraseIdxIfInBounds (its.toArray.size - 1) = its.dropLast.toArray
    rw [List.size_toArray, List.eraseIdxIfInBounds_toArray, erase_last]
  · rw [List.length_dropLast]
    omega
def rPopAt : V → List V → Hp → VK → Prop := fun x vs H Q => ∃ l xs i k y, x = .ref l ∧ vs = [.int i] ∧ H l = some (.lst xs) ∧ -(2 ^ 63) ≤ i ∧ i < 2 ^ 63 ∧ seqIndex? i xs.length = some k ∧ xs[k]? = some y ∧ Q y (upd H l (.lst (xs.eraseIdx k)))
def rReverse : V → List V → Hp → VK → Prop := fun x vs H Q => ∃ l xs, x = .ref l ∧ vs = [] ∧ H l = some (.lst xs) ∧ Q .non (upd H l (.lst xs.reverse))
def rClear : V → List V → Hp → VK → Prop := fun x vs H Q => ∃ l xs, x = .ref l ∧ vs = [] ∧ H l = some (.lst xs) ∧ Q .non (upd H l (.lst []))
theorem mt_clear : MtM X "list.clear" rClear := by
  intro pins s σ H x vs v us Q I rx rv h
  obtain ⟨l, xs, rfl, rfl, hH, q⟩ := h
  cases rx
  have hus := rv.zero
  subst hus
  obtain ⟨z, its, n, r, hl, e⟩ := I.lstM hH
  refine call_meets F.slot_list_clear ⟨_, e, rfl⟩ F.entry_list_clear (F.args_list_clear_1 _) (AutoSeq1.list_clear_list_0 l its.toArray n (by rw [List.size_toArray]; omega)) ⟨e, ?_⟩
  exact ⟨.non, _, I.lset (its' := []) (ys := []) hH e rfl .nil (Nat.zero_le _), rfl, q⟩
/-! ### list + list, list += list, list * int -/
def rCat : R2 := fun x y H Q => ∃ l b xs zs, x = .ref l ∧ y = .ref b ∧ H l = some (.lst xs) ∧ H b = some (.lst zs) ∧ xs.length + zs.length ≤ sizeLine ∧ ∀ p, H p = none → Q (.ref p) (upd H p (.lst (xs ++ zs)))
theorem op_cat : OpR X (binaryOp .Add) rCat := by
  intro pins s σ H x y v u Q I rx ry h
  obtain ⟨l, b, xs, zs, rfl, rfl, hH, hB, hz, q⟩ := h
  cases rx
  cases ry
  obtain ⟨z, its, n, r, hl, e⟩ := I.lstM hH
  obtain ⟨z2, its2, n2, r2, hl2, e2⟩ := I.lstM hB
  refine PySem.P.add_list e e2 ?_ (by rw [List.size_toArray, List.size_toArray]; omega)
  have ea : its.toArray ++ its2.toArray = (its ++ its2).toArray := by simp
  rw [ea]
  exact ⟨.ref _, _, I.lnew (t' := s.toks) (r.append r2) (by rw [List.length_append]; omega), rfl, q _ I.fresh⟩
/-- a list times an int (a negative one is nothing) -/
def rRep : R2 := fun x y H Q => ∃ l k xs, x = .ref l ∧ y = .int k ∧ H l = some (.lst xs) ∧ -(2 ^ 63) ≤ k ∧ k < 2 ^ 63 ∧ xs.length * k.toNat ≤ sizeLine ∧
  ∀ p, H p = none → Q (.ref p) (upd H p (.lst (List.replicate k.toNat xs).flatten))
/-! ### del xs[i] -/
end
/-! ### xs[a:b] = ys -/
section
variable {prog : Program} {w : World} {A : Around} {E : Value → Shared → Prop} {s : Shared}
end
section
variable {X : Cx}
end
end L2
namespace L2
open PySem PySem.Spec PyProof.Rows
/-! ### lists of pairs as tables -/
section
variable {κ : Type} [DecidableEq κ]
def valV (kvs : List (κ × V)) (k : κ) : Option V := (kvs.find? fun kv => decide (kv.1 = k)).map (·.2)
/-- in its place, or at the end -/
def putK (kvs : List (κ × V)) (k : κ) (v : V) : List (κ × V) :=
  if (kvs.any fun kv => decide (kv.1 = k)) = true then kvs.map (fun kv => if kv.1 = k then (kv.1, v) else kv) else kvs ++ [(k, v)]
def dropK (kvs : List (κ × V)) (k : κ) : List (κ × V) := kvs.filter fun kv => decide (kv.1 ≠ k)
theorem valV_pos {p : κ × V} {r : List (κ × V)} {k : κ} (e : p.1 = k) : valV (p :: r) k = some p.2 := by simp [valV, List.find?_cons, e]
theorem valV_neg {p : κ × V} {r : List (κ × V)} {k : κ} (e : ¬ p.1 = k) : valV (p :: r) k = valV r k := by simp [valV, List.find?_cons, e]
theorem valV_any (k : κ) : ∀ kvs : List (κ × V), (kvs.any fun kv => decide (kv.1 = k)) = (valV kvs k).isSome
  | [] => rfl
  | p :: r => by
    rw [List.any_cons]
    by_cases e : p.1 = k
    · simp only [valV_pos e, decide_eq_true e, Bool.true_or, Option.isSome_some]
    · rw [valV_neg e, decide_eq_false e, Bool.false_or]; exact valV_any k r
theorem length_putK (kvs : List (κ × V)) (k : κ) (v : V) : (putK kvs k v).length ≤ kvs.length + 1 := by
  unfold putK
  split
  · rw [List.length_map]; omega
  · rw [List.length_append, List.length_cons, List.length_nil]; omega
theorem putK_new {kvs : List (κ × V)} {k : κ} (v : V) (h : valV kvs k = none) : putK kvs k v = kvs ++ [(k, v)] := by
  unfold putK
  rw [valV_any, h]
  exact if_neg (by decide)
theorem RelO.isSome_eq {o : Option V} {u : Option Value} (r : RelO o u) : o.isSome = u.isSome := by
  cases o with
  | none => cases u with
    | none => rfl
    | some _ => exact (show False from r).elim
  | some _ => cases u with
    | none => exact (show False from r).elim
    | some _ => rfl
theorem RelO.getD {o : Option V} {u : Option Value} {d : V} {d' : Value} (r : RelO o u) (rd : RelV d d') : RelV (o.getD d) (u.getD d') := by
  cases o with
  | none => cases u with
    | none => exact rd
    | some _ => exact (show False from r).elim
  | some _ => cases u with
    | none => exact (show False from r).elim
    | some _ => exact r
/-- raw tables of the same keys -/
theorem KV.val {kvs : List (κ × V)} {vs : List (κ × Value)} (r : KV kvs vs) (k : κ) : RelO (valV kvs k) (valueAt vs k) := by
  unfold KV at r
  induction r with
  | nil => exact True.intro
  | @cons p q ps qs h t ih =>
    obtain ⟨h1, h2⟩ := h
    by_cases e : p.1 = k
    · have e' : q.1 = k := h1.symm.trans e
      have b : valueAt (q :: qs) k = some q.2 := by simp [valueAt, List.find?_cons, e']
      rw [valV_pos e, b]; exact h2
    · have e' : ¬ q.1 = k := fun z => e (h1.trans z)
      have b : valueAt (q :: qs) k = valueAt qs k := by simp [valueAt, List.find?_cons, e']
      rw [valV_neg e, b]; exact ih
theorem KV.any {kvs : List (κ × V)} {vs : List (κ × Value)} (r : KV kvs vs) (k : κ) : (kvs.any fun kv => decide (kv.1 = k)) = vs.any fun kv => decide (kv.1 = k) := by
  unfold KV at r
  induction r with
  | nil => rfl
  | cons h t ih => rw [List.any_cons, List.any_cons, ih, h.1]
theorem KV.repl {kvs : List (κ × V)} {vs : List (κ × Value)} (r : KV kvs vs) (k : κ) {y : V} {u : Value} (ry : RelV y u) :
    KV (kvs.map fun kv => if kv.1 = k then (kv.1, y) else kv) (vs.map fun kv => if kv.1 = k then (kv.1, u) else kv) := by
  unfold KV at r ⊢
  induction r with
  | nil => exact .nil
  | @cons p q ps qs h t ih =>
    rw [List.map_cons, List.map_cons]
    refine .cons ?_ ih
    obtain ⟨h1, h2⟩ := h
    by_cases e : p.1 = k
    · rw [if_pos e, if_pos (h1.symm.trans e)]; exact ⟨h1, ry⟩
    · rw [if_neg e, if_neg (fun z => e (h1.trans z))]; exact ⟨h1, h2⟩
theorem KV.put {kvs : List (κ × V)} {vs : List (κ × Value)} (r : KV kvs vs) (k : κ) {y : V} {u : Value} (ry : RelV y u) : KV (putK kvs k y) (stored vs k u) := by
  unfold putK stored
  rw [r.any k]
  by_cases e : (vs.any fun kv => decide (kv.1 = k)) = true
  · rw [if_pos e, if_pos e]; exact r.repl k ry
  · rw [if_neg e, if_neg e]; exact Paired.snoc r ⟨rfl, ry⟩
theorem KV.drop {kvs : List (κ × V)} {vs : List (κ × Value)} (r : KV kvs vs) (k : κ) : KV (dropK kvs k) (without vs k) := by
  unfold KV at r ⊢
  unfold dropK without
  induction r with
  | nil => exact .nil
  | @cons p q ps qs h t ih =>
    obtain ⟨h1, h2⟩ := h
    rw [List.filter_cons, List.filter_cons]
    by_cases e : p.1 = k
    · have a : ¬ decide (p.1 ≠ k) = true := by simp [e]
      have b : ¬ decide (q.1 ≠ k) = true := by simp [h1.symm.trans e]
      rw [if_neg a, if_neg b]; exact ih
    · have e' : ¬ q.1 = k := fun z => e (h1.trans z)
      have a : decide (p.1 ≠ k) = true := by simp [e]
      have b : decide (q.1 ≠ k) = true := by simp [e']
      rw [if_pos a, if_pos b]; exact .cons ⟨h1, h2⟩ ih
theorem KV.keys {kvs : List (κ × V)} {vs : List (κ × Value)} (r : KV kvs vs) : kvs.map (·.1) = vs.map (·.1) := by
  unfold KV at r
  induction r with
  | nil => rfl
  | cons h t ih => rw [List.map_cons, List.map_cons, ih, h.1]
theorem KV.length {kvs : List (κ × V)} {vs : List (κ × Value)} (r : KV kvs vs) : kvs.length = vs.length := Paired.length r
end
/-! ### a tracked dict, its keys ints and texts or tuples of these -/
theorem kV_is {P : Program} {w : World} {k : Key} {u : Value} (r : RelV (kV k) u) : (mixKind P w).is k u = true := by
  cases k with
  | inl i => obtain ⟨t, e⟩ := (show ∃ t, u = Value.int i t from r); subst e; exact mixKind_int P w i t
  | inr x => obtain ⟨t, e⟩ := (show ∃ t, u = Value.str x t from r); subst e; exact mixKind_str P w x t
theorem items_are {P : Program} {w : World} : ∀ {ks : List Key} {us : List Value}, Vals (ks.map kV) us → ItemsAre (mixKind P w) ks us
  | [], _, r => by rw [List.map_nil] at r; cases r; exact .nil
  | k :: ks, _, r => by
    rw [List.map_cons] at r
    cases r with
    | cons h t => exact .cons (kV_is h) (items_are t)
/-- raw entries of a dict with tuple keys -/
abbrev KT (H : Hp) : List (List Key × V) → List (List Key × Addr × Value) → Prop := Paired fun p q => p.1 = q.1 ∧ H q.2.1 = some (.tup (p.1.map kV)) ∧ RelV p.2 q.2.2
theorem KT.val {H : Hp} {kvs : List (List Key × V)} {xs : List (List Key × Addr × Value)} (r : KT H kvs xs) (k : List Key) : RelO (valV kvs k) ((atKey xs k).map (·.2)) := by
  induction r with
  | nil => exact True.intro
  | @cons p q ps qs h t ih =>
    obtain ⟨h1, _, h2⟩ := h
    by_cases e : p.1 = k
    · have e' : q.1 = k := h1.symm.trans e
      have b : atKey (q :: qs) k = some q.2 := by simp [atKey, List.find?_cons, e']
      rw [valV_pos e, b]; exact h2
    · have e' : ¬ q.1 = k := fun z => e (h1.trans z)
      have b : atKey (q :: qs) k = atKey qs k := by simp [atKey, List.find?_cons, e']
      rw [valV_neg e, b]; exact ih
theorem KT.repl {H : Hp} {kvs : List (List Key × V)} {xs : List (List Key × Addr × Value)} (r : KT H kvs xs) (k : List Key) {y : V} {u : Value} (ry : RelV y u) :
    KT H (kvs.map fun kv => if kv.1 = k then (kv.1, y) else kv) (xs.map (putAt k u)) := by
  induction r with
  | nil => exact .nil
  | @cons p q ps qs h t ih =>
    rw [List.map_cons, List.map_cons]
    refine .cons ?_ ih
    obtain ⟨h1, h2, h3⟩ := h
    unfold putAt
    by_cases e : p.1 = k
    · rw [if_pos e, if_pos (h1.symm.trans e)]; exact ⟨h1, h2, ry⟩
    · rw [if_neg e, if_neg (fun z => e (h1.trans z))]; exact ⟨h1, h2, h3⟩
theorem KT.put {H : Hp} {kvs : List (List Key × V)} {xs : List (List Key × Addr × Value)} (r : KT H kvs xs) (k : List Key) {b : Addr} {y : V} {u : Value} (hb : H b = some (.tup (k.map kV))) (ry : RelV y u) :
    KT H (putK kvs k y) (storedH xs k b u) := by
  have e : (kvs.any fun kv => decide (kv.1 = k)) = (atKey xs k).isSome := by
    rw [valV_any, (r.val k).isSome_eq, Option.isSome_map]
  unfold putK storedH
  rw [e]
  by_cases q : (atKey xs k).isSome = true
  · rw [if_pos q, if_pos q]; exact r.repl k ry
  · rw [if_neg q, if_neg q]; exact Paired.snoc r ⟨rfl, hb, ry⟩
theorem KT.keeps {H H' : Hp} {kvs : List (List Key × V)} {xs : List (List Key × Addr × Value)} (r : KT H kvs xs) (ht : ∀ b ys, H b = some (.tup ys) → H' b = some (.tup ys)) : KT H' kvs xs :=
  Paired.mapP r fun _ _ z => ⟨z.1, ht _ _ z.2.1, z.2.2⟩
section
variable {P : Program} {w : World} {H : Hp} {h : Heap} {a : Addr}
theorem rd_of {u : HO} (ok : HOk P w H h) (e : Rd H a u) : ObjOk P w H h a u := e.ok ok
theorem dk_rd {kvs : List (Key × V)} (ok : HOk P w H h) (e : Rd H a (.dK kvs)) : kvs.length ≤ sizeLine ∧ (a == sysModules) = false ∧ ∃ vs, KV kvs vs ∧ h.DictOf (mixKind P w) a vs :=
  show ObjOk P w H h a (.dK kvs) from rd_of ok e
theorem dk_of {kvs : List (Key × V)} (ok : HOk P w H h) (e : H a = some (.dK kvs)) : kvs.length ≤ sizeLine ∧ (a == sysModules) = false ∧ ∃ vs, KV kvs vs ∧ h.DictOf (mixKind P w) a vs := dk_rd ok (.inl e)
/-- a tracked tuple of ints and texts is a key -/
theorem key_of {ks : List Key} (ok : HOk P w H h) (e : H a = some (.tup (ks.map kV))) : (tupleKind (mixKind P w)).is h ks a := by
  obtain ⟨_, its, r, o, h1, h2, n, h3⟩ := (show ObjOk P w H h a (.tup (ks.map kV)) from ok a _ e)
  exact ⟨o, its.toArray, n, h1, h2, h3, by simpa using items_are r⟩
theorem dt_rd {kvs : List (List Key × V)} (ok : HOk P w H h) (e : Rd H a (.dT kvs)) : kvs.length ≤ sizeLine ∧ (a == sysModules) = false ∧
    ∃ xs, KT H kvs xs ∧ h.DictOfH (tupleKind (mixKind P w)) a xs := by
  obtain ⟨z, y, xs, r, o, es, ep, h1, h2, h3, h4, h5⟩ := (show ObjOk P w H h a (.dT kvs) from rd_of ok e)
  refine ⟨z, y, xs, r, o, es, ep, h1, h2, h3, h4, fun x hx => ?_, h5⟩
  have all : ∀ {l : List (List Key × V)} {m : List (List Key × Addr × Value)}, KT H l m → ∀ x ∈ m, (tupleKind (mixKind P w)).is h x.1 x.2.1 := by
    intro l m q
    induction q with
    | nil => intro x hx; exact nomatch hx
    | @cons p q ps qs hq t ih =>
      intro x hx
      rcases List.mem_cons.mp hx with e | hx
      · subst e
        exact key_of ok (by rw [← hq.1]; exact hq.2.1)
      · exact ih x hx
  exact all r x hx
theorem dt_of {kvs : List (List Key × V)} (ok : HOk P w H h) (e : H a = some (.dT kvs)) : kvs.length ≤ sizeLine ∧ (a == sysModules) = false ∧
    ∃ xs, KT H kvs xs ∧ h.DictOfH (tupleKind (mixKind P w)) a xs := dt_rd ok (.inl e)
end
/-- what the dict at a holds at the key y -/
def DGet (H : Hp) (a : Addr) (y : V) (r : Option V) : Prop :=
  (∃ kvs k, Rd H a (.dK kvs) ∧ y = kV k ∧ r = valV kvs k) ∨ ∃ kvs k b, Rd H a (.dT kvs) ∧ y = .ref b ∧ H b = some (.tup (k.map kV)) ∧ r = valV kvs k
/-- the heap behind a[y] = v -/
def DPut (H : Hp) (a : Addr) (y v : V) (H' : Hp) : Prop :=
  (∃ kvs k, H a = some (.dK kvs) ∧ y = kV k ∧ kvs.length < sizeLine ∧ H' = upd H a (.dK (putK kvs k v))) ∨
  ∃ kvs k b, H a = some (.dT kvs) ∧ y = .ref b ∧ H b = some (.tup (k.map kV)) ∧ kvs.length < sizeLine ∧ H' = upd H a (.dT (putK kvs k v))
theorem DGet.k {H : Hp} {a : Addr} {kvs : List (Key × V)} {k : Key} (e : H a = some (.dK kvs)) : DGet H a (kV k) (valV kvs k) := .inl ⟨kvs, k, .inl e, rfl, rfl⟩
theorem DGet.t {H : Hp} {a b : Addr} {kvs : List (List Key × V)} {k : List Key} (e : H a = some (.dT kvs)) (eb : H b = some (.tup (k.map kV))) : DGet H a (.ref b) (valV kvs k) := .inr ⟨kvs, k, b, .inl e, rfl, eb, rfl⟩
theorem DPut.k {H : Hp} {a : Addr} {kvs : List (Key × V)} {k : Key} {v : V} (e : H a = some (.dK kvs)) (hl : kvs.length < sizeLine) : DPut H a (kV k) v (upd H a (.dK (putK kvs k v))) := .inl ⟨kvs, k, e, rfl, hl, rfl⟩
theorem DPut.t {H : Hp} {a b : Addr} {kvs : List (List Key × V)} {k : List Key} {v : V} (e : H a = some (.dT kvs)) (eb : H b = some (.tup (k.map kV))) (hl : kvs.length < sizeLine) :
    DPut H a (.ref b) v (upd H a (.dT (putK kvs k v))) := .inr ⟨kvs, k, b, e, rfl, eb, hl, rfl⟩
section
variable {X : Cx} {pins : List (Addr × Obj)} {σ : St} {H : Hp} {s : Shared} {a : Addr} {y v : V} {u r : Value} {o : Option V} {A : Around} {E : Value → Shared → Prop}
theorem Inv.big (I : Inv X pins σ H s) : sysModules < s.heap.objs.size := by
  have h : mainGlobals < s.heap.objs.size := (I.mod.glob.keeps I.bk).lt
  exact Nat.lt_trans (by decide) h
/-- d[y], there -/
theorem d_getItem {Q : Value → Shared → Prop} (hu : A.units + 1 < cLine) (I : Inv X pins σ H s) (g : DGet H a y (some v)) (ry : RelV y u) (h : ∀ w' s', Inv X pins σ H s' → RelV v w' → Q w' s') :
    wpAny (model X.prog X.w) A (getItem (.ref a) u) Q E s := by
  rcases g with ⟨kvs, k, e, ey, l⟩ | ⟨kvs, k, b, e, ey, eb, l⟩
  · subst ey
    obtain ⟨z, hd, vs, rel, dd⟩ := dk_rd I.hok e
    obtain ⟨w', hw, rw'⟩ := RelO.some_of (v := v) (o := valueAt vs k) (by rw [l]; exact rel.val k)
    exact wpAny_getItem_of (kV_is ry) dd.mapOf hw (h w' _ (I.tok _) rw')
  · subst ey
    cases (show u = Value.ref b from ry)
    obtain ⟨z, hd, xs, rel, dd⟩ := dt_rd I.hok e
    obtain ⟨w', hw, rw'⟩ := RelO.some_of (v := v) (o := (atKey xs k).map (·.2)) (by rw [l]; exact rel.val k)
    obtain ⟨p, hp, hp2⟩ := Option.map_eq_some_iff.mp hw
    refine wpAny_getItem_heap (tupleKind_room_in1 hu) (key_of I.hok eb) dd hp ?_
    rw [hp2]
    exact h w' _ (I.tok _) rw'
theorem d_notIn {Q : Value → Shared → Prop} (hu : A.units + 1 < cLine) (I : Inv X pins σ H s) (g : DGet H a y o) (ry : RelV y u) (h : ∀ s', Inv X pins σ H s' → Q (.bool (!o.isSome)) s') :
    wpAny (model X.prog X.w) A (compareOp .NotIn u (.ref a)) Q E s := by
  rcases g with ⟨kvs, k, e, ey, l⟩ | ⟨kvs, k, b, e, ey, eb, l⟩
  · subst ey
    obtain ⟨z, hd, vs, rel, dd⟩ := dk_rd I.hok e
    refine wpAny_notIn_of (kV_is ry) hd dd.mapOf ?_
    rw [← (rel.val k).isSome_eq, ← l]
    exact h _ (I.tok _)
  · subst ey
    cases (show u = Value.ref b from ry)
    obtain ⟨z, hd, xs, rel, dd⟩ := dt_rd I.hok e
    refine wpAny_notIn_heap (tupleKind_room_in1 hu) (key_of I.hok eb) hd dd ?_
    have q := (rel.val k).isSome_eq
    rw [Option.isSome_map] at q
    rw [← q, ← l]
    exact h _ (I.tok _)
/-- a dict's object is replaced -/
theorem d_write {h' : Heap} {t' : Nat} {ob : HO} (I : Inv X pins σ H s) (mu : Mut (H a)) (hs : Heap.SameBut a s.heap h') (he : ∃ q, h'.get? a = some q) (new : ObjOk X.prog X.w (upd H a ob) h' a ob) :
    Inv X pins σ (upd H a ob) { s with heap := h', toks := t' } :=
  I.write (x := a) (e := a) mu (.inl rfl) (fun b q hb z => (hs.2 b hb).trans z) he new
theorem dk_new {P : Program} {w : World} {H' : Hp} {h' : Heap} {kvs : List (Key × V)} {vs : List (Key × Value)} (z : kvs.length ≤ sizeLine) (hd : (a == sysModules) = false) (rel : KV kvs vs) (dd : h'.DictOf (mixKind P w) a vs) :
    ObjOk P w H' h' a (.dK kvs) := ⟨z, hd, vs, rel, dd⟩
/-- d[y] = v -/
theorem d_setItem {H' : Hp} {Q : Unit → Shared → Prop} (hu : A.units + 1 < cLine) (I : Inv X pins σ H s) (g : DPut H a y v H') (ry : RelV y u) (rv : RelV v r) (h : ∀ s', Inv X pins σ H' s' → Q () s') :
    wpAny (model X.prog X.w) A (setItem (.ref a) u r) Q E s := by
  rcases g with ⟨kvs, k, e, ey, l, eH⟩ | ⟨kvs, k, b, e, ey, eb, l, eH⟩
  · subst ey eH
    obtain ⟨z, hd, vs, rel, dd⟩ := dk_of I.hok e
    have hz : vs.length ≤ sizeLine := by rw [← rel.length]; exact z
    have hl : (putK kvs k v).length ≤ sizeLine := by have := length_putK kvs k v; omega
    refine wpAny_setItem_pairs (hsz := hz) (kV_is ry) dd fun h' dd' hs => h _ ?_
    have he : ∃ q, h'.get? a = some q := let ⟨q, _, _, hq, _⟩ := dd'; ⟨q, hq⟩
    exact d_write I (by rw [e]; exact True.intro) hs he (dk_new hl hd (rel.put k rv) dd')
  · subst ey eH
    cases (show u = Value.ref b from ry)
    obtain ⟨z, hd, xs, rel, dd⟩ := dt_of I.hok e
    have hz : xs.length ≤ sizeLine := by rw [← Paired.length rel]; exact z
    have hl : (putK kvs k v).length ≤ sizeLine := by have := length_putK kvs k v; omega
    refine wpAny_setItem_heap (hsz := hz) (tupleKind_room_in1 hu) (key_of I.hok eb) dd fun h' dd' hs => h _ ?_
    obtain ⟨q, es, ep, hq, h2, h3, h4, _, h5⟩ := dd'
    refine d_write I (by rw [e]; exact True.intro) hs ⟨q, hq⟩ ⟨hl, hd, _, (rel.put k eb rv).keeps fun c ys ec => ?_, q, es, ep, hq, h2, h3, h4, h5⟩
    rw [upd_ne (ne_of ec e (fun z => nomatch z))]
    exact ec
end
section
variable {X : Cx} {pins : List (Addr × Obj)} {σ : St} {H : Hp} {s : Shared} {a : Addr} {kvs : List (Key × V)} {k : Key} {u : Value} {A : Around} {E : Value → Shared → Prop}
/-- len(d) -/
theorem d_len {Q : Value → Shared → Prop} (I : Inv X pins σ H s) (e : Rd H a (.dK kvs)) (h : ∀ t s', Inv X pins σ H s' → Q (.int kvs.length t) s') : wpAny (model X.prog X.w) A (call (.builtin "len") [.ref a]) Q E s := by
  obtain ⟨z, hd, vs, rel, dd⟩ := dk_rd I.hok e
  refine call_len_dict hd dd (by rw [← rel.length]; rw [sizeLine_eq] at z; omega) ?_
  rw [← rel.length]
  exact h _ _ (I.tok _)
end
/-! ### readings and rules -/
/-- the element of a subscription, not a slice -/
def NoSl (i : Expr) : Prop := ∀ ov iv, subscripted i false ov iv = operate [ov, iv] (getItem ov iv)
theorem subD_of {prog : Program} {w : World} {A : Around} {E : Value → Shared → Prop} {s : Shared} {env : Env} {value slice : Expr} {pos : Pos} {T id : String} {Q : Value → Shared → Prop}
    (hl : typeLookup (.type T) "__getitem__" = pure (some (.builtin id))) (hs : NoSl slice)
    (h : wpAny (model prog w) A (eval value env) (fun o s₁ => wpAny (model prog w) A (eval slice env) (fun i s₂ => s₂.TypeIs o T ∧ wpAny (model prog w) A (getItem o i) Q E s₂) E s₁) E s) :
    wpAny (model prog w) A (eval (.Subscript value slice pos) env) Q E s := by
  refine Subscript_ (wpAny_mono h (fun o s₁ h₁ => wpAny_mono h₁ (fun i s₂ h₂ => ?_) fun _ _ x => x) fun _ _ x => x)
  obtain ⟨hT, h₂⟩ := h₂
  unfold subscriptTail
  refine wpAny_bind ?_
  rw [getitemInPython_of_ne hT.not_modules]
  refine wpAny_bind (wpAny_specialOf hT hl ?_)
  have fin : wpAny (model prog w) A (subscripted slice false o i) (fun r s₃ => wpAny (model prog w) A (letTemporaryGo value o r >>= fun _ => pure r) Q E s₃) E s₂ := by
    rw [hs o i]
    exact wpAny_operating (wpAny_mono h₂ (fun r s₃ h₃ => wpAny_bind (wpAny_letTemporaryGo (wpAny_pure h₃))) fun _ _ x => x)
  first
    | exact wpAny_pure (wpAny_bind fin)
    | exact wpAny_bind (wpAny_pure (wpAny_bind fin))
    | exact wpAny_bind fin
theorem dict_typeIs {X : Cx} {pins : List (Addr × Obj)} {σ : St} {H : Hp} {s : Shared} {a : Addr} {y : V} {o : Option V} (I : Inv X pins σ H s) (g : DGet H a y o) : s.TypeIs (.ref a) "dict" := by
  rcases g with ⟨kvs, k, e, _, _⟩ | ⟨kvs, k, b, e, _, _, _⟩
  · obtain ⟨_, _, vs, _, dd⟩ := dk_rd I.hok e
    exact dd.typeIs
  · obtain ⟨_, _, xs, _, dd⟩ := dt_rd I.hok e
    exact dd.typeIs
/-- d[y] -/
def tDGet (td ty : TE) : TE := fun σ H Q => td σ H fun x H1 => ty σ H1 fun y H2 => ∃ a v, x = .ref a ∧ DGet H2 a y (some v) ∧ Q v H2
/-- y in d, y not in d -/
def tDIn (ty td : TE) : TE := fun σ H Q => ty σ H fun y H1 => td σ H1 fun x H2 => ∃ a o, x = .ref a ∧ DGet H2 a y o ∧ Q (.bl o.isSome) H2
def tDNotIn (ty td : TE) : TE := fun σ H Q => ty σ H fun y H1 => td σ H1 fun x H2 => ∃ a o, x = .ref a ∧ DGet H2 a y o ∧ Q (.bl (!o.isSome)) H2
/-- d[y] = v -/
def sDPut (td ty tv : TE) : TS := fun D σ H => tv σ H fun v H1 => td σ H1 fun x H2 => ty σ H2 fun y H3 => ∃ a H4, x = .ref a ∧ DPut H3 a y v H4 ∧ D.nx σ H4
/-- d[y] op= v -/
def sDAug (td ty tv : TE) (rd : V → V → Hp → VK → Prop) : TS := fun D σ H => td σ H fun x H1 => ty σ H1 fun y H2 => ∃ a v, x = .ref a ∧ DGet H2 a y (some v) ∧
  tv σ H2 fun y2 H3 => rd v y2 H3 fun z H4 => ∃ H5, DPut H4 a y z H5 ∧ D.nx σ H5
/-- del d[y] -/
def sDDel (td ty : TE) : TS := fun D σ H => td σ H fun x H1 => ty σ H1 fun y H2 => ∃ a kvs k, x = .ref a ∧ H2 a = some (.dK kvs) ∧ y = kV k ∧ (valV kvs k).isSome = true ∧ D.nx σ (upd H2 a (.dK (dropK kvs k)))
section
variable {X : Cx} {o i e value : Expr} {pos pos' tpos : Pos} {td ty tv : TE}
theorem pe_dget (hu : X.A.units + 1 < cLine) (ho : PE X o td) (hi : PE X i ty) (hs : NoSl i) : PE X (.Subscript o i pos) (tDGet td ty) := by
  intro pins s σ H Q I h
  refine subD_of PySem.F.slot_dict_getitem.lookup hs (thn (ho pins s σ H _ I h) fun u s1 ⟨x, H1, I1, rx, q1⟩ => thn (hi pins s1 σ H1 _ I1 q1) fun iv s2 ⟨y, H2, I2, ry, a, v, ex, g, q2⟩ => ?_)
  subst ex
  obtain rfl : u = Value.ref a := rx
  exact ⟨dict_typeIs I2 g, d_getItem hu I2 g ry fun w' s3 I3 rw' => ⟨v, H2, I3, rw', q2⟩⟩
theorem ps_dput (hu : X.A.units + 1 < cLine) (ho : PE X o td) (hi : PE X i ty) (hv : PE X value tv) (hs : swapsWith value (some (.Subscript o i pos')) pos.line X.env = pure false) :
    PS X (.Assign [.Subscript o i pos'] value pos) (sDPut td ty tv) := by
  intro pins s σ H D I h
  refine wpAny_Assign_Subscript (thn (hv pins s σ H _ I h) fun r s1 ⟨v, H1, I1, rv, q1⟩ => thn (ho pins s1 σ H1 _ I1 q1) fun u s2 ⟨x, H2, I2, rx, q2⟩ => thn (hi pins s2 σ H2 _ I2 q2) fun iv s3 ⟨y, H3, I3, ry, a, H4, ex, g, q3⟩ => ?_) hs
  subst ex
  obtain rfl : u = Value.ref a := rx
  exact d_setItem hu I3 g ry rv fun s4 I4 => ⟨σ, H4, I4, q3⟩
end
/-! ### displays -/
theorem dk_empty {P : Program} {w : World} {H : Hp} (h : Heap) (hb : sysModules < h.objs.size) : ObjOk P w H (h.push { cls := .type "dict", data := .dict #[] }) h.objs.size (.dK []) :=
  ⟨Nat.zero_le _, beq_eq_false_iff_ne.mpr (Ne.symm (Nat.ne_of_lt hb)), [], .nil, Heap.DictOf.new h⟩
/-- {}, to be a dict of the kind that is wanted -/
def tDNewK : TE := fun _ H Q => ∀ p, H p = none → Q (.ref p) (upd H p (.dK []))
def tDNewT : TE := fun _ H Q => ∀ p, H p = none → Q (.ref p) (upd H p (.dT []))
section
variable {X : Cx} {pos : Pos}
theorem pe_dnewK : PE X (.Dict [] [] pos) tDNewK := fun pins s σ H Q I h =>
  wpAny_Dict_empty ⟨.ref s.heap.objs.size, _, I.laid (a := s.heap.objs.size) (o := .dK []) (t' := s.toks) (fun _ _ q => Heap.get?_push_of_some _ q) (Nat.le_refl _) (dk_empty s.heap I.big), rfl, h _ (I.hok.fresh (Nat.le_refl _))⟩
end
/-- the pairs of a display, from the left -/
def tPairs : List (TE × TE) → St → Hp → (List (V × V) → Hp → Prop) → Prop
  | [], _, H, Q => Q [] H
  | (tk, tv) :: r, σ, H, Q => tk σ H fun x H1 => tv σ H1 fun y H2 => tPairs r σ H2 fun ps H3 => Q ((x, y) :: ps) H3
abbrev VV : List (V × V) → List (Value × Value) → Prop := Paired fun p q => RelV p.1 q.1 ∧ RelV p.2 q.2
def PPs (X : Cx) (pos : Pos) (keys : List (Option Expr)) (values : List Expr) (trs : List (TE × TE)) : Prop :=
  ∀ (pins : List (Addr × Obj)) (s : Shared) (σ : St) (H : Hp) (Q : List (V × V) → Hp → Prop), Inv X pins σ H s → tPairs trs σ H Q →
    wpAny (model X.prog X.w) X.A (evalPairs (pairTrees keys values X.env pos)) (fun vs s' => ∃ ps H', Inv X pins σ H' s' ∧ VV ps vs ∧ Q ps H') X.xe s
def mergeK (kvs more : List (Key × V)) : List (Key × V) := more.foldl (fun acc kv => putK acc kv.1 kv.2) kvs
/-- {k: v, ..} with keys ints and texts; the new dict stands empty while the pairs are made -/
def tDisp (trs : List (TE × TE)) : TE := fun σ H Q => ∀ p, H p = none → tPairs trs σ (upd H p (.dK [])) fun ps H2 => H2 p = some (.dK []) ∧ ∃ kvs : List (Key × V), ps = kvs.map (fun kv => (kV kv.1, kv.2)) ∧ kvs.length ≤ 15 ∧ Q (.ref p) (upd H2 p (.dK (mergeK [] kvs)))
/-! ### methods -/
/-- a method call o.m(e) of a built-in, with one argument: what must be seen of the text -/
structure M1 (X : Cx) (o : Expr) (m : Str) (apos : Pos) (e : Expr) (cpos : Pos) : Prop where
  base : attributeBase o m X.env (eval o X.env) = eval o X.env
  few : ((backTo cpos (starEach [e] X.env)).all (fun x => !x.1) && (backToKw cpos (keywordEach [] X.env)).all (fun x => x.1.isSome)
    && decide (([e] : List Expr).length + ([] : List Keyword).length + (if ([] : List Keyword).isEmpty then 0 else 1) < 30)) = true
  line : (apos.endLine == cpos.line) = true
  trees : backTo cpos (starEach [e] X.env) = [(false, eval e X.env)]
structure M2 (X : Cx) (o : Expr) (m : Str) (apos : Pos) (e f : Expr) (cpos : Pos) : Prop where
  base : attributeBase o m X.env (eval o X.env) = eval o X.env
  few : ((backTo cpos (starEach [e, f] X.env)).all (fun x => !x.1) && (backToKw cpos (keywordEach [] X.env)).all (fun x => x.1.isSome)
    && decide (([e, f] : List Expr).length + ([] : List Keyword).length + (if ([] : List Keyword).isEmpty then 0 else 1) < 30)) = true
  line : (apos.endLine == cpos.line) = true
  trees : backTo cpos (starEach [e, f] X.env) = [(false, eval e X.env), (false, eval f X.env)]
/-- a is a dict, whatever its keys -/
def IsD (H : Hp) (a : Addr) : Prop := (∃ kvs, Rd H a (.dK kvs)) ∨ ∃ kvs, Rd H a (.dT kvs)
theorem isD_at {X : Cx} {pins : List (Addr × Obj)} {σ : St} {H : Hp} {s : Shared} {a : Addr} (I : Inv X pins σ H s) (d : IsD H a) :
    s.TypeIs (.ref a) "dict" ∧ (∀ b, Value.ref a = .ref b → ∃ ob, s.heap.get? b = some ob ∧ ob.dict = none) ∧ (a == sysModules) = false := by
  rcases d with ⟨kvs, e⟩ | ⟨kvs, e⟩
  · obtain ⟨_, hd, vs, _, dd⟩ := dk_rd I.hok e
    refine ⟨dd.typeIs, fun b q => ?_, hd⟩
    cases q
    obtain ⟨ob, _, _, h1, h2, _⟩ := dd
    exact ⟨ob, h1, h2.2.1⟩
  · obtain ⟨_, hd, xs, _, dd⟩ := dt_rd I.hok e
    refine ⟨dd.typeIs, fun b q => ?_, hd⟩
    cases q
    obtain ⟨ob, _, _, h1, h2, _⟩ := dd
    exact ⟨ob, h1, h2.2.1⟩
section
variable {X : Cx} {pins : List (Addr × Obj)} {σ : St} {H : Hp} {s : Shared} {a : Addr} {y d : V} {u r : Value} {o : Option V} {A : Around} {E : Value → Shared → Prop}
/-- d.get(y, x) -/
theorem d_get2 {Q : Value → Shared → Prop} (hu : A.units + 1 < cLine) (I : Inv X pins σ H s) (g : DGet H a y o) (ry : RelV y u) (rd : RelV d r) (h : ∀ w' s', Inv X pins σ H s' → RelV (o.getD d) w' → Q w' s') :
    wpAny (model X.prog X.w) A (call (.builtin "dict.get") [.ref a, u, r]) Q E s := by
  rcases g with ⟨kvs, k, e, ey, l⟩ | ⟨kvs, k, b, e, ey, eb, l⟩
  · subst ey
    obtain ⟨z, hd, vs, rel, dd⟩ := dk_rd I.hok e
    refine call_meetsIn PySem.F.slot_dict_get dd.typeIs PySem.F.entry_dict_get (PySem.F.args_dict_get_3 _ _ _) (meets_dict_get_default (mixKind X.prog X.w) a (kV_is ry) hd r) ⟨_, dd.mapOf, h _ _ (I.tok _) ?_⟩
    rw [l]
    exact (rel.val k).getD rd
  · subst ey
    cases (show u = Value.ref b from ry)
    obtain ⟨z, hd, xs, rel, dd⟩ := dt_rd I.hok e
    refine call_meetsIn PySem.F.slot_dict_get dd.typeIs PySem.F.entry_dict_get (PySem.F.args_dict_get_3 _ _ _) (meetsH_dict_get_default (tupleKind (mixKind X.prog X.w)) a b hd r) ⟨tupleKind_room_in1 hu, k, xs, key_of I.hok eb, dd, h _ _ (I.tok _) ?_⟩
    rw [l]
    exact (rel.val k).getD rd
end
def tDGet1 (td ty : TE) : TE := fun σ H Q => td σ H fun x H1 => ∃ a, x = .ref a ∧ IsD H1 a ∧ ty σ H1 fun y H2 => ∃ o, DGet H2 a y o ∧ Q (o.getD .non) H2
def tDGet2 (td ty tx : TE) : TE := fun σ H Q => td σ H fun x H1 => ∃ a, x = .ref a ∧ IsD H1 a ∧ ty σ H1 fun y H2 => tx σ H2 fun z H3 => ∃ o, DGet H3 a y o ∧ Q (o.getD z) H3
/-- d.pop(k): there; d.pop(k, x): there or not -/
def tDPop1 (td ty : TE) : TE := fun σ H Q => td σ H fun x H1 => ∃ a, x = .ref a ∧ IsD H1 a ∧ ty σ H1 fun y H2 => ∃ kvs k v, H2 a = some (.dK kvs) ∧ y = kV k ∧ valV kvs k = some v ∧ Q v (upd H2 a (.dK (dropK kvs k)))
def tDPop2 (td ty tx : TE) : TE := fun σ H Q => td σ H fun x H1 => ∃ a, x = .ref a ∧ IsD H1 a ∧ ty σ H1 fun y H2 => tx σ H2 fun z H3 => ∃ kvs k, H3 a = some (.dK kvs) ∧ y = kV k ∧
  (∀ v, valV kvs k = some v → Q v (upd H3 a (.dK (dropK kvs k)))) ∧ (valV kvs k = none → Q z H3)
section
variable {X : Cx} {o e f : Expr} {apos cpos : Pos} {td ty tx : TE}
theorem pe_dget2 (hu : X.A.units + 1 < cLine) (ho : PE X o td) (he : PE X e ty) (hf : PE X f tx) (m : M2 X o "get" apos e f cpos) : PE X (.Call (.Attribute o "get" apos) [e, f] [] cpos) (tDGet2 td ty tx) := by
  intro pins s σ H Q I h
  refine wpAny_Call_method m.base m.few m.line PySem.F.plainAttrs_dict PySem.F.slot_dict_get PySem.F.type_dict_get (thn (ho pins s σ H _ I h) fun u s1 ⟨x, H1, I1, rx, a, ex, d, q1⟩ => ?_)
  subst ex
  obtain rfl : u = Value.ref a := rx
  obtain ⟨t1, t2, _⟩ := isD_at I1 d
  refine ⟨t1, t2, ?_⟩
  rw [m.trees]
  refine Calls.callWith_builtin rfl (Calls.evalArgs_plain (Calls.spliced_cons (thn (he pins s1 σ H1 _ I1 q1) fun iv s2 ⟨y, H2, I2, ry, q2⟩ =>
    Calls.spliced_cons (thn (hf pins s2 σ H2 _ I2 q2) fun fv s3 ⟨z, H3, I3, rz, ov, g, q3⟩ => Calls.spliced_nil ?_))))
  exact d_get2 hu I3 g ry rz fun w' s4 I4 rw' => ⟨_, H3, I4, rw', q3⟩
end
/-! ### dict(d): a copy -/
section
variable {X : Cx} {pins : List (Addr × Obj)} {σ : St} {H : Hp} {s : Shared} {a : Addr} {kvs : List (Key × V)} {A : Around} {E : Value → Shared → Prop}
theorem d_copyOf {Q : Value → Shared → Prop} (I : Inv X pins σ H s) (e : Rd H a (.dK kvs)) (h : ∀ p s', H p = none → Inv X pins σ (upd H p (.dK kvs)) s' → Q (.ref p) s') : wpAny (model X.prog X.w) A (call (.type "dict") [.ref a]) Q E s := by
  obtain ⟨z, hd, vs, rel, dd⟩ := dk_rd I.hok e
  refine kt_call_dict hd dd (by rw [← rel.length]; exact z) fun h' dd' hs => ?_
  refine h _ _ (I.hok.fresh (Nat.le_refl _)) (I.laid (a := s.heap.objs.size) (o := .dK kvs) (t' := s.toks) (fun b q hq => ?_) (Nat.le_refl _) (dk_new z (beq_eq_false_iff_ne.mpr (Ne.symm (Nat.ne_of_lt I.big))) rel dd'))
  exact (hs.2 b (Nat.ne_of_lt (Heap.lt_size hq))).trans (Heap.get?_push_of_some _ hq)
end
section
variable {X : Cx} {pins : List (Addr × Obj)} {σ : St} {H : Hp} {s : Shared} {a : Addr} {y : V} {u : Value} {A : Around} {E : Value → Shared → Prop}
end
end L2
namespace Att
open PySem PySem.W PySem.Calls PyProof.Rows
/-! ### the script -/
theorem ints_of_wellAll {P : Params} {h : Heap} : ∀ (ns : List Int) (vs : List Value), WellAll P h vs (ns.map WData.int) → IntsAre vs ns := by
  intro ns
  induction ns with
  | nil =>
    intro vs w
    rw [List.map_nil] at w
    cases w
    exact .nil
  | cons n ns ih =>
    intro vs w
    rw [List.map_cons] at w
    cases w with
    | cons a b =>
      cases a
      exact .cons _ _ (ih _ b)
theorem script_of {l : OpenLaw} {n : Nat} (hn : l.most = some n) {P : Params} {h : Heap} {args : List WData} {vals : List Value}
    (hpre : l.row.toRowW.claim.pre args = true) (hwl : WellAll P h vals args) :
    ∃ a vs ns, vals = [Value.ref a] ∧ args = [WData.list (ns.map WData.int)] ∧ h.get? a = some { cls := .type "list", data := .seq vs.toArray } ∧ IntsAre vs ns ∧ ns.length ≤ n := by
  have hsh : WShape.hasAll [] args [.list .int] = true := (pre_splitW hpre).1
  have hc : l.pre.holds [] { args := args } = true := (pre_splitW hpre).2
  obtain ⟨d, r, rfl, h1, h2⟩ := hasAllW_cons hsh
  obtain rfl := hasAllW_nil h2
  obtain ⟨xs, rfl, h3⟩ := hasW_list h1
  obtain ⟨ns, rfl⟩ := items_int h3
  have hlen : ns.length ≤ n := by
    unfold OpenLaw.pre at hc
    have h4 : (WTm.not (.lt (.lit (.int (n : Int))) (.len (.arg 0)))).holds [] { args := [.list (ns.map .int)] } = true := by
      have h4 := (holds_andW hc).1
      rw [hn] at h4
      exact h4
    have h5 := condW_of h4 (w_not (w_lt w_lit (w_len_list (w_arg rfl))))
    rw [List.length_map] at h5
    refine Nat.le_of_not_lt fun q => ?_
    have q' : (n : Int) < ((ns.length : Nat) : Int) := by omega
    first
      | (rw [decide_eq_true q'] at h5; exact absurd h5 (by decide))
      | (simp at h5; omega)
  cases hwl with
  | cons w1 w2 =>
    cases w2
    cases w1 with
    | list ho hall => exact ⟨_, _, ns, rfl, rfl, ho, ints_of_wellAll ns _ hall, hlen⟩
theorem post_true (l : OpenLaw) (args : List WData) : l.row.toRowW.claim.post args (.bool true) args = true :=
  postW_of (r := l.row.toRowW) (X := (true == true))
    (show WShape.has [] (.bool true) .bool = true by first | rfl | decide | simp [WShape.has, WShape.arms, WShape.armsAll])
    (show (WTm.eq .res (.lit (.bool true))).value [] { args := args, res := some (.bool true), after := args } = some (.bool (true == true)) from w_eq_bool (w_res rfl) w_lit) rfl
/-! ### the attachment: holds_open's last premise (the goal 'hc' behind k_head) from a wpAny of the law's body -/
/-- the same from a codeAny of the CALL (for a layer whose function contracts speak of calls) -/
theorem attach_call {l : OpenLaw} {n : Nat} {q : Program} {loose : List Str} {XP : (Str → Option Value) → Heap → Prop} {YP : World → Heap → Prop} {d : DefRec}
    (hn : l.most = some n) (hdf : d.params.defaults = [])
    (call : ∀ (w : World) (s₀ s₁ : Shared) (mg mb : Str → Option Value) (fa : Addr) (o : Obj) (pm cd doc : Value) (a : Addr) (vs : List Value) (ns : List Int),
      Ground q loose [] XP w s₀ mg mb s₁.heap → YP w s₁.heap →
      s₁.heap.get? fa = some o → o.data = .func (docDef d.name d.params d.body d.scope pm cd doc) → s₁.heap.CodeRec cd d.name → mg d.name = some (.ref fa) →
      s₁.heap.get? a = some { cls := .type "list", data := .seq vs.toArray } → IntsAre vs ns → ns.length ≤ n → s₁.gens = #[] →
      codeAny (model l.prog w) callerA (.call (.ref fa) ⟨[.ref a], []⟩) (fun r s' => r = .ok (.ret (.bool true)) ∧ OldK s₁.heap s'.heap ∧ s'.os = s₁.os ∧ AllBare s'.gens) s₁) :
    WalkO q loose XP YP l.row.toRowW d [] (fun f vs => PySem.call f vs) := by
  intro w s₀ s₁ mg mb G Y fa o pm cd doc dV kV ho hd hcd hD hmg hg args vals as hpre hlay hrd hwl hlo
  obtain rfl : dV = .none := Dflts.none hD hdf
  obtain rfl : kV = .none := Dflts.noKw hD
  obtain ⟨a, vs, ns, rfl, rfl, hobj, hints, hlen⟩ := script_of hn hpre hwl
  refine enter_call (codeAny_mono (call w s₀ s₁ mg mb fa o pm cd doc a vs ns G Y ho (fd_plain hd) hcd hmg hobj hints hlen hg) fun r s' hq => ?_)
  obtain ⟨rfl, h2, h3, h4⟩ := hq
  exact ⟨.inl ⟨.bool true, .bool true, [], rfl, fun _ => rfl, .bool true, post_true l _, fun _ => ⟨List.Pairwise.nil, fun _ hm => (nomatch hm)⟩⟩, h2, h3, h4⟩
/-! ### rules over ANY heap (no ledger) from facts about the written part K: the library's own take a ledger (News) for what they write -/
section
variable {prog : Program} {w : World} {A : Around} {E : Value → Shared → Prop} {s : Shared} {K : Frag}
/-! the whole heap as the ledger: makes every rule that writes through a ledger a rule over any heap -/
def noObjs (h : Heap) : Heap := { h with objs := #[] }
def ledger (h : Heap) (L d : Addr) : List (Addr × Obj) := (List.range h.objs.size).filterMap fun a => if a = L ∨ a = d then none else (h.get? a).map fun o => (a, o)
end
end Att
namespace L2
open PySem PySem.Spec PyProof.Rows
theorem vals_ints : ∀ {vs : List Value} {ns : List Int}, IntsAre vs ns → Vals (ns.map V.int) vs
  | _, _, .nil => .nil
  | _, _, .cons n t h => .cons ⟨t, rfl⟩ (vals_ints h)
/-- nothing is tracked but the script, known to the object (or it is an object of the module) -/
def Only (H : Hp) : Prop := ∀ b, H b = none ∨ ∃ o xs, H b = some (.frz o (.lst xs))
/-- THE HEAD: the law's promise, at the heap behind the top. F, the promise of the law's def, may use that base is part of the heap (so K.In base, base.Ns mainGlobals mg stand in Mod) -/
theorem law_call {P : Program} {w : World} {K : PySem.W.Frag} {mg mb : Str → Option Value} {CX : CXT} {k : Nat} {fa a : Addr} {fd : FuncData} {x : Str} {sp : Sp} {s₁ : Shared} {vs : List Value} {ns : List Int}
    (KX : K.In s₁.heap) (hns : s₁.heap.Ns mainGlobals mg) (hb : s₁.heap.Ns builtinsNs mb) (hbb : ∀ x : Str, x ≠ "__name__" → mb x = bootBuiltins x) (hlim : s₁.heap.NoLimit) (hbm : BMain mg s₁.heap) (hg : s₁.gens = #[])
    (ha : s₁.heap.get? a = some { cls := .type "list", data := .seq vs.toArray }) (hi : IntsAre vs ns) (hl : ns.length ≤ sizeLine) (hr : Room k callerA)
    (F : ∀ base : Heap, K.In base → base.Ns mainGlobals mg → FnOk P w K mg base CX k fa fd [x] sp) (hbind : ∀ (s : Shared) (u : Value), BindsTo s fd ⟨[u], []⟩ [(x, u)])
    (hsp : ∀ H : Hp, Only H → SqL K H a (ns.map V.int) → sp [.ref a] H (fun v _ => v = .bl true) fun _ _ _ => False)
    (hCX : ∀ H e s', CX [] H s₁ (fun _ _ _ => False) e s' → False) :
    codeAny (model P w) callerA (.call (.ref fa) ⟨[.ref a], []⟩) (fun r s' => r = .ok (.ret (.bool true)) ∧ OldK s₁.heap s'.heap ∧ s'.os = s₁.os ∧ AllBare s'.gens) s₁ := by
  have rv := vals_ints hi
  have lenV := hi.length
  -- from an abstract heap in which nothing but the script may be tracked
  have core : ∀ H : Hp, Only H → SqL K H a (ns.map V.int) → HOk P w H s₁.heap → (∀ b, H b ≠ none → b = a) → (H a ≠ none → K.lookup a = none) →
      codeAny (model P w) callerA (.call (.ref fa) ⟨[.ref a], []⟩) (fun r s' => r = .ok (.ret (.bool true)) ∧ OldK s₁.heap s'.heap ∧ s'.os = s₁.os ∧ AllBare s'.gens) s₁ := by
    intro H hO hS hok hA hK
    have base_of : ∀ {b : Addr} {o : Obj}, s₁.heap.get? b = some o → H b = none → (hidT s₁.heap H).get? b = some o := fun e n => hidT_get e n
    have noA : ∀ {b : Addr} {o : Obj} {es : Array DictEntry} {ep : Nat}, s₁.heap.get? b = some o → o.data = .dict es ep → H b = none := fun {b o es ep} e d => by
      cases q : H b with
      | none => rfl
      | some u =>
        have e' : b = a := hA b (by rw [q]; simp)
        subst e'
        rw [ha] at e; cases e
        have d' : Data.seq vs.toArray _ = Data.dict es ep := d
        cases d'
    have nsK : ∀ {b : Addr} {m : Str → Option Value}, s₁.heap.Ns b m → (hidT s₁.heap H).Ns b m := fun {b m} ⟨o, es, ep, e, d, r⟩ => ⟨o, es, ep, base_of e (noA e d), d, r⟩
    have hKb : K.In (hidT s₁.heap H) := fun b o e => base_of (KX b o e) (by
      cases q : H b with
      | none => rfl
      | some u =>
        have e' : b = a := hA b (by rw [q]; simp)
        subst e'
        rw [hK (by rw [q]; simp)] at e; cases e)
    have hM : Mod K mg (hidT s₁.heap H) := ⟨hKb, nsK hns, ⟨mb, nsK hb, hbb⟩, let ⟨mc, h1, h2⟩ := hlim; ⟨mc, nsK h1, h2⟩, by
      obtain ⟨bm, ob, b1, b2, b3, b4, b5, b6⟩ := hbm
      refine ⟨bm, ob, b1, b2, base_of b3 ?_, b4, b5, b6⟩
      cases q : H bm with
      | none => rfl
      | some u =>
        have e' : bm = a := hA bm (by rw [q]; simp)
        subst e'
        rw [ha] at b3; cases b3
        cases b6⟩
    have e0 : Env0 P w K mg (hidT s₁.heap H) callerA [] s₁ H := ⟨rfl, hM, fun b o e => of_hidT e, Nat.le_of_eq (hidT_size _ _), trivial, fun b hb => absurd (show b ∈ ([] : List Addr) from hb) (by simp), hok, .of_eq hg⟩
    refine codeAny_mono ((F _ hKb (nsK hns)).run callerA [] s₁ H ⟨[.ref a], []⟩ [.ref a] [.ref a] _ _ hr e0 (hbind s₁ (.ref a)) (.cons rfl .nil) (hsp H hO hS)) fun r s' h => ?_
    cases r with
    | error e => exact (hCX H e s' h).elim
    | ok fl =>
      cases fl with
      | next => exact False.elim h
      | brk => exact False.elim h
      | cont => exact False.elim h
      | ret u =>
        obtain ⟨v, H', os, bare, un, hok', r', q⟩ := h
        have q' : v = .bl true := q
        subst q'
        obtain rfl : u = Value.bool true := r'
        refine ⟨rfl, OldK.of_keep fun b o e => ?_, os, bare⟩
        cases q : H b with
        | none => exact un.keep b o e q (by intro z; exact absurd (show b ∈ ([] : List Addr) from z) (by simp)) (by simp)
        | some u =>
          rcases hO b with z | ⟨ob, xs, z⟩
          · rw [q] at z; cases z
          · have z2 := un.frzs b ob _ z
            obtain ⟨e1, _⟩ := hok b _ z
            obtain ⟨e2, _⟩ := hok' b _ z2
            rw [e] at e1; cases e1
            exact e2
  cases hk : K.lookup a with
  | some o =>
    -- the script is one of the module's own objects
    have e := KX a o hk
    rw [ha] at e
    cases e
    refine core (fun _ => none) (fun _ => .inl rfl) (.inr ⟨_, vs.toArray, _, hk, rfl, rfl, rfl, by rw [List.size_toArray, lenV]; exact hl, by simpa using rv⟩) (fun b u z => by have z' : (none : Option HO) = some u := z; cases z') (fun b z => absurd rfl z) fun z => absurd rfl z
  | none =>
    refine core (fun b => if b = a then some (.frz { cls := .type "list", data := .seq vs.toArray } (.lst (ns.map V.int))) else none) (fun b => ?_) (.inl (.inr ⟨{ cls := .type "list", data := .seq vs.toArray }, if_pos rfl⟩)) (fun b u z => ?_) (fun b z => ?_) fun _ => hk
    · by_cases hb : b = a
      · exact .inr ⟨_, _, if_pos hb⟩
      · exact .inl (if_neg hb)
    · by_cases hb : b = a
      · have z' := (if_pos hb).symm.trans z
        cases z'
        subst hb
        exact ⟨ha, by rw [List.length_map]; exact hl, vs, _, rv, ha⟩
      · have z' := (if_neg hb).symm.trans z
        cases z'
    · by_cases hb : b = a
      · exact hb
      · exact absurd (if_neg hb) z
end L2
namespace L2
open PySem PySem.Spec PyProof.Rows
abbrev KOf {K : PySem.W.Frag} {h : Heap} (_ : K.In h) : PySem.W.Frag := K
/-- the goal that k_head leaves (case hc), from the law's promise. F gives the function object fd (K's own) once, then the promise over every base -/
theorem walk_of {l : PySem.W.OpenLaw} {n k : Nat} {q : Program} {loose : List Str} {XP : (Str → Option Value) → Heap → Prop} {YP : World → Heap → Prop} {d : DefRec} {K : Params → PySem.W.Frag} {CX : World → CXT} {sp : World → Sp} {x : Str}
    (hn : l.most = some n) (hn2 : n ≤ sizeLine) (hdf : d.params.defaults = []) (hr : Room k callerA)
    (hY : ∀ (w : World) (h : Heap), YP w h → (K w.params).In h)
    (F : ∀ (w : World) (mg : Str → Option Value) (fa : Addr) (h : Heap), (K w.params).In h → h.Ns mainGlobals mg → mg d.name = some (.ref fa) →
      ∃ fd : FuncData, (∀ (s : Shared) (u : Value), BindsTo s fd ⟨[u], []⟩ [(x, u)]) ∧
        ∀ base : Heap, (K w.params).In base → base.Ns mainGlobals mg → FnOk l.prog w (K w.params) mg base (CX w) k fa fd [x] (sp w))
    (hsp : ∀ (w : World) (H : Hp) (a : Addr) (ns : List Int), ns.length ≤ n → Only H → SqL (K w.params) H a (ns.map V.int) → sp w [.ref a] H (fun v _ => v = .bl true) fun _ _ _ => False)
    (hCX : ∀ (w : World) (H : Hp) (s : Shared) (e : Value) (s' : Shared), CX w [] H s (fun _ _ _ => False) e s' → False) :
    PySem.W.WalkO q loose XP YP l.row.toRowW d [] (fun f vs => PySem.call f vs) := by
  refine Att.attach_call hn hdf fun w s₀ s₁ mg mb fa o pm cd doc a vs ns G Y ho hd hcd hmg hobj hints hlen hg => ?_
  have KX := hY w _ Y
  obtain ⟨fd, hb, hF⟩ := F w mg fa _ KX G.T.g hmg
  exact law_call KX G.T.g G.T.b G.T.builtins G.T.nolimit G.T.bmain hg hobj hints (Nat.le_trans hlen hn2) hr hF hb (fun H hO hS => hsp w H a ns hlen hO hS) fun H e s' => hCX w H s₁ e s'
end L2
/- THE LAST THEOREM (shape; LID, My.* are yours):
   My.Adr: a structure of the addresses that your layer names (classes, functions); My.Txt K t: a structure (Prop) of the equations over K;
   My.txt_mk : {K} {implicit addresses ..} (e1 : nsIn K mainGlobals "law" = some (some (.ref f))) (e2 : K.lookup f = some ⟨oc, od, .func (fnOf "law" "law" params body scope dV kV doc pm an cdv ct), sl⟩) (e3 : codeIn K cdv "law" = true) .. : ∃ t, My.Txt K t
(the tactic k_is has no namespace: write k_is) -/
/-! SHORT WORDS over the layer: a def of the text, its body, what a loop and a test want. -/
namespace L2
open PySem PySem.Spec PyProof.Rows
/-! ### the text by places -/
/-- the j-th statement of a class's body -/
def inClass (s : Stmt) (j : Nat) : Stmt := match s with
  | .ClassDef _ _ _ body _ _ _ _ _ _ _ => body.getD j (.Pass ⟨0, 0, 0, 0⟩)
  | _ => .Pass ⟨0, 0, 0, 0⟩
def defArgs (s : Stmt) : Arguments := match s with
  | .FunctionDef _ a _ _ _ _ _ _ _ _ => a
  | _ => { posonlyargs := [], args := [], vararg := none, kwonlyargs := [], kw_defaults := [], kwarg := none, defaults := [] }
def defBody (s : Stmt) : List Stmt := match s with
  | .FunctionDef _ _ b _ _ _ _ _ _ _ => b
  | _ => []
def defScope (s : Stmt) : Scope := match s with
  | .FunctionDef _ _ _ _ _ _ sc _ _ _ => sc
  | _ => { kind := .function, names := [], isGenerator := false, isCoroutine := false }
/-! ### no exception leaves a def -/
abbrev CX0 : CXT := fun _ _ _ _ _ _ => False
abbrev E0 : XK := fun _ _ _ => False
theorem pass0 {X : Cx} : Passes CX0 X E0 := fun _ _ _ _ _ _ _ h => h.elim
/-! ### a def (or method) of the text as it stands behind the top -/
structure Fun (K : PySem.W.Frag) (x qual : Str) (st : Stmt) (f : Addr) (fd : FuncData) : Prop where
  ex : ∃ (oc : Value) (od : Option Addr) (kV doc pm : Value) (an : Option Addr) (cdv ct : Value) (osl : Array (Option Value)),
    fd = PySem.W.fnOf x qual (defArgs st) (defBody st) (defScope st) .none kV doc pm an cdv ct ∧ K.lookup f = some ⟨oc, od, .func fd, osl⟩ ∧ PySem.W.codeIn K cdv qual = true
  kp : PySem.W.keepIn K (.ref f) = true
section
variable {P : Program} {w : World} {K : PySem.W.Frag} {mg : Str → Option Value} {base : Heap}
/-- THE RULE for a def: its body as a term of rules, and the reading of that term -/
theorem Fun.ok {x qual : Str} {st : Stmt} {f : Addr} {fd : FuncData} {N ps : List Str} {k : Nat} {sp : Sp} (F : Fun K x qual st f fd) (S : FnScope N ps (defScope st)) (len : ∀ vs H Q E, sp vs H Q E → vs.length = ps.length)
    (hbody : ∀ (cdv : Value) (A : Around) (outer : List Env) (s : Shared) (H : Hp) (vs : List V) (Q : VK) (E : XK), Room k (A.deeper (envOfC qual (defScope st) s.heap.objs.size f cdv)) → sp vs H Q E →
      ∃ t, PSs (cxOf CX0 P w K mg base N qual (defScope st) f cdv A outer s H E).nox (defBody st) t ∧ t { nx := fun _ H' => Q .non H', rt := Q } (start N vs) H) : FnOk P w K mg base CX0 (k + 1) f fd ps sp := by
  obtain ⟨oc, od, kV, doc, pm, an, cdv, ct, osl, rfl, lk, hcd⟩ := F.ex
  refine fn_of lk hcd S len fun A outer s H vs Q E hr hsp => ?_
  obtain ⟨t, h, q⟩ := hbody cdv A outer s H vs Q E hr hsp
  exact ⟨t, h.nox, q⟩
/-- how its arguments bind (no defaults): h is «fun _ _ _ _ _ _ us hl => match us, hl with | [_, _], _ => rfl», one _ a parameter -/
theorem Fun.binds {x qual : Str} {st : Stmt} {f : Addr} {fd : FuncData} {ps : List Str} (F : Fun K x qual st f fd)
    (h : ∀ (kV doc pm : Value) (an : Option Addr) (cdv ct : Value) (us : List Value), us.length = ps.length → bindArgs (PySem.W.fnOf x qual (defArgs st) (defBody st) (defScope st) .none kV doc pm an cdv ct) ⟨us, []⟩ = pure (ps.zip us)) : Binds K fd ps [] := by
  obtain ⟨oc, od, kV, doc, pm, an, cdv, ct, osl, rfl, lk, hcd⟩ := F.ex
  exact .all (h kV doc pm an cdv ct)
theorem fun_mk {x qual : Str} {st : Stmt} {f : Addr} {oc : Value} {od an : Option Addr} {osl : Array (Option Value)} {kV doc pm cdv ct : Value} (l : K.lookup f = some ⟨oc, od, .func (PySem.W.fnOf x qual (defArgs st) (defBody st) (defScope st) .none kV doc pm an cdv ct), osl⟩)
    (c : PySem.W.codeIn K cdv qual = true) (k : PySem.W.keepIn K (.ref f) = true) : Fun K x qual st f (PySem.W.fnOf x qual (defArgs st) (defBody st) (defScope st) .none kV doc pm an cdv ct) := ⟨⟨oc, od, kV, doc, pm, an, cdv, ct, osl, rfl, l, c⟩, k⟩
end
theorem hu_of {A : Around} {k : Nat} (hr : Room k A) : A.units + 1 < cLine := Nat.lt_of_le_of_lt (Nat.add_le_add_left (by decide : 1 ≤ 64) _) hr.units
theorem small1000 {n : Nat} (h : n ≤ 1000) : n < sizeLine := Nat.lt_of_le_of_lt h (by decide)
/-! ### expressions in short: the name that stands in the i-th slot -/
section
variable {X : Cx}
theorem pv (i : Nat) {x : Str} {pos : Pos} (hN : X.N[i]? = some x := by rfl) (hv : Vis X.env.scope x := by first | exact Or.inl rfl | exact Or.inr (Or.inl rfl) | exact Or.inr (Or.inr rfl)) (hd : (x == ("__debug__" : Str)) = false := by decide)
    (hcd : (x == ("__classdict__" : Str)) = false := by decide) : PE X (.Name x pos) (tVar i) := pe_var hN hv hd hcd
/-- len of a dict -/
theorem call_lenD : CallR X (.builtin "len") (fun xs H Q => ∃ a kvs, xs = [V.ref a] ∧ H a = some (.dK kvs) ∧ Q (.int kvs.length) H) := by
  intro pins s σ H xs us Q I r h
  obtain ⟨a, kvs, rfl, ha, q⟩ := h
  obtain ⟨u, rfl, ru⟩ := vals1 r
  cases ru
  exact d_len I (.inl ha) fun t s' I' => ⟨.int kvs.length, H, I', ⟨t, rfl⟩, q⟩
end
/-! ### tests -/
theorem ite2 {c A B : Prop} [Decidable c] (h1 : c → A) (h2 : ¬ c → B) : if c then A else B := by
  by_cases h : c
  · rw [if_pos h]
    exact h1 h
  · rw [if_neg h]
    exact h2 h
/-! ### heaps -/
/-- all that was tracked is as it was -/
def Same (H H' : Hp) : Prop := ∀ b o, H b = some o → H' b = some o
theorem Same.refl (H : Hp) : Same H H := fun _ _ h => h
theorem Same.trans {H H1 H2 : Hp} (a : Same H H1) (b : Same H1 H2) : Same H H2 := fun c o h => b c o (a c o h)
theorem Same.free {H H' : Hp} (e : Same H H') {l : Addr} (h : H' l = Option.none) : H l = Option.none := by
  cases q : H l with
  | none => rfl
  | some o =>
    rw [e l o q] at h
    cases h
theorem Same.seq {K : PySem.W.Frag} {H H' : Hp} {a : Addr} {xs : List V} (e : Same H H') (h : SqL K H a xs) : SqL K H' a xs := by
  rcases h with (h | ⟨o, h⟩) | h
  · exact .inl (.inl (e _ _ h))
  · exact .inl (.inr ⟨o, e _ _ h⟩)
  · exact .inr h
/-! ### a dict's pairs: keys that differ -/
section
variable {κ : Type} [DecidableEq κ]
end
end L2

section
set_option Elab.async false
set_option linter.all false
set_option maxRecDepth 100000
set_option maxHeartbeats 4000000

namespace L2
open PySem PySem.Spec PyProof.Rows

/-! ## Comprehensions -/
section
variable {prog : Program} {w : World} {A : Around} {R : Result → Shared → Prop} {s : Shared}
theorem codeAny_compLoop_gen {elt target iter : Expr} {ifs : List Expr} {scope : Scope} {pos : Pos} {it acc : Value} {env : Env} (I : Nat → Shared → Prop)
    (turn : ∀ n s, I n s → wpAny (model prog w) A (pyNext it) (fun r s₁ => match r with
      | none => R (.ok .next) s₁
      | some v => wpAny (model prog w) A (letOwnedTupleGo target it v) (fun _ s₁' => wpAny (model prog w) A (assign target env v) (fun _ s₂ =>
          wpAny (model prog w) A (forIn ifs true fun c r => if r = true then do let ok ← isTrue c env (eval c env); pure (ForInStep.yield ok) else pure (ForInStep.yield r)) (fun ok s₃ =>
            if ok = true then wpAny (model prog w) A (eval elt env) (fun x s₄ =>
              wpAny (model prog w) A (call (.builtin "list.append") [acc, x]) (fun _ s₅ => ∃ m, m < n ∧ I m s₅) (fun _ _ => False) s₄) (fun _ _ => False) s₃
            else ∃ m, m < n ∧ I m s₃) (fun _ _ => False) s₂) (fun _ _ => False) s₁') (fun _ _ => False) s₁) (fun _ _ => False) s)
    (n : Nat) (h : I n s) :
    codeAny (model prog w) A (.compLoop (.ListComp elt [⟨target, iter, ifs, 0⟩] scope pos) 0 it acc env) R s := by
  refine codeAny_loop rfl I (fun n s hI => ?_) n h
  show wpAny _ A ((compTurn (.ListComp elt [⟨target, iter, ifs, 0⟩] scope pos) 0 it acc env).onRaise (fun x => do noteFrame x env; theTreesLotGoes x)) _ _ s
  refine wpAny_noted ?_
  rw [compTurn_list]
  refine wpAny_bind (wpAny_standAt (wpAny_bind (wpAny_mono (turn n s hI) (fun r s₁ h₁ => ?_) fun _ _ h' => h'.elim)))
  cases r with
  | none => exact wpAny_pure h₁
  | some v =>
    refine wpAny_bind (wpAny_mono h₁ (fun _ s₁' h₁' => ?_) fun _ _ h' => h'.elim)
    refine wpAny_bind (wpAny_mono h₁' (fun _ s₂ h₂ => wpAny_bind (wpAny_mono h₂ (fun ok s₃ h₃ => ?_) fun _ _ h' => h'.elim)) fun _ _ h' => h'.elim)
    cases ok with
    | false => exact wpAny_pure ⟨rfl, h₃⟩
    | true =>
      exact wpAny_bind (wpAny_bind (wpAny_mono h₃ (fun x s₄ h₄ => wpAny_bind (wpAny_mono h₄ (fun _ s₅ h₅ => wpAny_pure (wpAny_pure ⟨rfl, h₅⟩)) fun _ _ h' => h'.elim)) fun _ _ h' => h'.elim))
end

/-- the context of a comprehension's block -/
def cxComp (X : Cx) (scope : Scope) (cl : List (Str × Addr)) (N' : List Str) (s : Shared) (H : Hp) (C : Addr) (ex : List Addr) : Cx where
  prog := X.prog
  w := X.w
  K := X.K
  mg := X.mg
  base := X.base
  A := X.A
  N := N'
  s₀ := s
  H₀ := H
  env := compEnvC scope cl C X.env
  outer := X.stack
  stack := X.stack
  ex := ex
  fn := fun _ => false
  calm := X.calm
  pn := []
  xe := fun _ _ => False

/-- what stands in the block's names: the outer names that it reads are cells -/
structure CompScope (X : Cx) (scope : Scope) (cl : List (Str × Addr)) (N' : List Str) (fr : St → St) : Prop where
  kind : scope.kind = .function
  cell : ∀ y ∈ scope.names, y.2 ≠ .cell
  names : ∀ y ∈ scope.names, y.2 = .local → scope.names.lookup y.1 = some .local
  clos : closureFor scope X.env = pure cl
  sub : ∀ x c, cl.lookup x = some c → X.env.cells.lookup x = some c
  has : ∀ x, ((relabel scope X.env).names.lookup x = some .cell ∨ (relabel scope X.env).names.lookup x = some .free) → ∃ c, cl.lookup x = some c
  len : ∀ σ : St, σ.length = X.N.length → (fr σ).length = N'.length
  fr : ∀ (σ : St) (i : Nat) (x : Str) (v : V), N'[i]? = some x → (fr σ)[i]? = some (some v) → Vis (relabel scope X.env) x →
    ((relabel scope X.env).names.lookup x = some .cell ∨ (relabel scope X.env).names.lookup x = some .free) ∧
    (X.env.kindOf x = some .cell ∨ X.env.kindOf x = some .free) ∧ ∃ j : Nat, X.N[j]? = some x ∧ σ[j]? = some (some v)

/-- what was known stays known -/
def Keep (a b : St) : Prop := ∀ (i : Nat) (v : V), a[i]? = some (some v) → b[i]? = some (some v)
theorem Keep.refl (a : St) : Keep a a := fun _ _ h => h
theorem Keep.set {a : St} {i : Nat} {v : V} (h : a[i]? = some none) : Keep a (a.set i (some v)) := fun j u e => by
  by_cases hj : i = j
  · subst hj; rw [h] at e; cases e
  · rw [List.getElem?_set_ne hj]; exact e
theorem Keep.trans {a b c : St} (h : Keep a b) (k : Keep b c) : Keep a c := fun i v e => k i v (h i v e)

def PF (X : Cx) (ifs : List Expr) (t : TT) : Prop :=
  ∀ (pins : List (Addr × Obj)) (s : Shared) (σ : St) (H : Hp) (Q : Bool → Hp → Prop), Inv X pins σ H s → t σ H Q →
    wpAny (model X.prog X.w) X.A (forIn ifs true fun c r => if r = true then do let ok ← isTrue c X.env (eval c X.env); pure (ForInStep.yield ok) else pure (ForInStep.yield r)) (TP X pins σ Q) X.xe s
def tYes : TT := fun _ H Q => Q true H
theorem pf_nil {X : Cx} : PF X [] tYes := fun _ _ _ H _ I h => wpAny_tests_nil ⟨H, I, h⟩
theorem pf_one {X : Cx} {c : Expr} {t : TT} (h : PT X c t) : PF X [c] t := fun pins s σ H Q I hq => wpAny_tests_one (h pins s σ H Q I hq)

/-- the rest of a comprehension's reading behind its iterator -/
def CompW (J : It) (fr : St → St) (g : TG) (tf : TT) (te : TE) (Q : VK) (σ : St) (H1 : Hp) (D : Addr) : Prop :=
  ∃ W : Nat → Nat → List V → Hp → Prop, (∃ m, W 0 m [] (upd H1 D (.lst []))) ∧ ∀ i m ys H, W i m ys H →
    (J.stop i H ∧ Q (.ref D) H) ∨ (J.go i H ∧ ∃ N : List V → Hp → Prop, (∀ ys' H', N ys' H' → ∃ m', m' < m ∧ W (i + 1) m' ys' H') ∧
      ∀ x H', J.yld i H x H' → g x (fr σ) H' fun σ2 H2 => Keep (fr σ) σ2 ∧ tf σ2 H2 fun b H3 =>
        if b = true then te σ2 H3 fun y H4 => H4 D = some (.lst ys) ∧ ys.length < sizeLine ∧ N (ys ++ [y]) (upd H4 D (.lst (ys ++ [y]))) else N ys H3)
/-- the reading: W by the turn, a measure, the items so far, the heap (the new list stands at D) -/
def tComp (wi : TI) (fr : St → St) (g : TG) (tf : TT) (te : TE) : TE := fun σ H Q => wi σ H fun J H1 => ∀ D, H1 D = none → CompW J fr g tf te Q σ H1 D

section
variable {X : Cx} {pins : List (Addr × Obj)} {σ : St} {H : Hp} {s : Shared} {scope : Scope} {cl : List (Str × Addr)} {N' : List Str} {fr : St → St} {C : Addr} {fp : List Addr}

theorem comp_ok (I : Inv X pins σ H s) (S : CompScope X scope cl N' fr) (hC : s.heap.objs.size ≤ C) (hf : ∀ b ∈ fp, FpOk X pins H b) (ho : ∀ b ∈ fp, ∃ o, s.heap.get? b = some o) : (cxComp X scope cl N' s H C fp).Ok where
  mod := I.ok.mod
  kind := S.kind
  glob := I.ok.glob
  blt := I.ok.blt
  above := hC
  inj := fun x y c h1 h2 => I.ok.inj x y c (S.sub x c h1) (S.sub y c h2)
  has := fun x h => S.has x h
  cab := fun x c h => absurd (show false = true from h) Bool.false_ne_true
  hd := I.ok.hd
  frames := I.ok.frames
  stk := .inl rfl
  exf := fun b hb => by
    obtain ⟨o, e⟩ := ho b hb
    refine ⟨Nat.ne_of_lt (Nat.lt_of_lt_of_le (Heap.lt_size e) hC), fun x c h => (hf b hb).2.2.2.2.1 x c (S.sub x c h)⟩
  bs := I.bs
  bsz := Nat.le_trans I.ok.bsz I.sz
  noex := fun b o e hb => by
    rcases (hf b hb).2.2.2.1 with z | z
    · exact I.ok.noex b o e z
    · exact absurd (Nat.lt_of_lt_of_le (Heap.lt_size e) (Nat.le_trans I.ok.bsz z)) (Nat.lt_irrefl _)
  exfs := fun b hb z => by
    rcases List.mem_cons.mp (I.stkSub b z) with q | q
    · exact (hf b hb).2.1 q
    · exact (hf b hb).2.2.1 q
  funs := I.stack
  frf := I.stkFree

/-- the block's entry: the list at D is new and tracked, the block's names at C -/
theorem comp_start {h₁ : Heap} {m₁ : Str → Option Value} {tk : Nat} {D : Addr} (I : Inv X pins σ H s) (S : CompScope X scope cl N' fr) (hC : s.heap.objs.size < C) (hD : D = s.heap.objs.size) (hf : ∀ b ∈ fp, FpOk X pins H b) (ho : ∀ b ∈ fp, ∃ o, s.heap.get? b = some o)
    (old : ∀ b o, s.heap.get? b = some o → h₁.get? b = some o) (hl : h₁.get? D = some { cls := .type "list", data := .seq ([] : List Value).toArray 0 }) (hn : h₁.Ns C m₁) (hCz : h₁.objs.size ≤ C + 1) :
    Inv (cxComp X scope cl N' s H C fp) [] (fr σ) (upd H D (.lst [])) { s with heap := h₁, toks := tk } := by
  have fD : H D = none := I.hok.fresh (Nat.le_of_eq hD.symm)
  have fC : H C = none := I.hok.fresh (Nat.le_of_lt hC)
  have hDC : D ≠ C := by rw [hD]; exact Nat.ne_of_lt hC
  refine ⟨comp_ok I S (Nat.le_of_lt hC) hf ho, rfl, I.bare, Un.laid old (Nat.le_of_eq hD.symm) fD, ⟨m₁, hn, fun i x v e1 e2 e3 => ?_⟩, fun x c e => ?_, ?_, fun x c e => ?_, fun p hp => absurd (show p ∈ ([] : List (Addr × Obj)) from hp) (by simp), ?_, S.len σ I.len⟩
  · obtain ⟨k1, k2, j, j1, j2⟩ := S.fr σ i x v e1 e2 e3
    obtain ⟨c, hc⟩ := S.has x k1
    have hc' := S.sub x c hc
    obtain ⟨m, _, hl'⟩ := I.loc
    obtain ⟨u, r, l⟩ := hl' j x v j1 j2 (by rcases k2 with k | k; exact .inr (.inl k); exact .inr (.inr k))
    refine ⟨u, r, .inr ⟨k1, c, hc, ?_⟩⟩
    rcases l with ⟨k, _⟩ | ⟨_, c2, hc2, o, z, d⟩
    · rcases k2 with q | q <;> (rw [k] at q; cases q)
    · rw [hc'] at hc2; cases hc2
      exact ⟨o, old _ _ z, d⟩
  · obtain ⟨v, o, z, d⟩ := I.cell x c (S.sub x c e)
    exact ⟨v, o, old _ _ z, d⟩
  · show upd H D (.lst []) C = none
    rw [upd_ne hDC.symm]; exact fC
  · show upd H D (.lst []) c = none
    rw [upd_ne (fun z => ?_)]
    · exact I.freeC x c (S.sub x c e)
    · obtain ⟨v, o, q, d⟩ := I.cell x c (S.sub x c e)
      have := Heap.lt_size q
      rw [z, hD] at this
      exact Nat.lt_irrefl _ this
  · exact I.hok.laid old (Nat.le_of_eq hD.symm) ⟨Nat.zero_le _, [], 0, .nil, hl⟩

/-- the block's end: its names go, the outer context again -/
theorem comp_end {H' : Hp} {s2 : Shared} {h' : Heap} (I : Inv X pins σ H s) (hC : s.heap.objs.size < C) (hf : ∀ b ∈ fp, FpOk X pins H b) (J : Inv (cxComp X scope cl N' s H C fp) [] (fr σ) H' s2) (hs : Heap.SameBut C s2.heap h') :
    Inv X pins σ H' { s2 with heap := h' } := by
  have fC : H' C = none := J.free
  have u : Un (frs X.stack) fp H H' s.heap s2.heap := J.base
  have ne : ∀ b o, s.heap.get? b = some o → b ≠ C := fun b o e => Nat.ne_of_lt (Nat.lt_trans (Heap.lt_size e) hC)
  have u2 : Un (frs X.stack) fp H H' s.heap h' := by
    refine ⟨fun b o e n hb hx => ?_, fun b o e n hb hx => ?_, u.free, fun b o e hx => ?_, u.tups, u.frzs, u.tbls⟩
    · rw [hs.2 b (ne b o e)]; exact u.keep b o e n hb hx
    · obtain ⟨sl, q⟩ := u.slot b o e n hb hx
      exact ⟨sl, by rw [hs.2 b (ne b o e)]; exact q⟩
    · obtain ⟨o', q⟩ := u.there b o e hx
      exact ⟨o', by rw [hs.2 b (ne b o e)]; exact q⟩
  have hok : HOk X.prog X.w H' h' := fun b o e => by
    refine (J.hok b o e).stay (fun c v hc q => ?_) (fun _ q => q) fun _ _ q => q
    have nc : c ≠ C := by
      rintro rfl
      rcases hc with z | z
      · rw [← z, fC] at e; cases e
      · rw [fC] at z; cases z
    rw [hs.2 c nc]; exact q
  refine I.call' (s' := { s2 with heap := h' }) (ch := fp) J.os u2 hok J.bare fun b hb => ?_
  obtain ⟨_, f1, f2, f3, f4, f5⟩ := hf b hb
  exact ⟨f3, f1, f4, f5⟩
end

theorem pe_comp {X : Cx} {elt tg iter : Expr} {ifs : List Expr} {scope : Scope} {pos : Pos} {cl : List (Str × Addr)} {N' : List Str} {fr : St → St} {wi : TI} {g : TG} {tf : TT} {te : TE}
    (hc : X.calm = true) (S : CompScope X scope cl N' fr) (hi : PI X tg iter wi) (hg : ∀ s H C ex, PG (cxComp X scope cl N' s H C ex) tg g) (hf : ∀ s H C ex, PF (cxComp X scope cl N' s H C ex) ifs tf)
    (he : ∀ s H C ex, PE (cxComp X scope cl N' s H C ex) elt te) (hs : ∀ x, foldedSetIterable iter X.env x = pure x := by intro _; rfl) : PE X (.ListComp elt [⟨tg, iter, ifs, 0⟩] scope pos) (tComp wi fr g tf te) := by
  intro pins s σ H Q I h
  rw [eval_ListComp]
  refine wpAny_comprehension_free (use := none) rfl hs S.clos S.kind S.names (thn (hi pins s σ H _ I h) fun v s1 h1 => thn h1 fun itv s2 h2 => ?_)
  obtain ⟨it, fp, tn, J, H2, e, I2, T, st2, f2, q⟩ := h2
  subst e
  refine wpAny_newObj_type (wpAny_newFunctionEnv S.cell (by intro y hy; simp at hy) (fun h₁ hns₁ hsb₁ => ?_) S.kind)
  dsimp only at hns₁ hsb₁ ⊢
  generalize hP : s2.heap.push { cls := .type "list", dict := none, data := .seq ([] : List Value).toArray } = P at hns₁ hsb₁ ⊢
  have hPz : P.objs.size = s2.heap.objs.size + 1 := by rw [← hP, Heap.size_push]
  have hCD : s2.heap.objs.size < P.objs.size := by rw [hPz]; exact Nat.lt_succ_self _
  have ho2 : ∀ b ∈ fp, ∃ o, s2.heap.get? b = some o := fun b hb => let ⟨o, e, _⟩ := T.obj _ _ st2 b hb; ⟨o, e⟩
  have below : ∀ b, b < s2.heap.objs.size → b ≠ P.objs.size := fun b hb => Nat.ne_of_lt (Nat.lt_trans hb hCD)
  have old : ∀ b o, s2.heap.get? b = some o → h₁.get? b = some o := fun b o e => hsb₁.extBut b o (below b (Heap.lt_size e)) (Heap.get?_push_of_some _ (hP ▸ Heap.get?_push_of_some _ e))
  have hacc : h₁.get? s2.heap.objs.size = some { cls := .type "list", data := .seq ([] : List Value).toArray 0 } := hsb₁.extBut _ _ (Nat.ne_of_lt hCD) (Heap.get?_push_of_some _ (hP ▸ Heap.get?_push_size _ rfl))
  have fD : H2 s2.heap.objs.size = none := I2.hok.fresh (Nat.le_refl _)
  obtain ⟨W, ⟨m0, w0⟩, turn⟩ := q s2.heap.objs.size fD
  have hz : h₁.objs.size ≤ P.objs.size + 1 := by
    have e := hsb₁.1
    rw [Heap.size_push] at e
    exact Nat.le_of_eq e
  have st1 : tn 0 h₁ := T.keep _ _ _ st2 fun b hb o e => old b o e
  have stat : ∀ {pins' : List (Addr × Obj)} {H' : Hp}, (∀ p ∈ pins', p.1 ∉ fp) → (∀ b ∈ fp, H' b = none) → ∀ b ∈ fp, FpOk (cxComp X scope cl N' s2 H2 P.objs.size fp) pins' H' b := fun {pins' H'} hp hn b hb => by
    obtain ⟨o, e⟩ := ho2 b hb
    obtain ⟨_, f1, f2', f3, f4, f5⟩ := f2 b hb
    refine ⟨hn b hb, below b (Heap.lt_size e), fun z => ?_, .inl hb, fun x c h => f4 x c (S.sub x c h), fun p hp' z => ?_⟩
    · rcases List.mem_cons.mp (I2.stkSub b z) with q | q
      · exact f1 q
      · exact f2' q
    · have hp2 : p ∈ pins' := by simpa [cxComp] using hp'
      exact hp p hp2 (by rw [z]; exact hb)
  have loop : ∀ s3 : Shared, s3 = { s2 with heap := h₁, toks := s2.toks + ([] : List (Str × Value)).length } →
      codeAny (model X.prog X.w) X.A (.compLoop (.ListComp elt [⟨tg, iter, ifs, 0⟩] scope pos) 0 (.ref it) (.ref s2.heap.objs.size) (compEnvC scope cl P.objs.size X.env)) (compPost (model X.prog X.w) X.A X.xe none (EP X pins σ Q) (.ref s2.heap.objs.size) P.objs.size) s3 := by
    rintro s3 rfl
    have I3 : Inv (cxComp X scope cl N' s2 H2 P.objs.size fp) [] (fr σ) (upd H2 s2.heap.objs.size (.lst [])) { s2 with heap := h₁, toks := s2.toks + ([] : List (Str × Value)).length } := comp_start I2 S hCD rfl f2 ho2 old hacc hns₁ hz
    refine codeAny_compLoop_gen (fun n s' => ∃ i ys H', Inv (cxComp X scope cl N' s2 H2 P.objs.size fp) [] (fr σ) H' s' ∧ tn i s'.heap ∧ (∀ b ∈ fp, H' b = none) ∧ W i n ys H') ?_ m0 ⟨0, [], _, I3, st1, fun b hb => ?_, w0⟩
    · rintro n s3 ⟨i, ys, H3, I3, st3, fr3, w3⟩
      rcases turn i n ys H3 w3 with ⟨stop, qn⟩ | ⟨go, N, hN, step⟩
      · refine thn (T.done (cxComp X scope cl N' s2 H2 P.objs.size fp) rfl rfl rfl hc i [] s3 (fr σ) H3 _ I3 (stat (by simp) fr3) st3 stop) fun r s4 ⟨hr, I4⟩ => ?_
        subst hr
        obtain ⟨m4, hn4, _⟩ := I4.loc
        exact ⟨m4, hn4, fun h' hs' => ⟨.ref s2.heap.objs.size, H3, comp_end I2 hCD f2 I4 hs', rfl, qn⟩⟩
      · refine thn (T.item (cxComp X scope cl N' s2 H2 P.objs.size fp) rfl rfl rfl hc i [] s3 (fr σ) H3 _ I3 (stat (by simp) fr3) st3 go) fun r s4 ⟨u, hr, h4⟩ => ?_
        subst hr
        refine thn h4 fun _ s5 ⟨x, H5, I5, r5, y5, st5, fr5⟩ => ?_
        have I5' := I5.pinned (stat (by simp) fr5) (T.obj _ _ st5)
        refine thn (hg s2 H2 P.objs.size fp _ s5 (fr σ) H5 x u _ I5' r5 (step x H5 y5)) fun _ s6 ⟨σ6, H6, I6, kp, q6⟩ => ?_
        refine thn (hf s2 H2 P.objs.size fp _ s6 σ6 H6 _ I6 q6) fun ok s7 ⟨H7, I7, q7⟩ => ?_
        have again : ∀ {σ8 : St} {H8 : Hp} {s8 : Shared} {ys8 : List V}, Keep (fr σ) σ8 → Inv (cxComp X scope cl N' s2 H2 P.objs.size fp) ([] ++ pinsAt fp s5.heap) σ8 H8 s8 → N ys8 H8 →
            ∃ m, m < n ∧ ∃ i ys H', Inv (cxComp X scope cl N' s2 H2 P.objs.size fp) [] (fr σ) H' s8 ∧ tn i s8.heap ∧ (∀ b ∈ fp, H' b = none) ∧ W i m ys H' := fun {σ8 H8 s8 ys8} kp8 I8 n8 => by
          obtain ⟨m', hm, w8⟩ := hN ys8 H8 n8
          refine ⟨m', hm, i + 1, ys8, H8, (I8.unpinned).weak (by rw [I8.len]; exact S.len σ I2.len) kp8, T.keep _ _ _ st5 fun b hb o e => (I8.pin (b, o) (List.mem_append_right _ (List.mem_append_right _ (mem_pinsAt hb e)))).1, fun b hb => ?_, w8⟩
          obtain ⟨o, e, d⟩ := T.obj _ _ st5 b hb
          exact (I8.pin (b, o) (List.mem_append_right _ (List.mem_append_right _ (mem_pinsAt hb e)))).2.1
        cases ok with
        | false => exact again kp I7 q7
        | true =>
          refine thn (he s2 H2 P.objs.size fp _ s7 σ6 H7 _ I7 q7) fun uy s8 ⟨y, H8, I8, r8, hD8, hz8, q8⟩ => ?_
          exact thn (mt_append _ s8 σ6 H8 (.ref s2.heap.objs.size) [y] (.ref s2.heap.objs.size) [uy] (fun _ H9 => N (ys ++ [y]) H9) I8 rfl (.cons r8 .nil) ⟨_, ys, y, rfl, rfl, hD8, hz8, q8⟩) fun _ s9 ⟨v9, H9, I9, _, q9⟩ => again kp I9 q9
    · show upd H2 s2.heap.objs.size (.lst []) b = none
      obtain ⟨o, e⟩ := ho2 b hb
      rw [upd_ne (Nat.ne_of_lt (Heap.lt_size e))]
      exact (f2 b hb).1
  exact codeAny_compStart_list (loop _ rfl) (T.self X.A 0 _ _ _ st1 (loop _ rfl))

/-! ### the forms one uses -/
section
variable {K : PySem.W.Frag} {a : Addr} {fr : St → St} {g : TG} {tf : TT} {te : TE} {Q : VK} {σ : St} {H1 : Hp} {D : Addr}
/-- one turn -/
def CompT (fr : St → St) (g : TG) (tf : TT) (te : TE) (σ : St) (D : Addr) (x : V) (ys : List V) (H : Hp) (N : List V → Hp → Prop) : Prop :=
  g x (fr σ) H fun σ2 H2 => Keep (fr σ) σ2 ∧ tf σ2 H2 fun b H3 => if b = true then te σ2 H3 fun y H4 => H4 D = some (.lst ys) ∧ ys.length < sizeLine ∧ N (ys ++ [y]) (upd H4 D (.lst (ys ++ [y]))) else N ys H3
theorem comp_list {xs : List V} (Pv : Nat → List V → Hp → Prop) (h0 : Pv 0 [] (upd H1 D (.lst []))) (hl : ∀ i ys H, i ≤ xs.length → Pv i ys H → SqL K H a xs)
    (hs : ∀ i x ys H, xs[i]? = some x → Pv i ys H → CompT fr g tf te σ D x ys H (Pv (i + 1))) (hd : ∀ ys H, Pv xs.length ys H → Q (.ref D) H) : CompW (Itl K a) fr g tf te Q σ H1 D := by
  refine ⟨fun i m ys H => m = xs.length - i ∧ i ≤ xs.length ∧ Pv i ys H, ⟨xs.length, by simp, Nat.zero_le _, h0⟩, ?_⟩
  rintro i m ys H ⟨rfl, hi, p⟩
  have q := hl i ys H hi p
  by_cases hlt : i < xs.length
  · refine .inr ⟨⟨xs, xs[i], q, by simp [hlt]⟩, Pv (i + 1), fun ys' H' p' => ⟨xs.length - (i + 1), by omega, rfl, hlt, p'⟩, fun x H' y => ?_⟩
    obtain ⟨e, y⟩ := y
    subst e
    exact hs i x ys _ (y xs q) p
  · have e : i = xs.length := by omega
    subst e
    exact .inl ⟨⟨xs, q, Nat.le_refl _⟩, hd ys H p⟩
/-- the signs of a text -/
def Its (x : Str) : It := ⟨fun i _ => i < x.cps.size, fun i H v H' => H' = H ∧ ∃ c, x.cps[i]? = some c ∧ v = .str ⟨#[c]⟩, fun i _ => x.cps.size ≤ i⟩
end

/-! ## a text's signs -/
def iStr (tl : TE) : TI := fun σ H R => tl σ H fun v H1 => ∃ x, v = .str x ∧ x.cps.all (· < 128) = true ∧ R (Its x) H1
/-! ## all(xs) of bools -/
/-! ## isinstance(x, T), T a built-in type or an own class -/
theorem call_isinst {X : Cx} : CallR X (.builtin "isinstance") (fun xs H Q => ∃ x c b t, xs = [x, c] ∧ TyOf X.K H x t ∧ ((∃ n, c = .ty n ∧ PySem.W.kitOne X.K t (.type n) = some b) ∨ ∃ a, c = .ref a ∧ PySem.W.kitOne X.K t (.ref a) = some b) ∧ Q (.bl b) H) := by
  intro pins s σ H xs us Q I r h
  obtain ⟨x, c, b, t, rfl, ty, k, q⟩ := h
  obtain ⟨u, w', rfl, rx, rw'⟩ := vals2 r
  rcases k with ⟨n, rfl, k⟩ | ⟨a, rfl, k⟩
  · cases rw'
    exact isinst_ok I rx ty k fun tk => ⟨.bl b, H, I.tok tk, rfl, q⟩
  · cases rw'
    exact isinst_ok I rx ty k fun tk => ⟨.bl b, H, I.tok tk, rfl, q⟩

/-! ## slices of texts -/
def rSlS : V → Option Int → Option Int → Hp → VK → Prop := fun x lo hi H Q => ∃ z, x = .str z ∧ z.length ≤ sizeLine ∧ Q (.str (Txt.slice z lo hi)) H
theorem sl_str {X : Cx} : SlR X rSlS := by
  intro pins s σ H x v vl vu lo hi sl Q I rx hs pl pu h
  obtain ⟨z, rfl, hz, q⟩ := h
  obtain ⟨t, rfl⟩ := rx
  refine ⟨"str", _, F.slot_str_getitem.lookup, typeIs_str _ _ _, ?_⟩
  obtain ⟨o, ho, hc, hd⟩ := hs
  cases pl with
  | none =>
    cases pu with
    | none => exact wpAny_getItem_str_slice (l := none) (u := none) (st := none) ⟨o, ho, hc, hd⟩ rfl (post_val_or_str ⟨Nat.le_trans (Txt.slice_le z none none) hz, fun t' k => ⟨.str (Txt.slice z none none), H, I.tok k, ⟨t', rfl⟩, q⟩⟩)
    | int j tj => exact wpAny_getItem_str_slice (l := none) (u := some (j, tj)) (st := none) ⟨o, ho, hc, hd⟩ rfl (post_val_or_str ⟨Nat.le_trans (Txt.slice_le z none (some j)) hz, fun t' k => ⟨.str (Txt.slice z none (some j)), H, I.tok k, ⟨t', rfl⟩, q⟩⟩)
  | int i ti =>
    cases pu with
    | none => exact wpAny_getItem_str_slice (l := some (i, ti)) (u := none) (st := none) ⟨o, ho, hc, hd⟩ rfl (post_val_or_str ⟨Nat.le_trans (Txt.slice_le z (some i) none) hz, fun t' k => ⟨.str (Txt.slice z (some i) none), H, I.tok k, ⟨t', rfl⟩, q⟩⟩)
    | int j tj => exact wpAny_getItem_str_slice (l := some (i, ti)) (u := some (j, tj)) (st := none) ⟨o, ho, hc, hd⟩ rfl (post_val_or_str ⟨Nat.le_trans (Txt.slice_le z (some i) (some j)) hz, fun t' k => ⟨.str (Txt.slice z (some i) (some j)), H, I.tok k, ⟨t', rfl⟩, q⟩⟩)
end L2
namespace L2
open PySem PySem.Spec PyProof.Rows
/-! ## cuts: a statement's end, an expression's value, told by a word of one's own -/
def tCut (M : St → Hp → St → Hp → Prop) (t : TS) : TS := fun D σ H => t { D with nx := M σ H } σ H ∧ ∀ σ' H', M σ H σ' H' → D.nx σ' H'
theorem ps_cut {X : Cx} {st : Stmt} {t : TS} (M : St → Hp → St → Hp → Prop) (h : PS X st t) : PS X st (tCut M t) := by
  intro pins s σ H D I hq
  refine thn (h pins s σ H { D with nx := M σ H } I hq.1) fun f s' q => ?_
  cases f with
  | next => obtain ⟨σ', H', I', m⟩ := q; exact ⟨σ', H', I', hq.2 σ' H' m⟩
  | brk => exact q
  | cont => exact q
  | ret u => exact q
def tCutE (M : VK) (t : TE) : TE := fun σ H Q => t σ H M ∧ ∀ v H', M v H' → Q v H'
/-- a comprehension that reads no name of the def but through its iterator -/
theorem relabel_plain {scope : Scope} {env : Env} (h : ∀ y ∈ scope.names, y.2 ≠ .free) : relabel scope env = scope := by
  unfold relabel
  rw [map_eq_self (l := scope.names) (fun x hx => by
    obtain ⟨n, k⟩ := x
    have : (k == NameKind.free) = false := by simpa using h _ hx
    simp [this])]
theorem CompScope.plain {X : Cx} {scope : Scope} {N' : List Str} {fr : St → St} (kind : scope.kind = .function) (hn : ∀ y ∈ scope.names, y.2 ≠ .cell ∧ y.2 ≠ .free)
    (names : ∀ y ∈ scope.names, y.2 = .local → scope.names.lookup y.1 = some .local) (hf : ∀ σ, fr σ = List.replicate N'.length none) : CompScope X scope [] N' fr where
  kind := kind
  cell := fun y hy => (hn y hy).1
  names := names
  clos := closureFor_none fun y hy => (hn y hy).2
  sub := fun x c h => by simp at h
  has := fun x h => by
    rw [relabel_plain fun y hy => (hn y hy).2] at h
    rcases h with h | h
    · exact absurd rfl (hn _ (PySem.mem_of_lookup h)).1
    · exact absurd rfl (hn _ (PySem.mem_of_lookup h)).2
  len := fun σ _ => by rw [hf, List.length_replicate]
  fr := fun σ i x v _ h2 _ => by
    rw [hf, List.getElem?_replicate] at h2
    split at h2 <;> simp at h2
end L2
namespace L2
open PySem PySem.Spec PyProof.Rows
/-! ## an argument that is no star -/
def plainE : Expr → Bool
  | .Starred .. => false
  | _ => true
theorem star_cons {e : Expr} {es : List Expr} {env : Env} (h : plainE e = true) : starEach (e :: es) env = (false, eval e env) :: starEach es env := by
  cases e <;> first
    | rfl
    | exact absurd h Bool.false_ne_true
theorem pa_c {X : Cx} {e : Expr} {es : List Expr} {te : TE} {t : TA} (ha : PE X e te) (hr : PA X es t) (h : plainE e = true := by rfl) : PA X (e :: es) (tCons te t) := pa_cons ha hr (star_cons h)
end L2
namespace L2
open PySem PySem.Spec PyProof.Rows
/-! ## statement by statement: what a block, a statement, an expression is to reach, as a goal -/
structure WSs (X : Cx) (b : List Stmt) (D : Ends) (σ : St) (H : Hp) : Prop where
  run : ∀ (pins : List (Addr × Obj)) (s : Shared), Inv X pins σ H s → wpAny (model X.prog X.w) X.A (execs b X.env) (SP X pins D) X.xe s
structure WS (X : Cx) (st : Stmt) (D : Ends) (σ : St) (H : Hp) : Prop where
  run : ∀ (pins : List (Addr × Obj)) (s : Shared), Inv X pins σ H s → wpAny (model X.prog X.w) X.A (exec st X.env) (SP X pins D) X.xe s
structure WE (X : Cx) (e : Expr) (σ : St) (H : Hp) (Q : VK) : Prop where
  run : ∀ (pins : List (Addr × Obj)) (s : Shared), Inv X pins σ H s → wpAny (model X.prog X.w) X.A (eval e X.env) (EP X pins σ Q) X.xe s
section
variable {X : Cx} {b rest : List Stmt} {st : Stmt} {e : Expr} {D : Ends} {σ : St} {H : Hp} {t : TS} {te : TE} {Q : VK}
theorem pss_w : PSs X b (WSs X b) := fun pins s _ _ _ I h => h.run pins s I
theorem ps_w : PS X st (WS X st) := fun pins s _ _ _ I h => h.run pins s I
theorem WSs.of (h : PSs X b t) (q : t D σ H) : WSs X b D σ H := ⟨fun pins s I => h pins s σ H D I q⟩
theorem WS.of (h : PS X st t) (q : t D σ H) : WS X st D σ H := ⟨fun pins s I => h pins s σ H D I q⟩
theorem WE.of (h : PE X e te) (q : te σ H Q) : WE X e σ H Q := ⟨fun pins s I => h pins s σ H Q I q⟩
theorem WSs.step (h : PS X st t) (q : t { D with nx := WSs X rest D } σ H) : WSs X (st :: rest) D σ H := WSs.of (pss_cons h pss_w) q
theorem WSs.last (h : PS X st t) (q : t D σ H) : WSs X [st] D σ H := WSs.of (pss_one h) q
theorem WSs.nil (q : D.nx σ H) : WSs X [] D σ H := WSs.of pss_nil q
theorem WSs.cut (M : St → Hp → Prop) (h : WS X st { D with nx := M } σ H) (k : ∀ σ' H', M σ' H' → WSs X rest D σ' H') : WSs X (st :: rest) D σ H := by
  refine WSs.step (t := tCut (fun _ _ => M) (WS X st)) (ps_cut (fun _ _ => M) ps_w) ⟨h, fun σ' H' m => k σ' H' m⟩
end
end L2
namespace L2
open PySem PySem.Spec PyProof.Rows
end L2
namespace L2
open PySem PySem.Spec PyProof.Rows
/-! ## arguments one by one -/
structure WA (X : Cx) (es : List Expr) (σ : St) (H : Hp) (Q : List V → Hp → Prop) : Prop where
  run : ∀ (pos : Pos) (pins : List (Addr × Obj)) (s : Shared), Inv X pins σ H s → wpAny (model X.prog X.w) X.A (spliced (backTo pos (starEach es X.env))) (AP X pins σ Q) X.xe s
theorem pa_w {X : Cx} {es : List Expr} : PA X es (WA X es) := fun pos pins s _ _ _ I h => h.run pos pins s I
theorem WA.of {X : Cx} {es : List Expr} {t : TA} {σ : St} {H : Hp} {Q : List V → Hp → Prop} (h : PA X es t) (q : t σ H Q) : WA X es σ H Q := ⟨fun pos pins s I => h pos pins s σ H Q I q⟩
theorem WA.nil {X : Cx} {σ : St} {H : Hp} {Q : List V → Hp → Prop} (q : Q [] H) : WA X [] σ H Q := WA.of pa_nil q
theorem WA.cons {X : Cx} {e : Expr} {es : List Expr} {te : TE} {σ : St} {H : Hp} {Q : List V → Hp → Prop} (h : plainE e = true) (he : PE X e te) (q : te σ H fun x H1 => WA X es σ H1 fun xs H2 => Q (x :: xs) H2) : WA X (e :: es) σ H Q :=
  WA.of (pa_c he pa_w h) q
end L2

end

section
set_option Elab.async false
set_option linter.all false
set_option maxRecDepth 100000
set_option maxHeartbeats 4000000

namespace L2
open PySem PySem.Spec PyProof.Rows
/-! ## a comprehension that reads names of the def -/
def allP {α : Type} (P : α → Prop) : List α → Prop
  | [] => True
  | a :: l => P a ∧ allP P l
theorem allP.mem {α : Type} {P : α → Prop} : ∀ {l : List α} {a : α}, allP P l → a ∈ l → P a
  | _ :: _, a, h, m => by
    rcases List.mem_cons.mp m with rfl | m
    · exact h.1
    · exact allP.mem h.2 m
theorem lookup_relabel_free {env : Env} : ∀ {names : List (Str × NameKind)} {x : Str}, names.lookup x = some .free →
    (names.map fun (n, k) => if (k == NameKind.free && env.scope.kind == .function && env.kindOf n == some .cell) then (n, NameKind.cell) else (n, k)).lookup x = some .cell ∨
    (names.map fun (n, k) => if (k == NameKind.free && env.scope.kind == .function && env.kindOf n == some .cell) then (n, NameKind.cell) else (n, k)).lookup x = some .free
  | [], _, h => by simp at h
  | (n, k) :: r, x, h => by
    have ih := @lookup_relabel_free env r x
    by_cases hx : x == n
    · have hk : k = .free := by
        rw [List.lookup_cons, hx] at h
        exact Option.some.inj h
      subst hk
      by_cases hc : (NameKind.free == NameKind.free && env.scope.kind == .function && env.kindOf n == some .cell) = true
      · left
        rw [List.map_cons]
        show List.lookup x ((if _ then (n, NameKind.cell) else (n, NameKind.free)) :: _) = _
        rw [if_pos hc, List.lookup_cons, hx]
      · right
        rw [List.map_cons]
        show List.lookup x ((if _ then (n, NameKind.cell) else (n, NameKind.free)) :: _) = _
        rw [if_neg hc, List.lookup_cons, hx]
    · have hx : (x == n) = false := by simpa using hx
      rw [List.lookup_cons, hx] at h
      have q := ih h
      rw [List.map_cons]
      have e : ∀ (b : Bool) (l : List (Str × NameKind)), List.lookup x ((if b = true then (n, NameKind.cell) else (n, k)) :: l) = l.lookup x := fun b l => by
        cases b <;> simp [List.lookup_cons, hx]
      rcases q with q | q
      · exact .inl ((e _ _).trans q)
      · exact .inr ((e _ _).trans q)
theorem lookup_relabel_inv {env : Env} : ∀ {names : List (Str × NameKind)} {x : Str},
    ((names.map fun (n, k) => if (k == NameKind.free && env.scope.kind == .function && env.kindOf n == some .cell) then (n, NameKind.cell) else (n, k)).lookup x = some .cell ∨
     (names.map fun (n, k) => if (k == NameKind.free && env.scope.kind == .function && env.kindOf n == some .cell) then (n, NameKind.cell) else (n, k)).lookup x = some .free) →
    names.lookup x = some .cell ∨ names.lookup x = some .free
  | [], _, h => by simp at h
  | (n, k) :: r, x, h => by
    have ih := @lookup_relabel_inv env r x
    rw [List.map_cons] at h
    by_cases hx : x == n
    · rw [List.lookup_cons, hx]
      have e : ∀ (c : Prop) [Decidable c] (l : List (Str × NameKind)), List.lookup x ((if c then (n, NameKind.cell) else (n, k)) :: l) = some (if c then .cell else k) := fun c _ l => by
        split <;> rw [List.lookup_cons, hx]
      rcases h with h | h
      · have h := (e _ _).symm.trans h
        have h := Option.some.inj h
        split at h
        · rename_i c
          right
          have : k = .free := by
            rw [Bool.and_eq_true, Bool.and_eq_true] at c
            simpa using c.1.1
          rw [this]
        · left; rw [h]
      · have h := (e _ _).symm.trans h
        have h := Option.some.inj h
        split at h
        · cases h
        · right; rw [h]
    · have hx : (x == n) = false := by simpa using hx
      have e : ∀ (c : Prop) [Decidable c] (l : List (Str × NameKind)), List.lookup x ((if c then (n, NameKind.cell) else (n, k)) :: l) = l.lookup x := fun c _ l => by
        split <;> rw [List.lookup_cons, hx]
      rw [List.lookup_cons, hx]
      exact ih (h.imp (fun z => (e _ _).symm.trans z) fun z => (e _ _).symm.trans z)
/-- n names of the block's own, then the def's names in the slots js -/
theorem CompScope.std {X : Cx} {scope : Scope} {cl : List (Str × Addr)} {N' : List Str} (n : Nat) (js : List Nat) (kind : scope.kind = .function) (cell : ∀ y ∈ scope.names, y.2 ≠ .cell)
    (names : ∀ y ∈ scope.names, y.2 = .local → scope.names.lookup y.1 = some .local) (clos : closureFor scope X.env = pure cl) (hcl : allP (fun p => X.env.cells.lookup p.1 = some p.2) cl)
    (hfree : (scope.names.all fun y => y.2 != .free || ((cl.lookup y.1).isSome && (X.env.kindOf y.1 == some .cell || X.env.kindOf y.1 == some .free))) = true)
    (hN : N'.length = n + js.length) (hj : allP (fun p : Nat × Nat => ∃ x, N'[n + p.1]? = some x ∧ X.N[p.2]? = some x ∧ scope.names.lookup x = some .free) ((List.range js.length).zip js)) :
    CompScope X scope cl N' (fun σ => List.replicate n none ++ js.map fun j => (σ[j]?).join) where
  kind := kind
  cell := cell
  names := names
  clos := clos
  sub := fun x c h => allP.mem (P := fun p => X.env.cells.lookup p.1 = some p.2) (a := (x, c)) hcl (PySem.mem_of_lookup h)
  has := fun x h => by
    rcases lookup_relabel_inv (env := X.env) h with h | h
    · exact absurd rfl (cell _ (PySem.mem_of_lookup h))
    · have q := List.all_eq_true.mp hfree _ (PySem.mem_of_lookup h)
      simp only [bne_self_eq_false, Bool.false_or, Bool.and_eq_true] at q
      exact Option.isSome_iff_exists.mp q.1
  len := fun σ _ => by simp [hN]
  fr := fun σ i x v h1 h2 _ => by
    have hi : n ≤ i := by
      rcases Nat.lt_or_ge i n with hlt | hge
      · rw [List.getElem?_append_left (by simpa using hlt), List.getElem?_replicate, if_pos hlt] at h2
        cases h2
      · exact hge
    rw [List.getElem?_append_right (by simpa using hi), List.length_replicate, List.getElem?_map] at h2
    cases hjs : js[i - n]? with
    | none => rw [hjs] at h2; cases h2
    | some j =>
      rw [hjs] at h2
      have h2 : (σ[j]?).join = some v := Option.some.inj h2
      have hlt : i - n < js.length := by
        rcases Nat.lt_or_ge (i - n) js.length with z | z
        · exact z
        · rw [List.getElem?_eq_none z] at hjs; cases hjs
      have hm : (i - n, j) ∈ (List.range js.length).zip js := by
        rw [List.mem_iff_getElem?]
        refine ⟨i - n, ?_⟩
        rw [List.getElem?_zip_eq_some]
        exact ⟨by simp [hlt], hjs⟩
      obtain ⟨x', e1, e2, e3⟩ := allP.mem hj hm
      have e : n + (i - n) = i := by omega
      simp only [e] at e1
      rw [h1] at e1
      cases e1
      have q := List.all_eq_true.mp hfree _ (PySem.mem_of_lookup e3)
      simp only [bne_self_eq_false, Bool.false_or, Bool.and_eq_true, Bool.or_eq_true, beq_iff_eq] at q
      refine ⟨lookup_relabel_free e3, q.2, j, e2, ?_⟩
      cases hs : σ[j]? with
      | none => rw [hs] at h2; cases h2
      | some o => rw [hs] at h2; exact congrArg some h2
end L2
namespace L2
open PySem PySem.Spec PyProof.Rows
/-! ## data: trees without truths -/
inductive Tr where
  | non | int (i : Int) | str (x : Str) | tup (ts : List Tr) | lst (ts : List Tr)
noncomputable instance : DecidableEq Tr := fun _ _ => Classical.propDecidable _
mutual
inductive Im (K : PySem.W.Frag) (H : Hp) : Nat → Tr → V → Prop where
  | non {n : Nat} : Im K H n .non .non
  | int {n : Nat} (i : Int) : Im K H n (.int i) (.int i)
  | str {n : Nat} (x : Str) : Im K H n (.str x) (.str x)
  | tupI {n : Nat} {a : Addr} {xs : List V} {ts : List Tr} : SqT K H a xs → Ims K H n ts xs → Im K H (n + 1) (.tup ts) (.ref a)
  | lstI {n : Nat} {a : Addr} {xs : List V} {ts : List Tr} : SqL K H a xs → Ims K H n ts xs → Im K H (n + 1) (.lst ts) (.ref a)
inductive Ims (K : PySem.W.Frag) (H : Hp) : Nat → List Tr → List V → Prop where
  | nil {n : Nat} : Ims K H n [] []
  | cons {n : Nat} {t : Tr} {v : V} {ts : List Tr} {vs : List V} : Im K H n t v → Ims K H n ts vs → Ims K H n (t :: ts) (v :: vs)
end
theorem Ims.toP {K : PySem.W.Frag} {H : Hp} {n : Nat} : ∀ {ts : List Tr} {xs : List V}, Ims K H n ts xs → Paired (Im K H n) ts xs
  | [], _, h => by cases h; exact .nil
  | _ :: _, _, h => by
    cases h with
    | cons r t => exact .cons r t.toP
theorem Ims.ofP {K : PySem.W.Frag} {H : Hp} {n : Nat} : ∀ {ts : List Tr} {xs : List V}, Paired (Im K H n) ts xs → Ims K H n ts xs
  | _, _, .nil => .nil
  | _, _, .cons r t => .cons r (Ims.ofP t)
theorem Im.tup {K : PySem.W.Frag} {H : Hp} {n : Nat} {a : Addr} {xs : List V} {ts : List Tr} (sq : SqT K H a xs) (ps : Paired (Im K H n) ts xs) : Im K H (n + 1) (.tup ts) (.ref a) := .tupI sq (.ofP ps)
theorem Im.lst {K : PySem.W.Frag} {H : Hp} {n : Nat} {a : Addr} {xs : List V} {ts : List Tr} (sq : SqL K H a xs) (ps : Paired (Im K H n) ts xs) : Im K H (n + 1) (.lst ts) (.ref a) := .lstI sq (.ofP ps)
theorem Paired.get {α β : Type} {R : α → β → Prop} : ∀ {l₁ : List α} {l₂ : List β} {i : Nat} {a : α}, Paired R l₁ l₂ → l₁[i]? = some a → ∃ b, l₂[i]? = some b ∧ R a b
  | _, _, _, _, .nil, e => by simp at e
  | _, _, 0, _, .cons r _, e => by simp at e; subst e; exact ⟨_, rfl, r⟩
  | _, _, i + 1, a, .cons _ t, e => by
    obtain ⟨u, h1, h2⟩ := Paired.get (i := i) (a := a) t (by simpa using e)
    exact ⟨u, by simpa using h1, h2⟩
theorem Paired.get' {α β : Type} {R : α → β → Prop} : ∀ {l₁ : List α} {l₂ : List β} {i : Nat} {b : β}, Paired R l₁ l₂ → l₂[i]? = some b → ∃ a, l₁[i]? = some a ∧ R a b
  | _, _, _, _, .nil, e => by simp at e
  | _, _, 0, _, .cons r _, e => by simp at e; subst e; exact ⟨_, rfl, r⟩
  | _, _, i + 1, a, .cons _ t, e => by
    obtain ⟨u, h1, h2⟩ := Paired.get' (i := i) (b := a) t (by simpa using e)
    exact ⟨u, by simpa using h1, h2⟩
theorem Paired.append {α β : Type} {R : α → β → Prop} : ∀ {a₁ : List α} {b₁ : List β} {a₂ : List α} {b₂ : List β}, Paired R a₁ b₁ → Paired R a₂ b₂ → Paired R (a₁ ++ a₂) (b₁ ++ b₂)
  | _, _, _, _, .nil, s => s
  | _, _, _, _, .cons r t, s => .cons r (Paired.append t s)
theorem Paired.reverse {α β : Type} {R : α → β → Prop} : ∀ {l₁ : List α} {l₂ : List β}, Paired R l₁ l₂ → Paired R l₁.reverse l₂.reverse
  | _, _, .nil => .nil
  | _, _, .cons r t => by
    rw [List.reverse_cons, List.reverse_cons]
    exact Paired.append (Paired.reverse t) (.cons r .nil)
theorem Paired.strs {K : PySem.W.Frag} {H : Hp} {n : Nat} : ∀ xs : List Str, Paired (Im K H n) (xs.map Tr.str) (xs.map V.str)
  | [] => .nil
  | x :: xs => .cons (.str x) (Paired.strs (K := K) (H := H) (n := n) xs)
theorem Paired.ints {K : PySem.W.Frag} {H : Hp} {n : Nat} : ∀ xs : List Int, Paired (Im K H n) (xs.map Tr.int) (xs.map V.int)
  | [] => .nil
  | x :: xs => .cons (.int x) (Paired.ints (K := K) (H := H) (n := n) xs)
theorem Same.at {H H' : Hp} {b : Addr} {o : HO} (e : Same H H') (h : H b = some o) : H' b = some o := e b o h
theorem Same.new {H : Hp} {p : Addr} {o : HO} (h : H p = none) : Same H (upd H p o) := fun b u e => by rw [upd_ne (ne_of_none e h)]; exact e
theorem Same.sqT {K : PySem.W.Frag} {H H' : Hp} {a : Addr} {xs : List V} (e : Same H H') (h : SqT K H a xs) : SqT K H' a xs := by
  rcases h with (h | ⟨o, h⟩) | h
  · exact .inl (.inl (e _ _ h))
  · exact .inl (.inr ⟨o, e _ _ h⟩)
  · exact .inr h
theorem Im.mono {K : PySem.W.Frag} {H H' : Hp} (e : Same H H') : ∀ {n : Nat} {t : Tr} {v : V}, Im K H n t v → Im K H' n t v := by
  intro n
  induction n with
  | zero => intro t v h; cases h <;> constructor
  | succ n ih =>
    intro t v h
    cases h with
    | non => exact .non
    | int i => exact .int i
    | str x => exact .str x
    | tupI sq ps => exact .tup (e.sqT sq) (Paired.mapP ps.toP fun _ _ z => ih z)
    | lstI sq ps => exact .lst (e.seq sq) (Paired.mapP ps.toP fun _ _ z => ih z)
theorem Im.up {K : PySem.W.Frag} {H : Hp} : ∀ {n m : Nat} {t : Tr} {v : V}, n ≤ m → Im K H n t v → Im K H m t v := by
  intro n
  induction n with
  | zero => intro m t v _ h; cases h <;> constructor
  | succ n ih =>
    intro m t v hm h
    cases m with
    | zero => omega
    | succ m =>
      cases h with
      | non => exact .non
      | int i => exact .int i
      | str x => exact .str x
      | tupI sq ps => exact .tup sq (Paired.mapP ps.toP fun _ _ z => ih (by omega) z)
      | lstI sq ps => exact .lst sq (Paired.mapP ps.toP fun _ _ z => ih (by omega) z)
theorem Paired.uniq {α β : Type} {R : α → β → Prop} (f : ∀ a a' b, R a b → R a' b → a = a') : ∀ {l l' : List α} {m : List β}, Paired R l m → Paired R l' m → l = l'
  | _, _, _, .nil, .nil => rfl
  | _, _, _, .cons r t, .cons r' t' => by rw [f _ _ _ r r', Paired.uniq f t t']
section
variable {X : Cx} {pins : List (Addr × Obj)} {σ : St} {H : Hp} {s : Shared}
theorem Inv.lt_excl (I : Inv X pins σ H s) {a : Addr} {xs ys : List V} (h : SqL X.K H a xs) (h' : SqT X.K H a ys) : False := by
  obtain ⟨its, _, pl, _⟩ := I.list h
  obtain ⟨its', _, tp, _⟩ := I.tuple h'
  exact SeqAt.ne_of_list_tuple pl.isList (show s.heap.IsTuple a its'.toArray from tp) rfl
theorem Im.inj (I : Inv X pins σ H s) : ∀ {n : Nat} {t u : Tr} {v : V}, Im X.K H n t v → Im X.K H n u v → t = u := by
  intro n
  induction n with
  | zero => intro t u v h h'; cases h <;> cases h' <;> rfl
  | succ n ih =>
    intro t u v h h'
    cases h with
    | non => cases h'; rfl
    | int i => cases h'; rfl
    | str x => cases h'; rfl
    | tupI sq pm =>
      cases h' with
      | tupI sq' pm' =>
        have e := I.tuple_inj sq sq'
        subst e
        rw [Paired.uniq (R := Im X.K H n) (fun _ _ _ z z' => ih z z') pm.toP pm'.toP]
      | lstI sq' pm' => exact (I.lt_excl sq' sq).elim
    | lstI sq pm =>
      cases h' with
      | tupI sq' pm' => exact (I.lt_excl sq sq').elim
      | lstI sq' pm' =>
        have e := I.list_inj sq sq'
        subst e
        rw [Paired.uniq (R := Im X.K H n) (fun _ _ _ z z' => ih z z') pm.toP pm'.toP]
theorem eqAt_cast {A : Around} {s : Shared} {u v : Value} {b b' : Bool} (h : SeqAt.EqAt A s u v b) (e : b = b') : SeqAt.EqAt A s u v b' := e ▸ h
theorem all_getElem (ts us : List Tr) : (((List.range (min ts.length us.length)).all fun j => decide (ts[j]? = us[j]?)) && ts.length == us.length) = decide (ts = us) := by
  rw [Bool.eq_iff_iff]
  simp only [Bool.and_eq_true, List.all_eq_true, List.mem_range, decide_eq_true_eq, beq_iff_eq]
  constructor
  · rintro ⟨h, e⟩
    refine List.ext_getElem? fun i => ?_
    by_cases hi : i < ts.length
    · exact h i (by omega)
    · rw [List.getElem?_eq_none (by omega), List.getElem?_eq_none (by omega)]
  · rintro rfl
    exact ⟨fun _ _ => rfl, rfl⟩
theorem all_getElem' {ts us : List Tr} (h : ts.length = us.length) : ((List.range ts.length).all fun j => decide (ts[j]? = us[j]?)) = decide (ts = us) := by
  have q := all_getElem ts us
  rw [h, Nat.min_self, beq_self_eq_true, Bool.and_true] at q
  rw [h]
  exact q
theorem in1_units (A : Around) : A.in1.units = A.units + 1 := rfl
/-- the items' answers -/
theorem items_eqAt {n : Nat} {A : Around} {ts us : List Tr} {xs ys : List V} {its its' : List Value}
    (ih : ∀ {t u : Tr} {x y : V} {vx vy : Value}, Im X.K H n t x → Im X.K H n u y → RelV x vx → RelV y vy → SeqAt.EqAt A s vx vy (decide (t = u)))
    (ps : Paired (Im X.K H n) ts xs) (ps' : Paired (Im X.K H n) us ys) (rv : Vals xs its) (rv' : Vals ys its') :
    ∀ j (h1 : j < its.toArray.size) (h2 : j < its'.toArray.size), SeqAt.EqAt A s its.toArray[j] its'.toArray[j] (decide (ts[j]? = us[j]?)) := by
  intro j h1 h2
  have l1 := rv.length
  have l2 := rv'.length
  have h1' : j < xs.length := by simpa [l1] using h1
  have h2' : j < ys.length := by simpa [l2] using h2
  obtain ⟨t, e1, r1⟩ := Paired.get' ps (i := j) (b := xs[j]) (by simp [h1'])
  obtain ⟨u, e2, r2⟩ := Paired.get' ps' (i := j) (b := ys[j]) (by simp [h2'])
  obtain ⟨v1, f1, g1⟩ := rv.get (i := j) (x := xs[j]) (by simp [h1'])
  obtain ⟨v2, f2, g2⟩ := rv'.get (i := j) (x := ys[j]) (by simp [h2'])
  have k1 : its.toArray[j] = v1 := by
    have : its[j]? = some its.toArray[j] := by simp [show j < its.length by simpa using h1]
    rw [f1] at this
    exact (Option.some.inj this).symm
  have k2 : its'.toArray[j] = v2 := by
    have : its'[j]? = some its'.toArray[j] := by simp [show j < its'.length by simpa using h2]
    rw [f2] at this
    exact (Option.some.inj this).symm
  rw [k1, k2, e1, e2]
  refine eqAt_cast (ih r1 r2 g1 g2) ?_
  rw [Bool.eq_iff_iff]
  simp
theorem Im.tuple_rc (I : Inv X pins σ H s) {n : Nat} {A : Around} {a b : Addr} {ts us : List Tr} {xs ys : List V}
    (ih : ∀ {t u : Tr} {x y : V} {vx vy : Value}, Im X.K H n t x → Im X.K H n u y → RelV x vx → RelV y vy → SeqAt.EqAt A.in1 s vx vy (decide (t = u))) (hu : A.units < cLine)
    (sq : SqT X.K H a xs) (ps : Paired (Im X.K H n) ts xs) (sq' : SqT X.K H b ys) (ps' : Paired (Im X.K H n) us ys) :
    SeqAt.RcAt A s (.ref a) (.ref b) (decide (Tr.tup ts = Tr.tup us)) ∧ SeqAt.RcNeAt A s (.ref a) (.ref b) (!decide (Tr.tup ts = Tr.tup us)) := by
  obtain ⟨its, rv, tp, _⟩ := I.tuple sq
  obtain ⟨its', rv', tp', _⟩ := I.tuple sq'
  have l1 := rv.length
  have l2 := rv'.length
  have m1 := Paired.length ps
  have m2 := Paired.length ps'
  have e : ((List.range (min its.toArray.size its'.toArray.size)).all (fun j => decide (ts[j]? = us[j]?)) && its.toArray.size == its'.toArray.size) = decide (Tr.tup ts = Tr.tup us) := by
    rw [List.size_toArray, List.size_toArray, ← l1, ← l2, ← m1, ← m2, all_getElem, Bool.eq_iff_iff]
    simp
  constructor
  · rw [← e]; exact SeqAt.RcAt.tuples (show s.heap.IsTuple a its.toArray from tp) (show s.heap.IsTuple b its'.toArray from tp') hu (items_eqAt ih ps ps' rv rv')
  · rw [← e]; exact SeqAt.RcNeAt.tuples (show s.heap.IsTuple a its.toArray from tp) (show s.heap.IsTuple b its'.toArray from tp') hu (items_eqAt ih ps ps' rv rv')
theorem Im.list_rc (I : Inv X pins σ H s) {n : Nat} {A : Around} {a b : Addr} {ts us : List Tr} {xs ys : List V}
    (ih : ∀ {t u : Tr} {x y : V} {vx vy : Value}, Im X.K H n t x → Im X.K H n u y → RelV x vx → RelV y vy → SeqAt.EqAt A.in1 s vx vy (decide (t = u))) (hu : A.units < cLine)
    (sq : SqL X.K H a xs) (ps : Paired (Im X.K H n) ts xs) (sq' : SqL X.K H b ys) (ps' : Paired (Im X.K H n) us ys) :
    SeqAt.RcAt A s (.ref a) (.ref b) (decide (Tr.lst ts = Tr.lst us)) ∧ SeqAt.RcNeAt A s (.ref a) (.ref b) (!decide (Tr.lst ts = Tr.lst us)) := by
  obtain ⟨its, rv, tp, _⟩ := I.list sq
  obtain ⟨its', rv', tp', _⟩ := I.list sq'
  have l1 := rv.length
  have l2 := rv'.length
  have m1 := Paired.length ps
  have m2 := Paired.length ps'
  by_cases hl : ts.length = us.length
  · have e : ((List.range its.toArray.size).all fun j => decide (ts[j]? = us[j]?)) = decide (Tr.lst ts = Tr.lst us) := by
      rw [List.size_toArray, ← l1, ← m1, all_getElem' hl, Bool.eq_iff_iff]
      simp
    have hs : its.toArray.size = its'.toArray.size := by rw [List.size_toArray, List.size_toArray]; omega
    constructor
    · rw [← e]; exact SeqAt.RcAt.lists tp.isList tp'.isList hs hu (items_eqAt ih ps ps' rv rv')
    · rw [← e]; exact SeqAt.RcNeAt.lists tp.isList tp'.isList hs hu (items_eqAt ih ps ps' rv rv')
  · have e : decide (Tr.lst ts = Tr.lst us) = false := decide_eq_false fun z => hl (by injection z with z; rw [z])
    have hs : (its.toArray.size != its'.toArray.size) = true := by rw [List.size_toArray, List.size_toArray]; simp; omega
    rw [e]
    exact ⟨SeqAt.RcAt.lists_lengths tp.isList tp'.isList hs hu, SeqAt.RcNeAt.lists_lengths tp.isList tp'.isList hs hu⟩
theorem Im.eqAt (I : Inv X pins σ H s) : ∀ (n : Nat) (A : Around) {t u : Tr} {x y : V} {vx vy : Value}, Im X.K H n t x → Im X.K H n u y → RelV x vx → RelV y vy → A.units + n < cLine → SeqAt.EqAt A s vx vy (decide (t = u)) := by
  intro n
  induction n with
  | zero =>
    intro A t u x y vx vy h h' rx ry hu
    cases h <;> cases h' <;> exact eqAt_cast (eqAt_V rx ry rfl rfl) (by rw [Bool.eq_iff_iff]; simp [eqV])
  | succ n ih =>
    intro A t u x y vx vy h h' rx ry hu
    have hu0 : A.units < cLine := by omega
    have hu1 : A.in1.units + n < cLine := by rw [in1_units]; omega
    have ih1 : ∀ {t u : Tr} {x y : V} {vx vy : Value}, Im X.K H n t x → Im X.K H n u y → RelV x vx → RelV y vy → SeqAt.EqAt A.in1 s vx vy (decide (t = u)) := fun z z' r r' => ih A.in1 z z' r r' hu1
    cases h with
    | @tupI _ a xs ts sq pm =>
      cases rx
      obtain ⟨its, rv, tp, _⟩ := I.tuple sq
      cases h' with
      | non => cases ry; exact eqAt_cast (SeqAt.EqAt.tuple_none (show s.heap.IsTuple _ its.toArray from tp) hu0) (decide_eq_false fun z => nomatch z).symm
      | int i => obtain ⟨t', rfl⟩ := ry; exact eqAt_cast (SeqAt.EqAt.tuple_int i t' (show s.heap.IsTuple _ its.toArray from tp) hu0) (decide_eq_false fun z => nomatch z).symm
      | str i => obtain ⟨t', rfl⟩ := ry; exact eqAt_cast (SeqAt.EqAt.tuple_str i t' (show s.heap.IsTuple _ its.toArray from tp) hu0) (decide_eq_false fun z => nomatch z).symm
      | @tupI _ b ys us sq' pm' =>
        cases ry
        by_cases hab : a = b
        · subst hab
          rw [Im.inj I (Im.tupI sq pm) (Im.tupI sq' pm'), decide_eq_true rfl]
          exact SeqAt.EqAt.same _
        · exact SeqAt.EqAt.of_refs hab (Im.tuple_rc I ih1 hu0 sq pm.toP sq' pm'.toP).1
      | lstI sq' pm' =>
        cases ry
        obtain ⟨its', rv', tp', _⟩ := I.list sq'
        exact eqAt_cast (SeqAt.EqAt.tuple_list (show s.heap.IsTuple _ its.toArray from tp) tp'.isList hu0) (decide_eq_false fun z => nomatch z).symm
    | @lstI _ a xs ts sq pm =>
      cases rx
      obtain ⟨its, rv, tp, _⟩ := I.list sq
      cases h' with
      | non => cases ry; exact eqAt_cast (SeqAt.EqAt.list_none tp.isList hu0) (decide_eq_false fun z => nomatch z).symm
      | int i => obtain ⟨t', rfl⟩ := ry; exact eqAt_cast (SeqAt.EqAt.list_int i t' tp.isList hu0) (decide_eq_false fun z => nomatch z).symm
      | str i => obtain ⟨t', rfl⟩ := ry; exact eqAt_cast (SeqAt.EqAt.list_str i t' tp.isList hu0) (decide_eq_false fun z => nomatch z).symm
      | tupI sq' pm' =>
        cases ry
        obtain ⟨its', rv', tp', _⟩ := I.tuple sq'
        exact eqAt_cast (SeqAt.EqAt.list_tuple tp.isList (show s.heap.IsTuple _ its'.toArray from tp') hu0) (decide_eq_false fun z => nomatch z).symm
      | @lstI _ b ys us sq' pm' =>
        cases ry
        by_cases hab : a = b
        · subst hab
          rw [Im.inj I (Im.lstI sq pm) (Im.lstI sq' pm'), decide_eq_true rfl]
          exact SeqAt.EqAt.same _
        · exact SeqAt.EqAt.of_refs hab (Im.list_rc I ih1 hu0 sq pm.toP sq' pm'.toP).1
    | non =>
      cases rx
      cases h' with
      | non => cases ry; exact eqAt_cast (SeqAt.EqAt.same _) (decide_eq_true rfl).symm
      | int i => obtain ⟨t', rfl⟩ := ry; exact eqAt_cast (SeqAt.EqAt.none_int i t') (decide_eq_false fun z => nomatch z).symm
      | str i => obtain ⟨t', rfl⟩ := ry; exact eqAt_cast (SeqAt.EqAt.none_str i t') (decide_eq_false fun z => nomatch z).symm
      | tupI sq' pm' => cases ry; obtain ⟨its', _, tp', _⟩ := I.tuple sq'; exact eqAt_cast (SeqAt.EqAt.none_tuple (show s.heap.IsTuple _ its'.toArray from tp') hu0) (decide_eq_false fun z => nomatch z).symm
      | lstI sq' pm' => cases ry; obtain ⟨its', _, tp', _⟩ := I.list sq'; exact eqAt_cast (SeqAt.EqAt.none_list tp'.isList hu0) (decide_eq_false fun z => nomatch z).symm
    | int j =>
      cases h' with
      | tupI sq' pm' => obtain ⟨t', rfl⟩ := rx; cases ry; obtain ⟨its', _, tp', _⟩ := I.tuple sq'; exact eqAt_cast (SeqAt.EqAt.int_tuple j t' (show s.heap.IsTuple _ its'.toArray from tp') hu0) (decide_eq_false fun z => nomatch z).symm
      | lstI sq' pm' => obtain ⟨t', rfl⟩ := rx; cases ry; obtain ⟨its', _, tp', _⟩ := I.list sq'; exact eqAt_cast (SeqAt.EqAt.int_list j t' tp'.isList hu0) (decide_eq_false fun z => nomatch z).symm
      | _ => exact eqAt_cast (eqAt_V rx ry rfl rfl) (by rw [Bool.eq_iff_iff]; simp [eqV])
    | str j =>
      cases h' with
      | tupI sq' pm' => obtain ⟨t', rfl⟩ := rx; cases ry; obtain ⟨its', _, tp', _⟩ := I.tuple sq'; exact eqAt_cast (SeqAt.EqAt.str_tuple j t' (show s.heap.IsTuple _ its'.toArray from tp') hu0) (decide_eq_false fun z => nomatch z).symm
      | lstI sq' pm' => obtain ⟨t', rfl⟩ := rx; cases ry; obtain ⟨its', _, tp', _⟩ := I.list sq'; exact eqAt_cast (SeqAt.EqAt.str_list j t' tp'.isList hu0) (decide_eq_false fun z => nomatch z).symm
      | _ => exact eqAt_cast (eqAt_V rx ry rfl rfl) (by rw [Bool.eq_iff_iff]; simp [eqV])
end
/-- == of two tuples, two lists -/
def rEqD (K : PySem.W.Frag) (neg : Bool) : R2 := fun x y H Q => ∃ n t u, n ≤ 60 ∧ ((∃ ts us, t = Tr.tup ts ∧ u = Tr.tup us) ∨ ∃ ts us, t = Tr.lst ts ∧ u = Tr.lst us) ∧ Im K H n t x ∧ Im K H n u y ∧ Q (.bl (if neg then !decide (t = u) else decide (t = u))) H
theorem op_eqD {X : Cx} (hu : X.A.units + 64 < cLine) : OpR X (compareOp .Eq) (rEqD X.K false) := by
  intro pins s σ H x y v u Q I rx ry h
  obtain ⟨n, t, t', hn, hk, h1, h2, q⟩ := h
  rcases hk with ⟨ts, us, rfl, rfl⟩ | ⟨ts, us, rfl, rfl⟩
  · cases h1 with
    | tupI sq pm =>
      cases h2 with
      | tupI sq' pm' =>
        cases rx
        cases ry
        exact (Im.tuple_rc (A := X.A) I (fun z z' r r' => Im.eqAt I _ _ z z' r r' (by rw [in1_units]; omega)) (by omega) sq pm.toP sq' pm'.toP).1 _ _ _ _ ⟨.bl _, H, I, rfl, q⟩
  · cases h1 with
    | lstI sq pm =>
      cases h2 with
      | lstI sq' pm' =>
        cases rx
        cases ry
        exact (Im.list_rc (A := X.A) I (fun z z' r r' => Im.eqAt I _ _ z z' r r' (by rw [in1_units]; omega)) (by omega) sq pm.toP sq' pm'.toP).1 _ _ _ _ ⟨.bl _, H, I, rfl, q⟩
theorem op_neD {X : Cx} (hu : X.A.units + 64 < cLine) : OpR X (compareOp .NotEq) (rEqD X.K true) := by
  intro pins s σ H x y v u Q I rx ry h
  obtain ⟨n, t, t', hn, hk, h1, h2, q⟩ := h
  rcases hk with ⟨ts, us, rfl, rfl⟩ | ⟨ts, us, rfl, rfl⟩
  · cases h1 with
    | tupI sq pm =>
      cases h2 with
      | tupI sq' pm' =>
        cases rx
        cases ry
        exact (Im.tuple_rc (A := X.A) I (fun z z' r r' => Im.eqAt I _ _ z z' r r' (by rw [in1_units]; omega)) (by omega) sq pm.toP sq' pm'.toP).2 _ _ _ _ ⟨.bl _, H, I, rfl, q⟩
  · cases h1 with
    | lstI sq pm =>
      cases h2 with
      | lstI sq' pm' =>
        cases rx
        cases ry
        exact (Im.list_rc (A := X.A) I (fun z z' r r' => Im.eqAt I _ _ z z' r r' (by rw [in1_units]; omega)) (by omega) sq pm.toP sq' pm'.toP).2 _ _ _ _ ⟨.bl _, H, I, rfl, q⟩
/-! ## displays and their like: the heap behind by what is known of it -/
def tTupS (t : TA) : TE := fun σ H Q => t σ H fun xs H1 => xs.length ≤ sizeLine ∧ ∀ p H', Same H1 H' → H1 p = none → H' p = some (.tup xs) → Q (.ref p) H'
def tLstS (t : TA) : TE := fun σ H Q => t σ H fun xs H1 => xs.length ≤ sizeLine ∧ ∀ p H', Same H1 H' → H1 p = none → H' p = some (.lst xs) → Q (.ref p) H'
theorem pe_tupS {X : Cx} {es : List Expr} {t : TA} {pos : Pos} {x1} (h : PA X es t) : PE X (.Tuple es x1 pos) (tTupS t) := by
  intro pins s σ H Q I hq
  refine wpAny_Tuple_spliced (thn (h pos pins s σ H _ I hq) fun us s1 ⟨xs, H1, I1, r, z, q⟩ => ⟨by rw [← r.length]; exact z, ?_⟩)
  have hf : H1 s1.heap.objs.size = none := I1.hok.fresh (Nat.le_refl _)
  refine ⟨.ref s1.heap.objs.size, upd H1 s1.heap.objs.size (.tup xs), I1.laid (t' := s1.toks) (fun b u e => Heap.get?_push_of_some _ e) (Nat.le_refl _) ?_, rfl, q _ _ (Same.new hf) hf upd_same⟩
  exact ⟨z, us, r, ⟨_, Heap.get?_push_size _ rfl, rfl, _, rfl⟩⟩
theorem pe_lstS {X : Cx} {es : List Expr} {t : TA} {pos : Pos} (h : PA X es t) : PE X (.List es pos) (tLstS t) := by
  intro pins s σ H Q I hq
  refine wpAny_List_spliced (thn (h pos pins s σ H _ I hq) fun us s1 ⟨xs, H1, I1, r, z, q⟩ => ⟨by rw [← r.length]; exact z, ?_⟩)
  have hf : H1 s1.heap.objs.size = none := I1.hok.fresh (Nat.le_refl _)
  refine ⟨.ref s1.heap.objs.size, upd H1 s1.heap.objs.size (.lst xs), I1.laid (t' := s1.toks) (fun b u e => Heap.get?_push_of_some _ e) (Nat.le_refl _) ?_, rfl, q _ _ (Same.new hf) hf upd_same⟩
  exact ⟨z, us, 0, r, Heap.get?_push_size _ rfl⟩
theorem OpR.imp {X : Cx} {f : Value → Value → Sem Value} {r r' : R2} (h : OpR X f r) (g : ∀ x y H Q, r' x y H Q → r x y H Q) : OpR X f r' := fun pins s σ H x y v u Q I rx ry q => h pins s σ H x y v u Q I rx ry (g _ _ _ _ q)
theorem SlR.imp {X : Cx} {r r' : V → Option Int → Option Int → Hp → VK → Prop} (h : SlR X r) (g : ∀ x l u H Q, r' x l u H Q → r x l u H Q) : SlR X r' := fun pins s σ H x v vl vu lo hi sl Q I rx hs pl pu q => h pins s σ H x v vl vu lo hi sl Q I rx hs pl pu (g _ _ _ _ _ q)
theorem CallR.imp {X : Cx} {f : Value} {r r' : List V → Hp → VK → Prop} (h : CallR X f r) (g : ∀ xs H Q, r' xs H Q → r xs H Q) : CallR X f r' := fun pins s σ H xs us Q I rs q => h pins s σ H xs us Q I rs (g _ _ _ q)
/-- what is made is new -/
def New (H : Hp) (o : HO) (Q : VK) : Prop := ∀ p H', Same H H' → H p = none → H' p = some o → Q (.ref p) H'
theorem New.at {H : Hp} {o : HO} {Q : VK} (h : New H o Q) (p : Addr) (hp : H p = none) : Q (.ref p) (upd H p o) := h p _ (Same.new hp) hp upd_same
def rCatS : R2 := fun x y H Q => ∃ l b xs zs, x = .ref l ∧ y = .ref b ∧ H l = some (.lst xs) ∧ H b = some (.lst zs) ∧ xs.length + zs.length ≤ sizeLine ∧ New H (.lst (xs ++ zs)) Q
theorem op_catS {X : Cx} : OpR X (binaryOp .Add) rCatS := op_cat.imp fun x y H Q ⟨l, b, xs, zs, h1, h2, h3, h4, h5, h6⟩ => ⟨l, b, xs, zs, h1, h2, h3, h4, h5, fun p hp => h6.at p hp⟩
def rSlTS (K : PySem.W.Frag) : V → Option Int → Option Int → Hp → VK → Prop := fun x lo hi H Q => ∃ a xs, x = .ref a ∧ SqT K H a xs ∧ ¬ (HT.sIx xs.length 0 lo = 0 ∧ HT.sIx xs.length xs.length hi = xs.length) ∧ New H (.tup (cutV xs lo hi)) Q
theorem sl_tupS {X : Cx} : SlR X (rSlTS X.K) := sl_tup.imp fun x l u H Q ⟨a, xs, h1, h2, h3, h4⟩ => ⟨a, xs, h1, h2, h3, fun p hp => h4.at p hp⟩
def rSlLS (K : PySem.W.Frag) : V → Option Int → Option Int → Hp → VK → Prop := fun x lo hi H Q => ∃ a xs, x = .ref a ∧ SqL K H a xs ∧ New H (.lst (cutV xs lo hi)) Q
theorem sl_listS {X : Cx} : SlR X (rSlLS X.K) := sl_list.imp fun x l u H Q ⟨a, xs, h1, h2, h4⟩ => ⟨a, xs, h1, h2, fun p hp => h4.at p hp⟩
/-- C(..), by what is made -/
theorem pe_makeR {X : Cx} {CX : CXT} {k : Nat} {f C : Addr} {fd : FuncData} {ps : List Str} {sp : Sp} {dvs : List V} {ds : List Value} {E : XK} {x : Str} {p pos : Pos} {e : Expr} {es : List Expr} {t : TA} (mr : List V → Hp → VK → Prop) (M : Mk X.K C f)
    (F : FnOk X.prog X.w X.K X.mg X.base CX k f fd ps sp) (hr : Room (k + 1) X.A) (hg : Gl X x) (hm : X.mg x = some (.ref C)) (hb : Binds X.K fd ps ds) (hd : Vals dvs ds) (hx : Passes CX X E)
    (hmr : ∀ vs H Q, mr vs H Q → ∀ x dx, H x = none → H dx = none → dx ≠ x → sp (.ref x :: (vs ++ dvs)) (upd (upd H dx (.own x)) x (.ins C dx [])) (fun v H2 => v = .non ∧ Q (.ref x) H2) E)
    (ha : PA X (e :: es) t) (hdb : (x == ("__debug__" : Str)) = false := by decide) (he : starEach (e :: es) X.env = (false, eval e X.env) :: starEach es X.env := by rfl) (hpl : (backTo pos (starEach es X.env)).any (·.1) = false := by rfl) :
    PE X (.Call (.Name x p) (e :: es) [] pos) (tCB mr t) := by
  intro pins s σ H Q I h
  refine wpAny_Call_Name_kw (ld_glob I hg hm ?_ hdb)
  refine PySem.W.callWith_K (h₀ := X.base) I.ok.mod.kin M.kp (thn (ha pos pins s σ H _ I h) fun us s1 ⟨vs, H1, I1, r, q⟩ => ⟨I1.kIn, ?_⟩) he hpl
  exact run_make M F hr hb hd hx I1 r (hmr vs H1 Q q)
/-! ## rules for the several kinds -/
section
variable {X : Cx} {k : Nat}
theorem op_dnotin (hu : X.A.units + 1 < cLine) : OpR X (compareOp .NotIn) (fun y x H Q => ∃ a o, x = .ref a ∧ DGet H a y o ∧ Q (.bl (!o.isSome)) H) := by
  intro pins s σ H y x v u Q I ry rx h
  obtain ⟨a, ov, rfl, g, q⟩ := h
  cases rx
  exact d_notIn hu I g ry fun s3 I3 => ⟨.bl (!ov.isSome), H, I3, rfl, q⟩
theorem oAdd : OpR X (binaryOp .Add) (fun x y H Q => rI0 (fun i j => .int (i + j)) x y H Q ∨ (∃ i j, x = .str i ∧ y = .str j ∧ i.length + j.length ≤ sizeLine ∧ Q (.str (i ++ j)) H) ∨ rCatS x y H Q) := op_add.or (op_add_str.or op_catS)
end
theorem sz {n : Nat} (h : n ≤ 1000) : n ≤ sizeLine := Nat.le_of_lt (small1000 h)
/-! ## a def with defaults; a def and its facts in one -/
structure FunD (K : PySem.W.Frag) (x qual : Str) (st : Stmt) (dV : Value) (f : Addr) (fd : FuncData) : Prop where
  ex : ∃ (oc : Value) (od : Option Addr) (kV doc pm : Value) (an : Option Addr) (cdv ct : Value) (osl : Array (Option Value)),
    fd = PySem.W.fnOf x qual (defArgs st) (defBody st) (defScope st) dV kV doc pm an cdv ct ∧ K.lookup f = some ⟨oc, od, .func fd, osl⟩ ∧ PySem.W.codeIn K cdv qual = true
  kp : PySem.W.keepIn K (.ref f) = true
section
variable {P : Program} {w : World} {K : PySem.W.Frag} {mg : Str → Option Value} {base : Heap}
theorem FunD.ok {x qual : Str} {st : Stmt} {dV : Value} {f : Addr} {fd : FuncData} {N ps : List Str} {k : Nat} {sp : Sp} (F : FunD K x qual st dV f fd) (S : FnScope N ps (defScope st)) (len : ∀ vs H Q E, sp vs H Q E → vs.length = ps.length)
    (hbody : ∀ (cdv : Value) (A : Around) (outer : List Env) (s : Shared) (H : Hp) (vs : List V) (Q : VK) (E : XK), Room k (A.deeper (envOfC qual (defScope st) s.heap.objs.size f cdv)) → sp vs H Q E →
      WSs (cxOf CX0 P w K mg base N qual (defScope st) f cdv A outer s H E).nox (defBody st) { nx := fun _ H' => Q .non H', rt := Q } (start N vs) H) : FnOk P w K mg base CX0 (k + 1) f fd ps sp := by
  obtain ⟨oc, od, kV, doc, pm, an, cdv, ct, osl, rfl, lk, hcd⟩ := F.ex
  refine fn_of lk hcd S len fun A outer s H vs Q E hr hsp => ?_
  exact ⟨_, PSs.nox pss_w, hbody cdv A outer s H vs Q E hr hsp⟩
theorem Fun.okW {x qual : Str} {st : Stmt} {f : Addr} {fd : FuncData} {N ps : List Str} {k : Nat} {sp : Sp} (F : Fun K x qual st f fd) (S : FnScope N ps (defScope st)) (len : ∀ vs H Q E, sp vs H Q E → vs.length = ps.length)
    (hbody : ∀ (cdv : Value) (A : Around) (outer : List Env) (s : Shared) (H : Hp) (vs : List V) (Q : VK) (E : XK), Room k (A.deeper (envOfC qual (defScope st) s.heap.objs.size f cdv)) → sp vs H Q E →
      WSs (cxOf CX0 P w K mg base N qual (defScope st) f cdv A outer s H E).nox (defBody st) { nx := fun _ H' => Q .non H', rt := Q } (start N vs) H) : FnOk P w K mg base CX0 (k + 1) f fd ps sp :=
  F.ok S len fun cdv A outer s H vs Q E hr h => ⟨_, pss_w, hbody cdv A outer s H vs Q E hr h⟩
end
structure Dn (K : PySem.W.Frag) (x qual : Str) (st : Stmt) (ps : List Str) where
  f : Addr
  fd : FuncData
  F : Fun K x qual st f fd
  b : Binds K fd ps []
/-! ## small facts -/
theorem flat_strs : ∀ l : List Str, (l.map V.str).all flatV = true
  | [] => rfl
  | _ :: l => by rw [List.map_cons, List.all_cons, flat_strs l]; rfl
theorem inV_strs (x : Str) : ∀ l : List Str, inV (.str x) (l.map V.str) = decide (x ∈ l)
  | [] => by simp [inV]
  | y :: l => by
    have ih := inV_strs x l
    unfold inV at ih ⊢
    rw [List.map_cons, List.any_cons, ih, Bool.eq_iff_iff]
    simp only [eqV, Bool.or_eq_true, beq_iff_eq, decide_eq_true_eq, List.mem_cons]
    constructor
    · rintro (h | h)
      · exact .inl h.symm
      · exact .inr h
    · rintro (h | h)
      · exact .inl h.symm
      · exact .inr h
end L2

end

section
set_option Elab.async false
set_option linter.all false
set_option maxRecDepth 100000
set_option maxHeartbeats 4000000
namespace L2
open PySem PySem.Spec PyProof.Rows
/-! ## a dict while it is walked: known to the object -/
def isDct : HO → Bool
  | .dK _ => true
  | .dT _ => true
  | _ => false
section
variable {X : Cx} {pins : List (Addr × Obj)} {σ : St} {H : Hp} {s : Shared} {d : Addr} {o : Obj} {u : HO}
/-- the heap's description where one thing is told otherwise -/
theorem HOk.retold {P : Program} {w : World} {h : Heap} {v v' : HO} (x : HOk P w H h) (hd : H d = some v) (no : ∀ y, v ≠ .own y) (nt : ∀ xs, v ≠ .tup xs) (nz : ∀ o y, v ≠ .frz o (.own y)) (new : ObjOk P w (upd H d v') h d v') : HOk P w (upd H d v') h := fun b q e => by
  by_cases hb : b = d
  · subst hb; rw [upd_same] at e; cases e; exact new
  · rw [upd_ne hb] at e
    refine (x b q e).stay (fun _ _ _ z => z) (fun c z => ?_) (fun c xs z => ?_) (fun c ob z => ?_)
    · rw [upd_ne (fun y => by subst y; rw [hd] at z; exact no _ (Option.some.inj z))]; exact z
    · rw [upd_ne (fun y => by subst y; rw [hd] at z; exact nt _ (Option.some.inj z))]; exact z
    · rw [upd_ne (fun y => by subst y; rw [hd] at z; exact nz _ _ (Option.some.inj z))]; exact z
theorem objOk_retold {P : Program} {w : World} {h : Heap} {v v' u : HO} (hd : H d = some v) (no : ∀ y, v ≠ .own y) (nt : ∀ xs, v ≠ .tup xs) (nz : ∀ o y, v ≠ .frz o (.own y)) (x : ObjOk P w H h d u) : ObjOk P w (upd H d v') h d u :=
  x.stay (fun _ _ _ z => z) (fun c z => by rw [upd_ne (fun y => by subst y; rw [hd] at z; exact no _ (Option.some.inj z))]; exact z) (fun c xs z => by rw [upd_ne (fun y => by subst y; rw [hd] at z; exact nt _ (Option.some.inj z))]; exact z) (fun c ob z => by rw [upd_ne (fun y => by subst y; rw [hd] at z; exact nz _ _ (Option.some.inj z))]; exact z)
theorem Inv.retell {v' : HO} {v : HO} (I : Inv X pins σ H s) (hd : H d = some v) (no : ∀ y, v ≠ .own y) (nt : ∀ xs, v ≠ .tup xs) (nz : ∀ o y, v ≠ .frz o (.own y)) (nb : ∀ ps, v ≠ .tbl ps) (nf : ∀ o u, X.H₀ d ≠ some (.frz o u)) (new : ObjOk X.prog X.w (upd H d v') s.heap d v') :
    Inv X pins σ (upd H d v') s := by
  have nd : ∀ b, H b = none → b ≠ d := fun b n z => by subst z; rw [n] at hd; cases hd
  refine ⟨I.ok, I.os, I.bare, ?_, I.loc, I.cell, ?_, fun x c e => ?_, fun p hp => ?_, I.hok.retold hd no nt nz new, I.len⟩
  · have b := I.base
    refine ⟨b.keep, b.slot, fun c q e n hx => ?_, b.there, fun c xs e => ?_, fun c ob q e => ?_, fun c ps e => ?_⟩
    · have z := b.free c q e n hx
      rw [upd_ne (nd c z)]; exact z
    · have z := b.tups c xs e
      rw [upd_ne (fun y => by subst y; rw [hd] at z; exact nt _ (Option.some.inj z))]; exact z
    · have z := b.frzs c ob q e
      rw [upd_ne (fun y => by subst y; exact nf _ _ e)]; exact z
    · obtain ⟨m, z⟩ := b.tbls c ps e
      exact ⟨m, by rw [upd_ne (fun y => by subst y; rw [hd] at z; exact nb _ (Option.some.inj z))]; exact z⟩
  · rw [upd_ne (nd _ I.free)]; exact I.free
  · rw [upd_ne (nd _ (I.freeC x c e))]; exact I.freeC x c e
  · obtain ⟨p1, p2, p3⟩ := I.pin p hp
    exact ⟨p1, by rw [upd_ne (nd _ p2)]; exact p2, p3⟩
theorem Inv.notFrz (I : Inv X pins σ H s) {v : HO} (hd : H d = some v) (n : ∀ o u, v ≠ .frz o u) : ∀ o u, X.H₀ d ≠ some (.frz o u) := fun o u z => by
  have := I.base.frzs d o u z
  rw [hd] at this
  exact n _ _ (Option.some.inj this)
theorem Inv.freeze (I : Inv X pins σ H s) (hd : H d = some u) (hu : isDct u = true) (ho : s.heap.get? d = some o) : Inv X pins σ (upd H d (.frz o u)) s := by
  have n1 : ∀ y, u ≠ .own y := fun y z => by subst z; cases hu
  have n2 : ∀ xs, u ≠ .tup xs := fun y z => by subst z; cases hu
  have n3 : ∀ o y, u ≠ .frz o (.own y) := fun o y z => by subst z; cases hu
  refine I.retell hd n1 n2 n3 (fun y z => by subst z; cases hu) (I.notFrz hd fun _ _ z => by subst z; cases hu) ⟨ho, objOk_retold hd n1 n2 n3 (I.hok d u hd)⟩
theorem Inv.thaw (I : Inv X pins σ H s) (hd : H d = some (.frz o u)) (nf : ∀ o u, X.H₀ d ≠ some (.frz o u)) (nu : ∀ y, u ≠ .own y := by exact fun _ z => nomatch z) : Inv X pins σ (upd H d u) s := by
  obtain ⟨_, q⟩ := I.hok d _ hd
  have n3 : ∀ o' y, HO.frz o u ≠ .frz o' (.own y) := fun o' y z => nu y (HO.frz.inj z).2
  exact I.retell hd (fun _ z => nomatch z) (fun _ z => nomatch z) n3 (fun _ z => nomatch z) nf (objOk_retold hd (fun _ z => nomatch z) (fun _ z => nomatch z) n3 q)
end
theorem Same.thaw {H H' : Hp} {d : Addr} {o : Obj} {u : HO} (hd : H d = some u) (h : Same (upd H d (.frz o u)) H') : Same H (upd H' d u) := fun b q e => by
  by_cases hb : b = d
  · subst hb; rw [hd] at e; cases e; exact upd_same
  · rw [upd_ne hb]; exact h b q (by rw [upd_ne hb]; exact e)
theorem Same.rd {H H' : Hp} {a : Addr} {u : HO} (e : Same H H') (h : Rd H a u) : Rd H' a u := by
  rcases h with h | ⟨o, h⟩
  · exact .inl (e _ _ h)
  · exact .inr ⟨o, e _ _ h⟩
/-! ### walking a dict's keys -/
def Itd (d : Addr) (o : Obj) (kvs : List (Key × V)) : It :=
  ⟨fun i H => H d = some (.frz o (.dK kvs)) ∧ i < kvs.length, fun i H x H' => H' = H ∧ ∃ kv, kvs[i]? = some kv ∧ x = kV kv.1, fun i H => H d = some (.frz o (.dK kvs)) ∧ kvs.length ≤ i⟩
theorem kV_of {P : Program} {w : World} {k : Key} {u : Value} (h : (mixKind P w).is k u = true) : RelV (kV k) u := by
  rcases keyIs_shape (show keyIs k u = true from h) with ⟨i, t, rfl, rfl⟩ | ⟨x, t, rfl, rfl⟩
  · exact ⟨t, rfl⟩
  · exact ⟨t, rfl⟩
theorem KV.get {kvs : List (Key × V)} {vs : List (Key × Value)} {i : Nat} {kv : Key × V} (r : KV kvs vs) (h : kvs[i]? = some kv) : ∃ u, vs[i]? = some (kv.1, u) ∧ RelV kv.2 u := by
  obtain ⟨q, h1, h2, h3⟩ := Paired.get r h
  exact ⟨q.2, by rw [h1, h2], h3⟩
theorem turn_keys {P : Program} {w : World} {K : PySem.W.Frag} {tg : Expr} {d : Addr} {o : Obj} {kvs : List (Key × V)} {vs : List (Key × Value)} {ep : Nat} (it : Addr) (hk : KV kvs vs)
    (hD : ∀ h : Heap, h.get? d = some o → h.DictAt (mixKind P w) d vs ep) : Turn P w K tg (Itd d o kvs) [it] it (fun i h => h.IsKeyIter it d i vs.length ep) where
  mem := by simp
  obj := fun i h st b hb => by
    have e : b = it := by simpa using hb
    subst e
    obtain ⟨ob, e, c, dd⟩ := st
    exact ⟨ob, e, fun v z => by rw [dd] at z; cases z⟩
  keep := fun i h h' st k => st.at fun ob e => k it (by simp) ob e
  item := by
    intro X hP hw hK hc i pins s σ H E I hf st hg
    subst hP hw hK
    obtain ⟨hq, hlt⟩ := hg
    obtain ⟨f0, f1, f2, f3, f4, f5⟩ := hf it (by simp)
    have hdo : s.heap.get? d = some o := (I.hok d _ hq).1
    obtain ⟨u, hu, _⟩ := hk.get (i := i) (kv := kvs[i]) (by simp [hlt])
    refine wpAny_pyNext_dict_item (knd := mixKind X.prog X.w) st (hD _ hdo) hu fun key h' hkey st' sb => ?_
    have I1 : Inv X pins σ H { s with heap := h' } := I.turned (t' := s.toks) (fun b o hb e => (sb.2 b hb).trans e) f0 f1 f3 f4 f5
    obtain ⟨ob, e, c, dd⟩ := id st'
    exact ⟨key, rfl, go_of (s := { s with heap := h' }) e c dd (by decide) ⟨kV kvs[i].1, H, I1, kV_of hkey, ⟨rfl, kvs[i], by simp [hlt], rfl⟩, st', fun b hb => (hf b hb).1⟩⟩
  done := by
    intro X hP hw hK hc i pins s σ H E I hf st hg
    subst hP hw hK
    obtain ⟨hq, hle⟩ := hg
    obtain ⟨f0, f1, f2, f3, f4, f5⟩ := hf it (by simp)
    have hdo : s.heap.get? d = some o := (I.hok d _ hq).1
    have hl := KV.length hk
    exact wpAny_pyNext_dict_end (knd := mixKind X.prog X.w) (I.ok.hd hc) st (hD _ hdo) (List.getElem?_eq_none (by omega)) fun h' eb => ⟨rfl, I.turned (t' := s.toks) (fun b o hb e => eb b o hb e) f0 f1 f3 f4 f5⟩
  self := fun _ _ _ _ _ st h => wpAny_pyIter_keyiter st h
/-- it was not known to the object at the entry, and it is no code object -/
def NF (X : Cx) (d : Addr) (u : HO) : Prop := (∀ o u, X.H₀ d ≠ some (.frz o u)) ∧ ∀ y, u ≠ .own y
/-- what is wanted behind a walk over a dict: it is told as ahead again -/
def Thawed (X : Cx) (Q : Hp → Prop) (H : Hp) : Prop := ∃ d o u, H d = some (.frz o u) ∧ NF X d u ∧ Q (upd H d u)
theorem Thawed.run {X : Cx} {pins : List (Addr × Obj)} {σ : St} {H : Hp} {s : Shared} {Q : Hp → Prop} (I : Inv X pins σ H s) (h : Thawed X Q H) : ∃ H', Inv X pins σ H' s ∧ Q H' := by
  obtain ⟨d, o, u, hd, nf, q⟩ := h
  exact ⟨_, I.thaw hd nf.1 nf.2, q⟩
/-- the parts that come of a walk over a dict's keys: at d, unfrozen there ahead -/
def iKeys (X : Cx) (tl : TE) : TI := fun σ H R => tl σ H fun x H1 => ∃ d kvs, x = .ref d ∧ H1 d = some (.dK kvs) ∧ ∀ o, NF X d (.dK kvs) → R (Itd d o kvs) (upd H1 d (.frz o (.dK kvs)))
/-- .. frozen already -/
def iKeysF (tl : TE) : TI := fun σ H R => tl σ H fun x H1 => ∃ d o kvs, x = .ref d ∧ H1 d = some (.frz o (.dK kvs)) ∧ R (Itd d o kvs) H1
theorem dictAt_of {P : Program} {w : World} {h : Heap} {d : Addr} {o : Obj} {vs : List (Key × Value)} (x : h.DictOf (mixKind P w) d vs) (ho : h.get? d = some o) : ∃ ep, ∀ h' : Heap, h'.get? d = some o → h'.DictAt (mixKind P w) d vs ep := by
  obtain ⟨o', es, ep, e, r⟩ := x
  rw [ho] at e
  cases e
  exact ⟨ep, fun h' e' => ⟨o, es, e', r⟩⟩
theorem pi_keys {X : Cx} {tg l : Expr} {tl : TE} (hl : PE X l tl) : PI X tg l (iKeys X tl) := by
  intro pins s σ H R I h
  refine thn (hl pins s σ H _ I h) fun v s1 ⟨y, H1, I1, r1, q1⟩ => ?_
  obtain ⟨d, kvs, rfl, hd, q⟩ := q1
  cases r1
  obtain ⟨hz, hs, vs, kv, dd⟩ := dk_of I1.hok hd
  obtain ⟨o, _, _, ho, _⟩ := id dd
  obtain ⟨ep, hD⟩ := dictAt_of dd ho
  have I2 := I1.freeze hd rfl ho
  refine wpAny_pyIter_dict (knd := mixKind X.prog X.w) hs (hD _ ho) ?_
  have I3 : Inv X pins σ (upd H1 d (.frz o (.dK kvs))) { s1 with heap := s1.heap.push { cls := .type "dict_keyiterator", data := .fields #[.ref d, .int 0 0, .int vs.length 0, .int ep 0] } } := I2.kept (t' := s1.toks) fun b o e => Heap.get?_push_of_some _ e
  refine ⟨s1.heap.objs.size, [s1.heap.objs.size], _, _, _, rfl, I3, turn_keys _ kv hD, ⟨_, Heap.get?_push_size _ rfl, rfl, rfl⟩, fun b hb => ?_, q o ⟨I1.notFrz hd (fun _ _ z => nomatch z), fun _ z => nomatch z⟩⟩
  have e : b = s1.heap.objs.size := by simpa using hb
  subst e
  exact I2.fpOk (Nat.le_refl _) (I2.hok.fresh (Nat.le_refl _))
/-- behind the statement (the expression) the dict is told as ahead -/
def tThaw (X : Cx) (t : TS) : TS := fun D σ H => t { nx := fun σ' => Thawed X (D.nx σ'), rt := fun v => Thawed X (D.rt v), bk := fun σ' => Thawed X (D.bk σ'), ct := fun σ' => Thawed X (D.ct σ') } σ H
def tThawE (X : Cx) (t : TE) : TE := fun σ H Q => t σ H fun v => Thawed X (Q v)
theorem pe_thaw {X : Cx} {e : Expr} {t : TE} (h : PE X e t) : PE X e (tThawE X t) := by
  intro pins s σ H Q I hq
  refine thn (h pins s σ H _ I hq) fun u s' ⟨v, H', I', r, q⟩ => ?_
  obtain ⟨H2, I2, q2⟩ := q.run I'
  exact ⟨v, H2, I2, r, q2⟩
/-! ### walks that hand out pairs: enumerate(xs), d.items() -/
section
variable {X : Cx} {pins : List (Addr × Obj)} {σ : St} {H : Hp} {s : Shared}
/-- records of ours have turned, and a new thing is tracked -/
theorem Inv.turnedNew {ch : List Addr} {o : HO} {h' : Heap} {t' : Nat} (I : Inv X pins σ H s) (hf : ∀ b ∈ ch, FpOk X pins H b) (k : ∀ b u, b ∉ ch → s.heap.get? b = some u → h'.get? b = some u)
    (new : ObjOk X.prog X.w (upd H s.heap.objs.size o) h' s.heap.objs.size o) : Inv X pins σ (upd H s.heap.objs.size o) { s with heap := h', toks := t' } := by
  have hn : H s.heap.objs.size = none := I.fresh
  have old : ∀ b u, s.heap.get? b = some u → b ≠ s.heap.objs.size := fun b u e => Nat.ne_of_lt (Heap.lt_size e)
  have trk : ∀ b u, H b = some u → b ∉ ch := fun b u e z => by rw [(hf b z).1] at e; cases e
  refine I.step (g' := s.gens) (d' := s.drawn) (ch := ch) (fun b hb => ?_) (fun b o _ _ hc e _ => k b o hc e) (fun b o _ _ hc e _ => ⟨o.slots, k b o hc e⟩) (fun b o _ e n => by rw [upd_ne (old b o e)]; exact n)
    (fun b o hc e => ⟨o, k b o hc e⟩) (fun b xs e => by rw [upd_ne (ne_of_none e hn)]; exact e) (fun b ob u e => by rw [upd_ne (ne_of_none e hn)]; exact e) (fun b ps e => ⟨#[], by rw [upd_ne (ne_of_none e hn), e]; simp⟩) (fun m hm => ?_) (fun b u e => ?_) I.bare
  · obtain ⟨f0, f1, f2, f3, f4, f5⟩ := hf b hb
    exact ⟨f3, f1, f4, f5⟩
  · obtain ⟨ob, es, ep, ho, r⟩ := hm
    exact ⟨ob, es, ep, k _ ob (fun z => (hf _ z).2.1 rfl) ho, r⟩
  · by_cases hb : b = s.heap.objs.size
    · subst hb; rw [upd_same] at e; cases e; exact new
    · rw [upd_ne hb] at e
      refine (I.hok b u e).stay (fun c v hc q => k c v ?_ q) (fun c q => by rw [upd_ne (ne_of_none q hn)]; exact q) fun c xs q => by rw [upd_ne (ne_of_none q hn)]; exact q
      rcases hc with z | z
      · rw [z]; exact trk b u e
      · exact trk c _ z
end
/-- the pairs of a place and an item -/
def Ite (K : PySem.W.Frag) (l : Addr) : It :=
  ⟨fun i H => ∃ xs x, SqL K H l xs ∧ xs[i]? = some x, fun i H x H' => ∃ p y, x = .ref p ∧ H p = none ∧ H' = upd H p (.tup [.int (i : Nat), y]) ∧ ∀ xs, SqL K H l xs → xs[i]? = some y, fun i H => ∃ xs, SqL K H l xs ∧ xs.length ≤ i⟩
theorem turn_enum {P : Program} {w : World} {K : PySem.W.Frag} {elts : List Expr} {x1 : Nat} {pos : Pos} {l : Addr} (e it : Addr) (hne : e ≠ it) :
    Turn P w K (.Tuple elts x1 pos) (Ite K l) [e, it] e (fun i h => (∃ old, IsEnum h e it (i : Nat) old) ∧ h.IsListIter it l i) where
  mem := by simp
  obj := fun i h st b hb => by
    obtain ⟨⟨old, he⟩, hi⟩ := st
    rcases List.mem_cons.mp hb with rfl | hb
    · exact ⟨_, he, fun v z => nomatch z⟩
    · have q : b = it := by simpa using hb
      subst q
      obtain ⟨o, e, c, d⟩ := hi
      exact ⟨o, e, fun v z => by rw [d] at z; cases z⟩
  keep := fun i h h' st k => by
    obtain ⟨⟨old, he⟩, hi⟩ := st
    exact ⟨⟨old, k e (by simp) _ he⟩, hi.at fun o q => k it (by simp) o q⟩
  item := by
    intro X hP hw hK hc i pins s σ H E I hf st hg
    subst hP hw hK
    obtain ⟨⟨old, he⟩, hi⟩ := st
    obtain ⟨xs, x, hq, hx⟩ := hg
    obtain ⟨its, rv, p, hz⟩ := I.list hq
    obtain ⟨u, hu, ru⟩ := rv.get hx
    refine wpAny_pyNext_enum_item he hi p.isList (x := u) (by simpa using hu) hne fun h' ho hi' ht hsz kk => ?_
    refine ⟨_, rfl, wpAny_letOwnedTupleGo_enum ho fun h2 he2 sb => ?_⟩
    have hel : e < s.heap.objs.size := Heap.lt_size he
    have hil : it < s.heap.objs.size := let ⟨o, q, _⟩ := hi; Heap.lt_size q
    have k2 : ∀ b v, b ∉ [e, it] → s.heap.get? b = some v → h2.get? b = some v := fun b v hb q => by
      have b1 : b ≠ e := fun z => hb (by simp [z])
      have b2 : b ≠ it := fun z => hb (by simp [z])
      exact (sb.2 b b1).trans (kk b v b1 b2 q)
    have htup : h2.get? s.heap.objs.size = some { cls := .type "tuple", data := .seq #[.int i s.toks, u] } := (sb.2 _ (Nat.ne_of_gt hel)).trans ht
    have new : ObjOk X.prog X.w (upd H s.heap.objs.size (.tup [.int (i : Nat), x])) h2 s.heap.objs.size (.tup [.int (i : Nat), x]) :=
      ⟨sz (by simp), [.int i s.toks, u], .cons ⟨_, rfl⟩ (.cons ru .nil), ⟨_, htup, rfl, _, rfl⟩⟩
    refine ⟨.ref s.heap.objs.size, _, I.turnedNew (t' := s.toks + 1) hf k2 new, rfl, ⟨_, x, rfl, I.fresh, rfl, fun ys hy => by rw [I.list_inj hy hq]; exact hx⟩, ⟨⟨_, he2⟩, ?_⟩, fun b hb => ?_⟩
    · exact hi'.at fun o q => (sb.2 it hne.symm).trans q
    · rw [upd_ne ?_]
      · exact (hf b hb).1
      · rcases List.mem_cons.mp hb with rfl | hb
        · exact Nat.ne_of_lt hel
        · have q : b = it := by simpa using hb
          subst q
          exact Nat.ne_of_lt hil
  done := by
    intro X hP hw hK hc i pins s σ H E I hf st hg
    subst hP hw hK
    obtain ⟨⟨old, he⟩, hi⟩ := st
    obtain ⟨xs, hq, hx⟩ := hg
    obtain ⟨its, rv, p, hz⟩ := I.list hq
    obtain ⟨f0, f1, f2, f3, f4, f5⟩ := hf it (by simp)
    have hl := rv.length
    exact wpAny_pyNext_enum_end (I.ok.hd hc) he hi p.isList (by simp; omega) fun h' eb => ⟨rfl, I.turned (t' := s.toks) (fun b o hb e => eb b o hb e) f0 f1 f3 f4 f5⟩
  self := fun _ _ _ _ _ st h => by
    obtain ⟨⟨old, he⟩, _⟩ := st
    exact wpAny_pyIter_enum he h
def iEnum (K : PySem.W.Frag) (ta : TA) : TI := fun σ H R => ta σ H fun vs H1 => ∃ l, vs = [.ref l] ∧ (∃ xs, SqL K H1 l xs) ∧ R (Ite K l) H1
theorem pi_enum {X : Cx} {elts : List Expr} {x1 : Nat} {tpos : Pos} {a : Expr} {ta : TA} {p pos : Pos} (hg : Gl X "enumerate") (hm : X.mg "enumerate" = none) (ha : PA X [a] ta) (hs : starEach [a] X.env = [(false, eval a X.env)] := by rfl) :
    PI X (.Tuple elts x1 tpos) (.Call (.Name "enumerate" p) [a] [] pos) (iEnum X.K ta) := by
  intro pins s σ H R I h
  refine Call_ (ld_blt I hg hm boot_enumerate (PyProof.Rows.callWith_type1 (thn (ha pos pins s σ H _ I h) fun us s1 ⟨vs, H1, I1, r1, q1⟩ => ?_) hs rfl))
  obtain ⟨l, e, ⟨xs, hq⟩, q⟩ := q1
  subst e
  obtain ⟨u, rfl, ru⟩ := vals1 r1
  cases ru
  obtain ⟨its, rv, pl, hz⟩ := I1.list hq
  refine call_enumerate_list pl.isList fun h' he hi hsz kk => wpAny_pyIter_enum he ?_
  have I2 : Inv X pins σ H1 { s1 with heap := h' } := I1.kept (t' := s1.toks) kk
  refine ⟨s1.heap.objs.size + 1, [s1.heap.objs.size + 1, s1.heap.objs.size], _, _, H1, rfl, I2, turn_enum _ _ (Nat.succ_ne_self _), ⟨⟨_, he⟩, hi⟩, fun b hb => ?_, q⟩
  rcases List.mem_cons.mp hb with rfl | hb
  · exact I1.fpOk (Nat.le_succ _) (I1.hok.fresh (Nat.le_succ _))
  · have e : b = s1.heap.objs.size := by simpa using hb
    subst e
    exact I1.fpOk (Nat.le_refl _) (I1.hok.fresh (Nat.le_refl _))
/-- for i, x in enumerate(xs), by an invariant: the pair is a new tuple -/
theorem for_enum {K : PySem.W.Frag} {l : Addr} {xs : List V} {g : TG} {tb : TS} {D : Ends} {σ : St} {H : Hp} (Pv : Nat → St → Hp → Prop) (h0 : Pv 0 σ H) (hl : ∀ i σ H, i ≤ xs.length → Pv i σ H → SqL K H l xs)
    (hs : ∀ i x σ H, xs[i]? = some x → Pv i σ H → ∀ p H1, Same H H1 → H p = none → H1 p = some (.tup [.int (i : Nat), x]) → g (.ref p) σ H1 fun σ2 H2 => tb { D with nx := Pv (i + 1), ct := Pv (i + 1), bk := D.nx } σ2 H2) (hd : ∀ σ H, Pv xs.length σ H → D.nx σ H) :
    ∃ W : Nat → Nat → St → Hp → Prop, (∃ m, W 0 m σ H) ∧ ∀ i m σ H, W i m σ H →
      ((Ite K l).stop i H ∧ D.nx σ H) ∨ ((Ite K l).go i H ∧ ∃ N : St → Hp → Prop, (∀ σ' H', N σ' H' → ∃ m', m' < m ∧ W (i + 1) m' σ' H') ∧ ∀ x H', (Ite K l).yld i H x H' → g x σ H' fun σ2 H2 => tb { D with nx := N, ct := N, bk := D.nx } σ2 H2) := by
  refine ⟨fun i m σ H => m = xs.length - i ∧ i ≤ xs.length ∧ Pv i σ H, ⟨xs.length, by simp, Nat.zero_le _, h0⟩, ?_⟩
  rintro i m σ H ⟨rfl, hi, p⟩
  have q := hl i σ H hi p
  by_cases hlt : i < xs.length
  · refine .inr ⟨⟨xs, xs[i], q, by simp [hlt]⟩, Pv (i + 1), fun σ' H' p' => ⟨xs.length - (i + 1), by omega, rfl, hlt, p'⟩, fun x H' y => ?_⟩
    obtain ⟨a, y, e, hn, e2, hy⟩ := y
    subst e e2
    exact hs i y σ H (hy xs q) p a _ (Same.new hn) hn upd_same
  · have e : i = xs.length := by omega
    subst e
    exact .inl ⟨⟨xs, q, Nat.le_refl _⟩, hd σ H p⟩
/-! ### a dict's pairs -/
def Iti (d : Addr) (o : Obj) (kvs : List (Key × V)) : It :=
  ⟨fun i H => H d = some (.frz o (.dK kvs)) ∧ i < kvs.length, fun i H x H' => ∃ p kv, x = .ref p ∧ H p = none ∧ kvs[i]? = some kv ∧ H' = upd H p (.tup [kV kv.1, kv.2]), fun i H => H d = some (.frz o (.dK kvs)) ∧ kvs.length ≤ i⟩
/-- o.items(), walked -/
def iItems (X : Cx) (tl : TE) : TI := fun σ H R => tl σ H fun x H1 => ∃ d kvs, x = .ref d ∧ H1 d = some (.dK kvs) ∧ ∀ o, NF X d (.dK kvs) → R (Iti d o kvs) (upd H1 d (.frz o (.dK kvs)))
/-! ### == of two dicts -/
/-- two values that are equal: flat ones, or data -/
def SameV (K : PySem.W.Frag) (H : Hp) (x y : V) : Prop := (flatV x = true ∧ flatV y = true ∧ eqV x y = true) ∨ ∃ n t, n ≤ 60 ∧ Im K H n t x ∧ Im K H n t y
theorem SameV.eqAt {X : Cx} {pins : List (Addr × Obj)} {σ : St} {H : Hp} {s : Shared} {A : Around} {x y : V} {u v : Value} (I : Inv X pins σ H s) (h : SameV X.K H x y) (rx : RelV x u) (ry : RelV y v) (hu : A.units + 60 < cLine) : SeqAt.EqAt A s u v true := by
  rcases h with ⟨f1, f2, e⟩ | ⟨n, t, hn, i1, i2⟩
  · exact eqAt_cast (eqAt_V rx ry f1 f2) e
  · exact eqAt_cast (Im.eqAt I n A i1 i2 rx ry (by omega)) (decide_eq_true rfl)
def rEqK (K : PySem.W.Frag) : R2 := fun x y H Q => ∃ a b ka kb, x = .ref a ∧ y = .ref b ∧ Rd H a (.dK ka) ∧ Rd H b (.dK kb) ∧ ka.length = kb.length ∧ (∀ kv ∈ ka, ∃ v, valV kb kv.1 = some v ∧ SameV K H kv.2 v) ∧ Q (.bl true) H
theorem op_eqK {X : Cx} (hu : X.A.units + 64 < cLine) : OpR X (compareOp .Eq) (rEqK X.K) := by
  intro pins s σ H x y v u Q I rx ry h
  obtain ⟨a, b, ka, kb, rfl, rfl, ha, hb, hl, hall, q⟩ := h
  cases rx
  cases ry
  obtain ⟨_, sa, va, ra, da⟩ := dk_rd I.hok ha
  obtain ⟨_, sb, vb, rb, db⟩ := dk_rd I.hok hb
  have la := KV.length ra
  have lb := KV.length rb
  have hits : ∀ {ka' : List (Key × V)} {va' : List (Key × Value)}, KV ka' va' → (∀ kv ∈ ka', ∃ v, valV kb kv.1 = some v ∧ SameV X.K H kv.2 v) → PySem.W.KeqHits X.A.in1 s vb va' true := by
    intro ka' va' r
    induction r with
    | nil => intro _; exact .nil
    | cons r t ih =>
      rename_i p q l m
      intro hv
      obtain ⟨e1, r2⟩ := r
      obtain ⟨v, hv1, hv2⟩ := hv p List.mem_cons_self
      have hval := KV.val rb p.1
      rw [hv1] at hval
      obtain ⟨y, hy, ry⟩ := RelO.some_of hval
      rw [e1] at hy
      have := PySem.W.KeqHits.hit (k := q.1) (v := q.2) hy (hv2.eqAt (A := X.A.in1) I r2 ry (by rw [in1_units]; omega)) (ih fun kv hkv => hv kv (List.mem_cons_of_mem _ hkv))
      simpa using this
  refine PySem.W.keq_eq (knd := mixKind X.prog X.w) sa sb da db (by omega) (fun _ => hits ra hall) ⟨.bl true, H, I, ?_, q⟩
  rw [show (va.length == vb.length) = true by rw [← la, ← lb, hl]; simp]
  rfl
/-! ### any(bools) -/
/-! ## the several kinds, with the module's fragment told -/
def rEqX (K : PySem.W.Frag) : R2 := fun x y H Q => rEq x y H Q ∨ rEqD K false x y H Q ∨ rEqK K x y H Q
def rNeX (K : PySem.W.Frag) : R2 := fun x y H Q => rNe x y H Q ∨ rEqD K true x y H Q
def rInX (K : PySem.W.Frag) : R2 := fun x y H Q => rIn K false x y H Q ∨ (∃ a o, y = .ref a ∧ DGet H a x o ∧ Q (.bl o.isSome) H) ∨ ∃ i j, x = .str i ∧ y = .str j ∧ Q (.bl (!(Builtin.Str.occurrences j i 0 j.length 1).isEmpty)) H
def rNotInX (K : PySem.W.Frag) : R2 := fun x y H Q => rIn K true x y H Q ∨ ∃ a o, y = .ref a ∧ DGet H a x o ∧ Q (.bl (!o.isSome)) H
def rLenX (K : PySem.W.Frag) : List V → Hp → VK → Prop := fun xs H Q => (∃ p ys, xs = [.ref p] ∧ (SqL K H p ys ∨ SqT K H p ys) ∧ Q (.int ys.length) H) ∨ (∃ z, xs = [.str z] ∧ z.length ≤ sizeLine ∧ Q (.int z.length) H) ∨ ∃ a kvs, xs = [V.ref a] ∧ H a = some (.dK kvs) ∧ Q (.int kvs.length) H
def rSlX (K : PySem.W.Frag) : V → Option Int → Option Int → Hp → VK → Prop := fun x lo hi H Q => rSlTS K x lo hi H Q ∨ rSlLS K x lo hi H Q ∨ rSlS x lo hi H Q
section
variable {X : Cx} {k : Nat}
theorem oEqX (hr : Room k X.A) : OpR X (compareOp .Eq) (rEqX X.K) := op_eq.or ((op_eqD hr.units).or (op_eqK hr.units))
theorem oLenX : CallR X (.builtin "len") (rLenX X.K) := call_len_seq.or (call_len_str.or call_lenD)
theorem oSlX : SlR X (rSlX X.K) := sl_tupS.or (sl_listS.or sl_str)
/-- list(x), dict(d): a new one -/
def rList (K : PySem.W.Frag) : List V → Hp → VK → Prop := fun xs H Q => ∃ p ys, xs = [.ref p] ∧ (SqL K H p ys ∨ SqT K H p ys) ∧ New H (.lst ys) Q
theorem call_listS : CallR X (.type "list") (rList X.K) := call_list_of.imp fun xs H Q ⟨p, ys, h1, h2, h3⟩ => ⟨p, ys, h1, h2, fun l hl => h3.at l hl⟩
def rDict : List V → Hp → VK → Prop := fun xs H Q => ∃ p kvs, xs = [.ref p] ∧ Rd H p (.dK kvs) ∧ New H (.dK kvs) Q
theorem call_dictS : CallR X (.type "dict") rDict := by
  intro pins s σ H xs us Q I r h
  obtain ⟨p, kvs, rfl, hd, q⟩ := h
  obtain ⟨u, rfl, ru⟩ := vals1 r
  cases ru
  exact d_copyOf I hd fun a s' hn I' => ⟨.ref a, _, I', rfl, q.at a hn⟩
def tDNewKS : TE := fun _ H Q => New H (.dK []) Q
theorem pe_dnewKS {pos : Pos} : PE X (.Dict [] [] pos) tDNewKS := fun pins s σ H Q I h => pe_dnewK pins s σ H Q I fun p hp => h.at p hp
def tDNewTS : TE := fun _ H Q => New H (.dT []) Q
def rAll (K : PySem.W.Frag) : List V → Hp → VK → Prop := fun xs H Q => ∃ (p : Addr) (bs : List Bool), xs = [.ref p] ∧ SqL K H p (bs.map V.bl) ∧ Q (.bl (bs.all id)) H
def rAny (K : PySem.W.Frag) : List V → Hp → VK → Prop := fun xs H Q => ∃ (p : Addr) (bs : List Bool), xs = [.ref p] ∧ SqL K H p (bs.map V.bl) ∧ Q (.bl (bs.any id)) H
def rIsi (K : PySem.W.Frag) : List V → Hp → VK → Prop := fun xs H Q => ∃ x c b t, xs = [x, c] ∧ TyOf K H x t ∧ ((∃ n, c = .ty n ∧ PySem.W.kitOne K t (.type n) = some b) ∨ ∃ a, c = .ref a ∧ PySem.W.kitOne K t (.ref a) = some b) ∧ Q (.bl b) H
theorem call_isiX : CallR X (.builtin "isinstance") (rIsi X.K) := call_isinst
end
theorem WSs.at {X : Cx} {ss : List Stmt} {D : Ends} {σ σ' : St} {H : Hp} (e : σ = σ') (h : WSs X ss D σ' H) : WSs X ss D σ H := e ▸ h

end L2

end

section
set_option Elab.async false
set_option linter.all false
set_option maxRecDepth 100000
set_option maxHeartbeats 4000000
namespace L2
open PySem PySem.Spec PyProof.Rows
/-! ## more of dicts and lists: list(d), d != e, x in rows -/
/-- list(d): the keys in their order -/
def rListK : List V → Hp → VK → Prop := fun xs H Q => ∃ p kvs, xs = [.ref p] ∧ Rd H p (.dK kvs) ∧ New H (.lst (kvs.map fun kv => kV kv.1)) Q
theorem vals_keys {P : Program} {w : World} : ∀ {kvs : List (Key × V)} {va : List (Key × Value)} {vs : List Value}, KV kvs va → vs.length = va.length → (∀ (j : Nat) (v : Value), vs[j]? = some v → ∃ (k : Key) (x : Value), va[j]? = some (k, x) ∧ (mixKind P w).is k v = true) → Vals (kvs.map fun kv => kV kv.1) vs
  | [], _, [], .nil, _, _ => .nil
  | [], _, _ :: _, .nil, h, _ => by simp at h
  | p :: kvs, q :: va, [], .cons r t, h, _ => by simp at h
  | p :: kvs, q :: va, v :: vs, .cons r t, h, hv => by
    obtain ⟨k, x, e, hk⟩ := hv 0 v rfl
    simp only [List.getElem?_cons_zero, Option.some.injEq] at e
    subst e
    rw [List.map_cons]
    refine .cons ?_ (vals_keys (P := P) (w := w) t (by simpa using h) fun j u hu => by simpa using hv (j + 1) u (by simpa using hu))
    rw [r.1]
    exact kV_of hk
theorem call_listK {X : Cx} (hc : X.calm = true) : CallR X (.type "list") rListK := by
  intro pins s σ H xs us Q I r h
  obtain ⟨p, kvs, rfl, hd, q⟩ := h
  obtain ⟨u, rfl, rx⟩ := vals1 r
  cases rx
  obtain ⟨hz, lo, va, kv, da⟩ := dk_rd I.hok hd
  obtain ⟨ep, hat⟩ := da.dictAt
  have hl := KV.length kv
  refine PySem.W.kdl_call (PySem.W.kdl_dict (knd := mixKind X.prog X.w) (kvs := va) (ep := ep) lo) (I.ok.hd hc) hat (by omega) fun h' tk acc' c' hk hD hacc => ?_
  have hv : Vals (kvs.map fun kv => kV kv.1) acc'.toList := vals_keys (P := X.prog) (w := X.w) kv (by rw [Array.length_toList]; exact hacc.1) fun j v e => hacc.2 j v (by rw [← Array.getElem?_toList]; exact e)
  exact ⟨.ref s.heap.objs.size, _, I.laid (o := .lst (kvs.map fun kv => kV kv.1)) (t' := tk) hk (Nat.le_refl _) (show ObjOk X.prog X.w _ h' _ (.lst _) from ⟨by rw [List.length_map]; exact hz, acc'.toList, c', hv, by rw [hD]⟩), rfl, q.at _ (I.hok.fresh (Nat.le_refl _))⟩
/-- d != e where all is equal -/
def rNeK (K : PySem.W.Frag) : R2 := fun x y H Q => ∃ a b ka kb, x = .ref a ∧ y = .ref b ∧ Rd H a (.dK ka) ∧ Rd H b (.dK kb) ∧ ka.length = kb.length ∧ (∀ kv ∈ ka, ∃ v, valV kb kv.1 = some v ∧ SameV K H kv.2 v) ∧ Q (.bl false) H
theorem op_neK {X : Cx} (hu : X.A.units + 64 < cLine) : OpR X (compareOp .NotEq) (rNeK X.K) := by
  intro pins s σ H x y v u Q I rx ry h
  obtain ⟨a, b, ka, kb, rfl, rfl, ha, hb, hl, hall, q⟩ := h
  cases rx
  cases ry
  obtain ⟨_, sa, va, ra, da⟩ := dk_rd I.hok ha
  obtain ⟨_, sb, vb, rb, db⟩ := dk_rd I.hok hb
  have la := KV.length ra
  have lb := KV.length rb
  have hits : ∀ {ka' : List (Key × V)} {va' : List (Key × Value)}, KV ka' va' → (∀ kv ∈ ka', ∃ v, valV kb kv.1 = some v ∧ SameV X.K H kv.2 v) → PySem.W.KeqHits X.A.in1 s vb va' true := by
    intro ka' va' r
    induction r with
    | nil => intro _; exact .nil
    | cons r t ih =>
      rename_i p q l m
      intro hv
      obtain ⟨e1, r2⟩ := r
      obtain ⟨v, hv1, hv2⟩ := hv p List.mem_cons_self
      have hval := KV.val rb p.1
      rw [hv1] at hval
      obtain ⟨y, hy, ry⟩ := RelO.some_of hval
      rw [e1] at hy
      have := PySem.W.KeqHits.hit (k := q.1) (v := q.2) hy (hv2.eqAt (A := X.A.in1) I r2 ry (by rw [in1_units]; omega)) (ih fun kv hkv => hv kv (List.mem_cons_of_mem _ hkv))
      simpa using this
  refine PySem.W.keq_ne (knd := mixKind X.prog X.w) sa sb da db (by omega) (fun _ => hits ra hall) ⟨.bl false, H, I, ?_, q⟩
  rw [show (va.length == vb.length) = true by rw [← la, ← lb, hl]; simp]
  rfl
/-- x in a list of rows (tuples, lists), by what they tell -/
def rInD (K : PySem.W.Frag) (neg : Bool) : R2 := fun x y H Q => ∃ (p : Addr) (n : Nat) (t : Tr) (ts : List Tr) (as : List Addr), y = .ref p ∧ SqL K H p (as.map V.ref) ∧ n ≤ 60 ∧ Im K H n t x ∧ Paired (Im K H n) ts (as.map V.ref) ∧ Q (.bl (if neg then !decide (t ∈ ts) else decide (t ∈ ts))) H
noncomputable def hitU (K : PySem.W.Frag) (H : Hp) (n : Nat) (t : Tr) (u : Value) : Bool := match u with
  | .ref a => @decide (Im K H n t (.ref a)) (Classical.propDecidable _)
  | _ => false
theorem any_hitU {X : Cx} {pins : List (Addr × Obj)} {σ : St} {H : Hp} {s : Shared} (I : Inv X pins σ H s) {n : Nat} {t : Tr} : ∀ {ts : List Tr} {as : List Addr} {us : List Value}, Paired (Im X.K H n) ts (as.map V.ref) → Vals (as.map V.ref) us → us.any (hitU X.K H n t) = decide (t ∈ ts)
  | [], [], _, _, v => by rw [List.map_nil] at v; cases v; simp
  | [], a :: as, _, p, _ => by rw [List.map_cons] at p; cases p
  | t' :: ts, [], _, p, _ => by rw [List.map_nil] at p; cases p
  | t' :: ts, a :: as, us, p, v => by
    rw [List.map_cons] at p v
    cases p with
    | cons i p =>
      cases v with
      | cons r v =>
        cases r
        rw [List.any_cons, any_hitU I p v, Bool.eq_iff_iff, Bool.or_eq_true]
        simp only [hitU, decide_eq_true_eq, List.mem_cons]
        constructor
        · rintro (z | z)
          · exact .inl (Im.inj I z i)
          · exact .inr z
        · rintro (z | z)
          · exact .inl (z ▸ i)
          · exact .inr z
theorem mem_hitU {X : Cx} {pins : List (Addr × Obj)} {σ : St} {H : Hp} {s : Shared} (I : Inv X pins σ H s) {n : Nat} {A : Around} (hu : A.units + n < cLine) {t : Tr} {x : V} {vx : Value} (hx : Im X.K H n t x) (rx : RelV x vx) :
    ∀ {ts : List Tr} {as : List Addr} {us : List Value}, Paired (Im X.K H n) ts (as.map V.ref) → Vals (as.map V.ref) us → ∀ u ∈ us, SeqAt.EqAt A s u vx (hitU X.K H n t u)
  | [], [], _, _, v => by rw [List.map_nil] at v; cases v; simp
  | [], a :: as, _, p, _ => by rw [List.map_cons] at p; cases p
  | t' :: ts, [], _, p, _ => by rw [List.map_nil] at p; cases p
  | t' :: ts, a :: as, us, p, v => by
    rw [List.map_cons] at p v
    cases p with
    | cons i p =>
      cases v with
      | cons r v =>
        cases r
        intro u hm
        rcases List.mem_cons.mp hm with e | e
        · subst e
          refine eqAt_cast (Im.eqAt I n A i hx rfl rx hu) ?_
          simp only [hitU, decide_eq_decide]
          exact ⟨fun z => z ▸ i, fun z => (Im.inj I z i).symm⟩
        · exact mem_hitU I hu hx rx p v u e
theorem op_inD {X : Cx} (hu : X.A.units + 64 < cLine) : OpR X (compareOp .In) (rInD X.K false) := by
  intro pins s σ H x y v u Q I rx ry h
  obtain ⟨p, n, t, ts, as, rfl, hq, hn, hx, hp, q⟩ := h
  cases ry
  obtain ⟨its, r, pl, hz⟩ := I.list hq
  refine SeqAt.in_listAt (hitU X.K H n t) pl.isList (fun w hw => mem_hitU I (by rw [in1_units]; omega) hx rx hp r w (by simpa using hw)) ⟨.bl _, H, I, rfl, ?_⟩
  rw [show its.toArray.any (hitU X.K H n t) = its.any (hitU X.K H n t) by simp, any_hitU I hp r]
  exact q
theorem op_notInD {X : Cx} (hu : X.A.units + 64 < cLine) : OpR X (compareOp .NotIn) (rInD X.K true) := by
  intro pins s σ H x y v u Q I rx ry h
  obtain ⟨p, n, t, ts, as, rfl, hq, hn, hx, hp, q⟩ := h
  cases ry
  obtain ⟨its, r, pl, hz⟩ := I.list hq
  refine SeqAt.notIn_listAt (hitU X.K H n t) pl.isList (fun w hw => mem_hitU I (by rw [in1_units]; omega) hx rx hp r w (by simpa using hw)) ⟨.bl _, H, I, rfl, ?_⟩
  rw [show its.toArray.any (hitU X.K H n t) = its.any (hitU X.K H n t) by simp, any_hitU I hp r]
  exact q
/-- list(range(a, b)) -/
def tListRng (ta : TA) : TE := fun σ H Q => ta σ H fun vs H1 => ∃ (i j : Int) (n : Nat), vs = [.int i, .int j] ∧ (-(2 ^ 62) ≤ i ∧ i < 2 ^ 62 ∧ -(2 ^ 62) ≤ j ∧ j < 2 ^ 62) ∧ (j - i).toNat = n ∧ n ≤ 1000 ∧ New H1 (.lst ((List.range n).map fun k : Nat => V.int (i + (k : Int)))) Q
section
variable {X : Cx} {k : Nat}
def rNeY (K : PySem.W.Frag) : R2 := fun x y H Q => rNe x y H Q ∨ rEqD K true x y H Q ∨ rNeK K x y H Q
theorem oNeY (hr : Room k X.A) : OpR X (compareOp .NotEq) (rNeY X.K) := op_ne.or ((op_neD hr.units).or (op_neK hr.units))
def rInY (K : PySem.W.Frag) : R2 := fun x y H Q => rIn K false x y H Q ∨ (∃ a o, y = .ref a ∧ DGet H a x o ∧ Q (.bl o.isSome) H) ∨ (∃ i j, x = .str i ∧ y = .str j ∧ Q (.bl (!(Builtin.Str.occurrences j i 0 j.length 1).isEmpty)) H) ∨ rInD K false x y H Q
def rNotInY (K : PySem.W.Frag) : R2 := fun x y H Q => rIn K true x y H Q ∨ (∃ a o, y = .ref a ∧ DGet H a x o ∧ Q (.bl (!o.isSome)) H) ∨ rInD K true x y H Q
theorem oNotInY (hr : Room k X.A) : OpR X (compareOp .NotIn) (rNotInY X.K) := op_notIn_seq.or ((op_dnotin (hu_of hr)).or (op_notInD hr.units))
end
end L2

end

section
set_option Elab.async false
set_option linter.all false
set_option maxRecDepth 100000
set_option maxHeartbeats 4000000
namespace L2
open PySem
/-! ## exceptions that hold a dict: the stations of a flight, with the dict told -/
/-- the thing at e is of the class cls, has the dict dx and the first field a0; its traceback's head bears the mark fl -/
def TrX (h base : Heap) (e : Addr) (cls a0 : Value) (dx : Option Addr) (fl : Value) : Prop :=
  ∃ oe vs T oT ts, h.get? e = some oe ∧ oe.cls = cls ∧ oe.dict = dx ∧ oe.data = .fields vs ∧ vs[0]? = some a0 ∧ vs[1]? = some (.ref T) ∧ base.get? T = none ∧ T ≠ e ∧ h.get? T = some oT ∧ oT.data = .fields ts ∧ ts[3]? = some fl
def FlyX (base : Heap) (l : List Env) (e : Addr) (cls a0 : Value) (dx : Option Addr) (fl : Value) (h : Heap) : Prop := base.StaysIn h ∧ base.get? e = none ∧ h.FunFrames base l ∧ TrX h base e cls a0 dx fl
theorem mapF_dict (f : Array Value → Array Value) (o : Obj) : (Obj.mapFields f o).dict = o.dict := by
  obtain ⟨c, d, dt, sl⟩ := o
  cases dt <;> rfl
theorem FlyX.there {base h : Heap} {l : List Env} {e : Addr} {cls a0 fl : Value} {dx : Option Addr} (x : FlyX base l e cls a0 dx fl h) : ∃ ob, h.get? e = some ob ∧ ob.cls = cls ∧ ob.dict = dx ∧ ∃ vs, ob.data = .fields vs := by
  obtain ⟨_, _, _, oe, vs, _, _, _, he, hc, hx, hd, _⟩ := x
  exact ⟨oe, he, hc, hx, vs, hd⟩
section
variable {M : Model} {A : Around} {E : Value → Shared → Prop} {s : Shared} {base : Heap} {env : Env} {outer l : List Env} {L e : Addr} {oe : Obj} {vs : Array Value} {head a0 cls fl : Value} {dx : Option Addr} {Q : Unit → Shared → Prop}
theorem entX {hadNext : Bool} (hfr : A.frames = some (env :: outer)) (hl : s.heap.FunFrames base (env :: outer)) (hf : env.frame = some L) (he : s.heap.get? e = some oe) (hkb : base.StaysIn s.heap) (hen : base.get? e = none) (hd : oe.data = .fields vs) (hsz : 1 < vs.size)
    (h0 : vs[0]? = some a0) (h : ∀ h', FlyX base (env :: outer) e oe.cls a0 oe.dict (rawInt L) h' → s.heap.UpToSlots h' → Q () { s with heap := h' }) :
    wpAny M A (do let a ← frameOf env; let pl ← entryPlaceOf L hadNext; let b ← EntryCells.newEntry head a .none (rawInt L) .none pl; setField (.ref e) 1 b) Q E s := by
  have off : e ∉ (env :: outer).filterMap (·.frame) := fun z => by
    obtain ⟨_, o, q, nf⟩ := hl.mem z
    rw [he] at q
    cases q
    exact nf vs hd
  refine wpAny_bind (wpAny_frameOf_fun hfr hl hf fun g so => wpAny_bind (wpAny_entryPlaceOf fun pl hpl => ?_))
  unfold EntryCells.newEntry newFields
  refine wpAny_bind (wpAny_newObj_type ?_ (hpl.sizeOk5 _ _ _ _ _))
  have e1 : g.get? e = some oe := by rw [so.2.1 e off]; exact he
  have k1 : base.StaysIn g := fun b o q => by
    rw [so.2.1 b fun z => by rw [(hl.mem z).1] at q; cases q]
    exact hkb b o q
  generalize hT : ({ cls := .type "traceback", dict := none, data := .fields ([head, .ref L, .none, rawInt L, .none] ++ (if pl.isEmpty then List.replicate 6 Value.none else pl)).toArray } : Obj) = oT
  have e2 : (g.push oT).get? e = some oe := Heap.get?_push_of_some _ e1
  have nT : g.objs.size ≠ e := Nat.ne_of_gt (Heap.lt_size e1)
  have t2 : (g.push oT).get? g.objs.size = some oT := Heap.get?_push_size g (by rw [← hT]; rfl)
  refine wpAny_setField e2 hd hsz (h _ ?_ ?_)
  · have d3 := Obj.data_mapFields hd (·.setIfInBounds 1 (Value.ref g.objs.size))
    have e3 := Heap.get?_update_self (Obj.mapFields (·.setIfInBounds 1 (Value.ref g.objs.size))) e2 (Obj.isFreed_of_fields d3)
    have t3 : ((g.push oT).update e (Obj.mapFields (·.setIfInBounds 1 (Value.ref g.objs.size)))).get? g.objs.size = some oT := by rw [Heap.get?_update_other _ _ nT.symm]; exact t2
    have old : ∀ b o, b ≠ e → g.get? b = some o → ((g.push oT).update e (Obj.mapFields (·.setIfInBounds 1 (Value.ref g.objs.size)))).get? b = some o := fun b o nb q => by
      rw [Heap.get?_update_other _ _ nb.symm]
      exact Heap.get?_push_of_some _ q
    refine ⟨fun b o q => old b o (fun z => by rw [z, hen] at q; cases q) (k1 b o q), hen, hl.of_keeps fun b o q nf => ?_, ?_⟩
    · obtain ⟨sl, z⟩ := so.2.2 b o q
      refine ⟨_, old b _ (fun y => ?_) z, rfl⟩
      rw [y, he] at q
      cases q
      exact nf vs hd
    · refine ⟨_, _, g.objs.size, oT, _, e3, Obj.cls_mapFields _ _, mapF_dict _ _, d3, ?_, by simp [hsz], k1.fresh, nT, t3, by rw [← hT], ?_⟩
      · rw [Array.getElem?_setIfInBounds_ne (by decide)]; exact h0
      · rcases hpl with rfl | ⟨_, _, _, _, _, _, _, rfl⟩ <;> simp
  · intro b o q nf
    obtain ⟨sl, z⟩ := so.2.2 b o q
    refine ⟨sl, ?_⟩
    show ((g.push oT).update e (Obj.mapFields (·.setIfInBounds 1 (Value.ref g.objs.size)))).get? b = _
    rw [Heap.get?_update_other _ _ fun y => by rw [← y, he] at q; cases q; exact nf vs hd]
    exact Heap.get?_push_of_some _ z
/-- a new exception is noted by its first frame -/
theorem noteX_first (hfr : A.frames = some (env :: outer)) (hl : s.heap.FunFrames base (env :: outer)) (hf : env.frame = some L) (he : s.heap.get? e = some oe) (hkb : base.StaysIn s.heap) (hen : base.get? e = none) (hd : oe.data = .fields vs)
    (h1 : vs[1]? = some .none) (h0 : vs[0]? = some a0) (h : ∀ h', FlyX base (env :: outer) e oe.cls a0 oe.dict (rawInt L) h' → s.heap.UpToSlots h' → Q () { s with heap := h' }) : wpAny M A (noteFrame (.ref e) env) Q E s := by
  unfold noteFrame
  simp only [hf]
  refine wpAny_bind (wpAny_field he hd h1 ?_)
  rw [if_neg (by decide)]
  exact entX hfr hl hf he hkb hen hd (Array.getElem?_eq_some_iff.mp h1).1 h0 h
/-- one that flies is noted by the next frame -/
theorem noteX_next (hfr : A.frames = some (env :: outer)) (hf : env.frame = some L) (x : FlyX base (env :: outer) e cls a0 dx .none s.heap)
    (h : ∀ h', FlyX base (env :: outer) e cls a0 dx (rawInt L) h' → s.heap.UpToSlots h' → Q () { s with heap := h' }) : wpAny M A (noteFrame (.ref e) env) Q E s := by
  obtain ⟨hkb, hen, hl, oe, vs, T, oT, ts, he, hc, hx, hd, h0, h1, nT, Te, hT, dT, h3⟩ := x
  subst hc hx
  unfold noteFrame
  simp only [hf]
  refine wpAny_bind (wpAny_field he hd h1 ?_)
  rw [if_pos (by simp)]
  refine wpAny_bind (wpAny_field hT dT h3 ?_)
  rw [if_neg (by simp [rawInt])]
  refine wpAny_bind (wpAny_setField hT dT (Array.getElem?_eq_some_iff.mp h3).1 ?_)
  have oth : ∀ b, b ≠ T → (s.heap.update T (Obj.mapFields (·.setIfInBounds 3 Value.none))).get? b = s.heap.get? b := fun b nb => Heap.get?_update_other _ _ nb.symm
  have nr : ∀ b o, s.heap.get? b = some o → (∀ vs, o.data ≠ .fields vs) → b ≠ T := fun b o q nf z => by
    rw [z, hT] at q
    cases q
    exact nf ts dT
  refine entX hfr (hl.of_keeps fun b o q nf => ⟨o, by rw [oth b (nr b o q nf)]; exact q, rfl⟩) hf (by rw [oth e Te.symm]; exact he) (fun b o q => ?_) hen hd (Array.getElem?_eq_some_iff.mp h1).1 h0 fun h' f' u' => h h' f' fun b o q nf => u' b o (by
    show (s.heap.update T _).get? b = _
    rw [oth b (nr b o q nf)]; exact q) nf
  show (s.heap.update T _).get? b = _
  rw [oth b fun z => by rw [z, nT] at q; cases q]
  exact hkb b o q
/-- the mark goes -/
theorem landX (x : FlyX base l e cls a0 dx fl s.heap) (h : ∀ h', FlyX base l e cls a0 dx .none h' → s.heap.UpToSlots h' → Q () { s with heap := h' }) : wpAny M A (setFlight (.ref e) none) Q E s := by
  obtain ⟨hkb, hen, hl, oe, vs, T, oT, ts, he, hc, hx, hd, h0, h1, nT, Te, hT, dT, h3⟩ := x
  have h3' : 3 < ts.size := (Array.getElem?_eq_some_iff.mp h3).1
  have oth : ∀ b, b ≠ T → (s.heap.update T (Obj.mapFields (·.setIfInBounds 3 ((none : Option Addr).elim Value.none fun f => rawInt f)))).get? b = s.heap.get? b := fun b nb => Heap.get?_update_other _ _ nb.symm
  have nr : ∀ b o, s.heap.get? b = some o → (∀ vs, o.data ≠ .fields vs) → b ≠ T := fun b o q nf z => by
    rw [z, hT] at q
    cases q
    exact nf ts dT
  unfold setFlight
  refine wpAny_bind (wpAny_field he hd h1 ?_)
  rw [if_pos (by simp)]
  refine wpAny_setField hT dT h3' (h _ ⟨fun b o q => ?_, hen, hl.of_keeps fun b o q nf => ⟨o, ?_, rfl⟩, oe, vs, T, _, _, ?_, hc, hx, hd, h0, h1, nT, Te, Heap.get?_update_self _ hT (Obj.isFreed_of_fields (Obj.data_mapFields dT _)), Obj.data_mapFields dT _, by simp [h3']⟩ fun b o q nf => ⟨o.slots, ?_⟩)
  · rw [oth b fun z => by rw [z, nT] at q; cases q]; exact hkb b o q
  · rw [oth b (nr b o q nf)]; exact q
  · rw [oth e Te.symm]; exact he
  · show (s.heap.update T _).get? b = _
    rw [oth b (nr b o q nf)]; exact q
theorem FlyX.out (x : FlyX base (env :: outer) e cls a0 dx fl s.heap) : FlyX base outer e cls a0 dx fl s.heap := by
  obtain ⟨a, b, ⟨_, _, c⟩, d⟩ := x
  exact ⟨a, b, c, d⟩
/-- the frame in which it is made is left -/
theorem leaveX_first (hfr : A.frames = some (env :: outer)) (hl : s.heap.FunFrames base (env :: outer)) (hf : env.frame = some L) (he : s.heap.get? e = some oe) (hkb : base.StaysIn s.heap) (hen : base.get? e = none) (hd : oe.data = .fields vs)
    (h1 : vs[1]? = some .none) (h0 : vs[0]? = some a0) (h : ∀ h', FlyX base outer e oe.cls a0 oe.dict .none h' → s.heap.UpToSlots h' → Q () { s with heap := h' }) : wpAny M A (leaving env (.ref e)) Q E s := by
  unfold leaving
  refine wpAny_bind (noteX_first hfr hl hf he hkb hen hd h1 h0 fun h1 x1 u1 => landX (s := { s with heap := h1 }) x1 fun h2 x2 u2 => h h2 ?_ (u1.trans u2))
  exact FlyX.out (s := { s with heap := h2 }) x2
end
end L2

end

section
set_option Elab.async false
set_option linter.all false
set_option maxRecDepth 100000
set_option maxHeartbeats 4000000
namespace L2
open PySem PySem.Spec PyProof.Rows
/-! ## an own exception's class, read off the fragment -/
def OwnIn (K : PySem.W.Frag) (mg : Str → Option Value) (x : Str) (C : Addr) (bm : List Value) (newId : String) : Prop := ∀ h : Heap, K.In h → OwnCls x C bm newId mg h
theorem ownIn_of {K : PySem.W.Frag} {mg : Str → Option Value} {x : Str} {C : Addr} {bmB : List Value} {newId : String} (m : mg x = some (.ref C)) (q : PySem.W.excIn K C bmB newId = true) : OwnIn K mg x C bmB newId := by
  intro h X
  refine ⟨m, ?_⟩
  unfold PySem.W.excIn at q
  split at q
  case h_2 => cases q
  case h_1 dd cd sl ho =>
    split at q
    case h_2 => cases q
    case h_1 C' tl k0 k1 k2 k3 n k5 hm hs =>
      rw [Bool.and_eq_true, Bool.and_eq_true, Bool.and_eq_true, Bool.and_eq_true, Bool.and_eq_true] at q
      obtain ⟨⟨⟨⟨⟨q1, q2⟩, q3⟩, q4⟩, q5⟩, q6⟩ := q
      have e1 : C' = C := beq_iff_eq.mp q1
      have e2 : n = newId := beq_iff_eq.mp q2
      have e6 : PySem.W.nsIn K cd.ns "__init__" = some none := beq_iff_eq.mp q6
      have e3 : cd.hasDel = false := by simpa using q3
      subst e1 e2
      have hsl : sl = #[k0, k1, k2, k3, some (.builtin n), k5] := Array.toList_inj.mp hs
      obtain ⟨nm, bs, mro, ns, qn, hdct, sn, sub, ab, col, del⟩ := cd
      dsimp only at hm e3 q5 e6
      subst hm e3 hsl
      exact ⟨tl, ns, nm, qn, bs, hdct, sn, sub, ab, col, dd, k0, k1, k2, k3, k5, _, X _ _ ho, .of_isNs (PySem.W.isNs_of_in X q5), PySem.W.nsMap_none_of_in X q5 e6, PySem.W.tail_of_in X q4⟩
/-! ## exceptions in flight -/
/-- an exception of the class cls flies at ea over the frames outer; what stood at the call (in g) and what is told stays -/
def Fly (outer : List Env) (cls : Value) (dx : Option Addr) (H' : Hp) (g : Heap) (ea : Addr) (h : Heap) : Prop :=
  ∃ a0 B, FlyX B outer ea cls a0 dx .none h ∧ ∀ b o, h.get? b = some o → ((∃ o', g.get? b = some o') ∨ H' b ≠ none) → b ∉ frs outer → B.get? b = some o
def CXF (P : Program) (w : World) : CXT := fun outer H s E e s' => ∃ ea cls dx H', e = .ref ea ∧ s'.os = s.os ∧ AllBare s'.gens ∧ Un (frs outer) [] H H' s.heap s'.heap ∧ HOk P w H' s'.heap ∧ Fly outer cls dx H' s.heap ea s'.heap ∧ E cls dx H'
theorem ObjOk.there {P : Program} {w : World} {H : Hp} {h : Heap} {a : Addr} {o : HO} (x : ObjOk P w H h a o) : ∃ ob, h.get? a = some ob := by
  cases o with
  | lst xs => obtain ⟨_, _, _, _, e⟩ := x; exact ⟨_, e⟩
  | tup xs => obtain ⟨_, _, _, _, e, _⟩ := x; exact ⟨_, e⟩
  | dK kvs => obtain ⟨_, _, _, _, o, _, _, e, _⟩ := x; exact ⟨_, e⟩
  | dT kvs => obtain ⟨_, _, _, _, o, _, _, e, _⟩ := x; exact ⟨_, e⟩
  | set S n => obtain ⟨o, _, _, _, e, _⟩ := x; exact ⟨_, e⟩
  | ins C dx fs => obtain ⟨_, _, _, e, _⟩ := x; exact ⟨_, e⟩
  | own y => obtain ⟨_, e⟩ := x; exact ⟨_, e⟩
  | xd fs => obtain ⟨_, ⟨_, _, _, e, _⟩, _⟩ := x; exact ⟨_, e⟩
  | rng lo hi => obtain ⟨_, _, _, e⟩ := x; exact ⟨_, e⟩
  | frz ob u => obtain ⟨e, _⟩ := x; exact ⟨_, e⟩
  | tbl ps =>
    obtain ⟨_, _, _, _, _, _, _, e | ⟨_, _, _, _, _, _, _, e⟩⟩ := x
    · exact ⟨_, e⟩
    · exact ⟨_, e⟩
  | met f y => exact ⟨_, show h.get? a = some _ from x⟩
  | ext φ => obtain ⟨_, ⟨_, e⟩, _⟩ := x; exact ⟨_, e⟩
section
variable {P : Program} {w : World} {K : PySem.W.Frag} {mg : Str → Option Value} {base : Heap} {N : List Str} {qual : Str} {scope : Scope} {f : Addr} {cd : Value} {A : Around} {outer : List Env} {s₀ : Shared} {H₀ : Hp} {E : XK}
theorem fly_end {CX : CXT} {pins : List (Addr × Obj)} {σ : St} {H' : Hp} {s1 : Shared} {h' B : Heap} {ea : Addr} {cls a0 : Value} {dx : Option Addr} (I : Inv (cxOf CX P w K mg base N qual scope f cd A outer s₀ H₀ E) pins σ H' s1)
    (fl : FlyX B outer ea cls a0 dx .none h') (up : s1.heap.UpToSlots h') (pB : ∀ b o, s1.heap.get? b = some o → ((∃ o', s₀.heap.get? b = some o') ∨ H' b ≠ none) → b ∉ frs (envOfC qual scope s₀.heap.objs.size f cd :: outer) → B.get? b = some o)
    (hE : E cls dx H') : CXF P w outer H₀ s₀ E (.ref ea) { s1 with heap := h' } := by
  have stay : ∀ b o, s1.heap.get? b = some o → ((∃ o', s₀.heap.get? b = some o') ∨ H' b ≠ none) → b ∉ frs (envOfC qual scope s₀.heap.objs.size f cd :: outer) → h'.get? b = some o := fun b o h1 h2 h3 => fl.1 b o (pB b o h1 h2 h3)
  have frL : frs (envOfC qual scope s₀.heap.objs.size f cd :: outer) = s₀.heap.objs.size :: frs outer := rfl
  have notL : ∀ b, ((∃ o', s₀.heap.get? b = some o') ∨ H' b ≠ none) → b ∉ frs outer → b ∉ frs (envOfC qual scope s₀.heap.objs.size f cd :: outer) := fun b h1 h2 h3 => by
    rw [frL] at h3
    rcases List.mem_cons.mp h3 with e | e
    · rcases h1 with h1 | h1
      · obtain ⟨o', h1⟩ := h1
        rw [e] at h1; exact absurd (Heap.lt_size h1) (Nat.lt_irrefl _)
      · have : H' s₀.heap.objs.size = none := I.free
        rw [e] at h1; exact h1 this
    · exact h2 e
  have trk : ∀ b, H' b ≠ none → b ∉ frs outer := fun b h1 h2 => h1 (I.stkFree b (by show b ∈ frs (envOfC qual scope s₀.heap.objs.size f cd :: outer); rw [frL]; exact List.mem_cons_of_mem _ h2))
  have fr1 : ∀ b, b ∈ frs outer → ∃ o, s1.heap.get? b = some o ∧ ∀ vs, o.data ≠ .fields vs := fun b hb => by
    have h1 : s1.heap.FunFrames base (envOfC qual scope s₀.heap.objs.size f cd :: outer) := I.stack
    exact (h1.mem (List.mem_filterMap.mpr (by
      obtain ⟨env, he, hf⟩ := List.mem_filterMap.mp hb
      exact ⟨env, List.mem_cons_of_mem _ he, hf⟩))).2
  have hb0 : Un (frs outer) [] H₀ H' s₀.heap s1.heap := I.base
  refine ⟨ea, cls, dx, H', rfl, I.os, I.bare, ⟨fun b o h1 h2 h3 h4 => ?_, fun b o h1 h2 h3 h4 => ?_, hb0.free, fun b o h1 h4 => ?_, hb0.tups, hb0.frzs, hb0.tbls⟩, fun a o ha => ?_, ⟨a0, B, fl, fun b o h1 h2 h3 => ?_⟩, hE⟩
  · exact stay b o (hb0.keep b o h1 h2 h3 h4) (.inl ⟨_, h1⟩) (notL b (.inl ⟨_, h1⟩) h3)
  · obtain ⟨sl, h5⟩ := hb0.slot b o h1 h2 h3 h4
    obtain ⟨o1, h6, h7⟩ := fr1 b h3
    rw [h5] at h6
    cases h6
    obtain ⟨sl', h8⟩ := up b _ h5 h7
    exact ⟨sl', h8⟩
  · obtain ⟨o1, h5⟩ := hb0.there b o h1 h4
    by_cases hb : b ∈ frs outer
    · obtain ⟨o2, h6, h7⟩ := fr1 b hb
      obtain ⟨sl', h8⟩ := up b _ h6 h7
      exact ⟨_, h8⟩
    · exact ⟨o1, stay b o1 h5 (.inl ⟨_, h1⟩) (notL b (.inl ⟨_, h1⟩) hb)⟩
  · refine (I.hok a o ha).stay (fun b u hb h1 => ?_) (fun _ z => z) (fun _ _ z => z)
    have ht : H' b ≠ none := by
      rcases hb with e | e
      · rw [e, ha]; exact Option.some_ne_none _
      · rw [e]; exact Option.some_ne_none _
    exact stay b u h1 (.inr ht) (notL b (.inr ht) (trk b ht))
  · have hs : ∃ o1, s1.heap.get? b = some o1 := by
      rcases h2 with ⟨o', h2⟩ | h2
      · exact hb0.there b o' h2 (by simp)
      · cases hq : H' b with
        | none => exact absurd hq h2
        | some u => exact (I.hok b u hq).there
    obtain ⟨o1, h4⟩ := hs
    have h5 := pB b o1 h4 h2 (notL b h2 h3)
    have h6 := fl.1 b o1 h5
    have h7 : h'.get? b = some o := h1
    rw [h6] at h7
    cases h7
    exact h5
/-- raise C(..), C an own exception without an __init__ -/
def sRaise (C : Addr) (E : XK) (t : TA) : TS := fun _ σ H => t σ H fun vs H1 => vs.length ≤ sizeLine ∧ E (.ref C) none H1
theorem ps_raise {x : Str} {C : Addr} {bm : List Value} {Bn newId initId : String} {np cpos pos : Pos} {e₀ : Expr} {rest : List Expr} {t : TA} (OI : OwnIn K mg x C bm newId) (FB : ExcBaseFacts Bn newId initId bm)
    (hg : Gl (cxOf (CXF P w) P w K mg base N qual scope f cd A outer s₀ H₀ E) x) (ha : PA (cxOf (CXF P w) P w K mg base N qual scope f cd A outer s₀ H₀ E) (e₀ :: rest) t)
    (he : starEach (e₀ :: rest) (envOfC qual scope s₀.heap.objs.size f cd) = (false, eval e₀ (envOfC qual scope s₀.heap.objs.size f cd)) :: starEach rest (envOfC qual scope s₀.heap.objs.size f cd) := by rfl)
    (hpl : (backTo cpos (starEach rest (envOfC qual scope s₀.heap.objs.size f cd))).any (·.1) = false := by rfl) (hd : (x == ("__debug__" : Str)) = false := by decide) :
    PS (cxOf (CXF P w) P w K mg base N qual scope f cd A outer s₀ H₀ E) (.Raise (some (.Call (.Name x np) (e₀ :: rest) [] cpos)) none pos) (sRaise C E t) := by
  intro pins s σ H D I h
  have O : OwnCls x C bm newId mg base := OI base I.ok.mod.kin
  obtain ⟨tl, N', nm, q, bs, hdct, sn, sub, ab, col, dd, k0, k1, k2, k3, k5, mN, hC, hN, hni, T⟩ := O.obj
  refine wpAny_Raise_call_subT (C := C) (nm := nm) (q := q) (N := N') (bs := bs) (bm := tl) (hdct := hdct) (sn := sn) (sub := sub) (ab := ab) (col := col) (dd := dd) (k0 := k0) (k1 := k1) (k2 := k2) (k3 := k3) (k5 := k5)
    FB (mN := mN) (T.hasType FB.hasBase) (I.ok.hd rfl) (by show (backTo cpos (starEach (e₀ :: rest) (envOfC qual scope s₀.heap.objs.size f cd))).any (·.1) = false; rw [he]; show (false || (backTo cpos (starEach rest (envOfC qual scope s₀.heap.objs.size f cd))).any (·.1)) = false; rw [hpl]; rfl) hni (ld_glob I hg O.bound ⟨rfl, ?_⟩ hd)
  have hA := ha cpos pins s σ H _ I h
  have he' : starEach (e₀ :: rest) (cxOf (CXF P w) P w K mg base N qual scope f cd A outer s₀ H₀ E).env = (false, eval e₀ (envOfC qual scope s₀.heap.objs.size f cd)) :: starEach rest (envOfC qual scope s₀.heap.objs.size f cd) := he
  rw [he'] at hA ⊢
  refine Calls.evalArgs_plain (thn hA fun us s2 ⟨vs, H2, I2, r2, hl, hE⟩ => ?_)
  have keep : ∀ b o, base.get? b = some o → s2.heap.get? b = some o := fun b o e => (I2.bs b o e).1
  refine ⟨rfl, by rw [← r2.length]; exact hl, keep _ _ hC, hN.keeps keep, T.keeps keep, fun h' e hm => ?_⟩
  show wpAny _ _ (leaving _ (.ref e)) _ _ _
  obtain ⟨t, he3, _, _⟩ := hm.there
  have hin : ∀ env ∈ (envOfC qual scope s₀.heap.objs.size f cd :: outer), ∀ b, env.frame = some b → b ∈ frs (envOfC qual scope s₀.heap.objs.size f cd :: outer) := fun env he b hb => List.mem_filterMap.mpr ⟨env, he, hb⟩
  refine leaveX_first (base := PySem.W.hideAll s2.heap (frs (envOfC qual scope s₀.heap.objs.size f cd :: outer))) I2.ok.frames ((PySem.W.funFrames_hide I2.stack hin).of_keeps fun b o q _ => ⟨o, hm.keeps b o q, rfl⟩) rfl he3 (fun b o q => hm.keeps b o (PySem.W.of_hideAll _ q)) ?_ rfl rfl rfl fun h'' fl up => ?_
  · cases q : (PySem.W.hideAll s2.heap (frs (envOfC qual scope s₀.heap.objs.size f cd :: outer))).get? e with
    | none => rfl
    | some o => exact absurd (PySem.W.of_hideAll _ q) (by rw [hm.new]; exact fun z => nomatch z)
  · have R := fly_end I2 fl ((Heap.UpToSlots.of_keeps hm.keeps).trans up) (fun b o h1 _ h3 => PySem.W.hideAll_get _ h1 h3) hE
    exact R
end
/-! ## try: one handler that names an own class -/
theorem fly_un {P : Program} {w : World} {fs : List Addr} {H H' : Hp} {g h h' B : Heap} (un : Un fs [] H H' g h) (hok : HOk P w H' h) (fr : ∀ b ∈ fs, H' b = none ∧ ∃ o, h.get? b = some o ∧ ∀ vs, o.data ≠ .fields vs) (st : B.StaysIn h') (up : h.UpToSlots h')
    (pB : ∀ b o, h.get? b = some o → ((∃ o', g.get? b = some o') ∨ H' b ≠ none) → b ∉ fs → B.get? b = some o) : Un fs [] H H' g h' ∧ HOk P w H' h' := by
  have stay : ∀ b o, h.get? b = some o → ((∃ o', g.get? b = some o') ∨ H' b ≠ none) → b ∉ fs → h'.get? b = some o := fun b o h1 h2 h3 => st b o (pB b o h1 h2 h3)
  refine ⟨⟨fun b o h1 h2 h3 h4 => stay b o (un.keep b o h1 h2 h3 h4) (.inl ⟨_, h1⟩) h3, fun b o h1 h2 h3 h4 => ?_, un.free, fun b o h1 h4 => ?_, un.tups, un.frzs, un.tbls⟩, fun a o ha => ?_⟩
  · obtain ⟨sl, h5⟩ := un.slot b o h1 h2 h3 h4
    obtain ⟨_, o1, h6, h7⟩ := fr b h3
    rw [h5] at h6
    cases h6
    obtain ⟨sl', h8⟩ := up b _ h5 h7
    exact ⟨sl', h8⟩
  · obtain ⟨o1, h5⟩ := un.there b o h1 h4
    by_cases hb : b ∈ fs
    · obtain ⟨_, o2, h6, h7⟩ := fr b hb
      obtain ⟨sl', h8⟩ := up b _ h6 h7
      exact ⟨_, h8⟩
    · exact ⟨o1, stay b o1 h5 (.inl ⟨_, h1⟩) hb⟩
  · refine (hok a o ha).stay (fun b u hb h1 => ?_) (fun _ z => z) (fun _ _ z => z)
    have ht : H' b ≠ none := by
      rcases hb with e | e
      · rw [e, ha]; exact Option.some_ne_none _
      · rw [e]; exact Option.some_ne_none _
    exact stay b u h1 (.inr ht) fun z => ht (fr b z).1
abbrev Cx.tried (X : Cx) (pn : List (Addr × Obj)) (E : Value → Shared → Prop) : Cx := { X with pn := pn, xe := E }
abbrev Cx.caught (X : Cx) (ea : Addr) : Cx := { X with A := X.A.mark (some (.ref ea)), calm := false, xe := fun _ _ => False }
section
variable {X : Cx} {pins pins' : List (Addr × Obj)} {σ : St} {H : Hp} {s : Shared} {E : Value → Shared → Prop}
theorem Inv.tryIn (I : Inv X pins σ H s) (E : Value → Shared → Prop) : Inv (X.tried (X.pn ++ pins) E) [] σ H s :=
  ⟨⟨I.ok.mod, I.ok.kind, I.ok.glob, I.ok.blt, I.ok.above, I.ok.inj, I.ok.has, I.ok.cab, I.ok.hd, I.ok.frames, I.ok.stk, I.ok.exf, I.ok.bs, I.ok.bsz, I.ok.noex, I.ok.exfs, I.ok.funs, I.ok.frf⟩, I.os, I.bare, I.base, I.loc, I.cell, I.free, I.freeC, fun p hp => I.pin p (by simpa using hp), I.hok, I.len⟩
theorem Inv.tryOut (I : Inv (X.tried (X.pn ++ pins) E) pins' σ H s) : Inv X pins σ H s :=
  ⟨⟨I.ok.mod, I.ok.kind, I.ok.glob, I.ok.blt, I.ok.above, I.ok.inj, I.ok.has, I.ok.cab, I.ok.hd, I.ok.frames, I.ok.stk, I.ok.exf, I.ok.bs, I.ok.bsz, I.ok.noex, I.ok.exfs, I.ok.funs, I.ok.frf⟩, I.os, I.bare, I.base, I.loc, I.cell, I.free, I.freeC, fun p hp => I.pin p (List.mem_append_left _ hp), I.hok, I.len⟩
theorem Inv.catch (I : Inv X pins σ H s) (ea : Addr) : Inv (X.caught ea) pins σ H s :=
  ⟨⟨I.ok.mod, I.ok.kind, I.ok.glob, I.ok.blt, I.ok.above, I.ok.inj, I.ok.has, I.ok.cab, fun z => absurd z Bool.false_ne_true, I.ok.frames, I.ok.stk, I.ok.exf, I.ok.bs, I.ok.bsz, I.ok.noex, I.ok.exfs, I.ok.funs, I.ok.frf⟩, I.os, I.bare, I.base, I.loc, I.cell, I.free, I.freeC, I.pin, I.hok, I.len⟩
theorem Inv.uncatch {ea : Addr} (hX : X.A.handled = none) (I : Inv (X.caught ea) pins σ H s) : Inv X pins σ H s :=
  ⟨⟨I.ok.mod, I.ok.kind, I.ok.glob, I.ok.blt, I.ok.above, I.ok.inj, I.ok.has, I.ok.cab, fun _ => hX, I.ok.frames, I.ok.stk, I.ok.exf, I.ok.bs, I.ok.bsz, I.ok.noex, I.ok.exfs, I.ok.funs, I.ok.frf⟩, I.os, I.bare, I.base, I.loc, I.cell, I.free, I.freeC, I.pin, I.hok, I.len⟩
theorem WS.try {x : Str} {C : Addr} {bm : List Value} {newId : String} {np hpos pos : Pos} {body suite : List Stmt} {b₀ : Stmt} {D : Ends} {Ex : XK} {R : Hp → Prop} (OI : OwnIn X.K X.mg x C bm newId) (hbm : bm.contains (.type "BaseException") = true) (hg : Gl X x)
    (hst : X.stack = X.env :: X.outer) (hfm : X.env.frame = some X.env.locals) (hcm : X.calm = true) (hE : ∀ cls dx H', Ex cls dx H' → cls = .ref C ∧ R H')
    (hb : ∀ pn xe, Passes (CXF X.prog X.w) (X.tried pn xe) Ex → WSs (X.tried pn xe) body D σ H) (hh : ∀ ea σ' H', R H' → WSs (X.caught ea) (b₀ :: suite) D σ' H') (hd : (x == ("__debug__" : Str)) = false := by decide) :
    WS X (.Try body [.ExceptHandler (some (.Name x np)) none (b₀ :: suite) hpos] [] [] pos) D σ H := by
  refine ⟨fun pins s I => ?_⟩
  have O : OwnCls x C bm newId X.mg X.base := OI X.base I.ok.mod.kin
  refine wpAny_Try_except ?_
  have pass : Passes (CXF X.prog X.w) (X.tried (X.pn ++ pins) fun e s₁ => wpAny (model X.prog X.w) X.A (noteFrame e X.env) (fun _ s₂ => wpAny (model X.prog X.w) X.A (setFlight e none) (fun _ s₃ => wpAny (model X.prog X.w) X.A (handleBy e X.env [.ExceptHandler (some (.Name x np)) none (b₀ :: suite) hpos]) (SP X pins D) X.xe s₃) X.xe s₂) X.xe s₁) Ex := by
    intro pins' σ' H1 s1 e s2 I1 hc
    obtain ⟨ea, cls, dx, H2, rfl, os, bare, un, hok, ⟨a0, B, fl, pB⟩, hEx⟩ := hc
    obtain ⟨rfl, hR⟩ := hE _ _ _ hEx
    have IX : Inv X pins σ' H1 s1 := I1.tryOut
    have I2 : Inv X pins σ' H2 s2 := IX.call' os un hok bare (fun b z => absurd z (by simp))
    have fr : ∀ b ∈ frs X.stack, H2 b = none ∧ ∃ o, s2.heap.get? b = some o ∧ ∀ vs, o.data ≠ .fields vs := fun b hb => ⟨I2.stkFree b hb, (I2.stack.mem hb).2⟩
    have step : ∀ h', B.StaysIn h' → s2.heap.UpToSlots h' → Inv X pins σ' H2 { s2 with heap := h' } := fun h' st up =>
      let ⟨u, k⟩ := fly_un un hok fr st up pB
      IX.call' (s' := { s2 with heap := h' }) os u k bare (fun b z => absurd z (by simp))
    have fl : FlyX B (X.env :: X.outer) ea (.ref C) a0 dx .none s2.heap := by rw [← hst]; exact fl
    have hfr : X.A.frames = some (X.env :: X.outer) := by rw [← hst]; exact I2.ok.frames
    show wpAny (model X.prog X.w) X.A (noteFrame (.ref ea) X.env) _ _ s2
    refine noteX_next hfr hfm fl fun h₄ held₄ sm₄ => landX (s := { s2 with heap := h₄ }) held₄ fun h₅ fl₅ sm₅ => ?_
    have sm25 : s2.heap.UpToSlots h₅ := sm₄.trans sm₅
    have I5 := (step h₅ fl₅.1 sm25).catch ea
    refine wpAny_handleBy_cons (codeAny_handlers_test (ld_glob I5 hg O.bound ?_ hd)) (by intro q; cases q)
    obtain ⟨tl, N', nm, q, bs, hdct, sn, sub, ab, col, dd, k0, k1, k2, k3, k5, mN, hC, hN, hni, T⟩ := (O.keeps fun b o e => (I5.bs b o e).1).obj
    obtain ⟨ob, hob, hobc, _⟩ := fl₅.there
    refine wpAny_excMatches_sub_self hC hob hobc (T.hasType hbm) (codeAny_handlers_suite ?_)
    refine landX (s := { s2 with heap := h₅ }) fl₅ fun h₆ fl₆ sm₆ => ?_
    have I6 := (step h₆ fl₆.1 (sm25.trans sm₆)).catch ea
    refine wpAny_mono ((hh ea σ' H2 hR).run pins _ I6) (fun f s₃ q => ?_) fun _ _ z => False.elim z
    have hX := I.ok.hd hcm
    cases f with
    | next => obtain ⟨σ'', H'', J, q⟩ := q; exact ⟨σ'', H'', J.uncatch hX, q⟩
    | brk => obtain ⟨σ'', H'', J, q⟩ := q; exact ⟨σ'', H'', J.uncatch hX, q⟩
    | cont => obtain ⟨σ'', H'', J, q⟩ := q; exact ⟨σ'', H'', J.uncatch hX, q⟩
    | ret u => obtain ⟨v, σ'', H'', J, r, q⟩ := q; exact ⟨v, σ'', H'', J.uncatch hX, r, q⟩
  refine wpAny_mono ((hb _ _ pass).run [] s (I.tryIn _)) (fun f s₁ q => ?_) fun e s₁ z => z
  cases f with
  | next =>
    obtain ⟨σ', H', J, q⟩ := q
    exact wpAny_execs_nil ⟨σ', H', J.tryOut, q⟩
  | brk => obtain ⟨σ', H', J, q⟩ := q; exact ⟨σ', H', J.tryOut, q⟩
  | cont => obtain ⟨σ', H', J, q⟩ := q; exact ⟨σ', H', J.tryOut, q⟩
  | ret u => obtain ⟨v, σ', H', J, r, q⟩ := q; exact ⟨v, σ', H', J.tryOut, r, q⟩
end
section
variable {P : Program} {w : World} {K : PySem.W.Frag} {mg : Str → Option Value} {base : Heap}
/-- a def that may raise -/
theorem Fun.okX {x qual : Str} {st : Stmt} {f : Addr} {fd : FuncData} {N ps : List Str} {k : Nat} {sp : Sp} (F : Fun K x qual st f fd) (S : FnScope N ps (defScope st)) (len : ∀ vs H Q E, sp vs H Q E → vs.length = ps.length)
    (hbody : ∀ (cdv : Value) (A : Around) (outer : List Env) (s : Shared) (H : Hp) (vs : List V) (Q : VK) (E : XK), Room k (A.deeper (envOfC qual (defScope st) s.heap.objs.size f cdv)) → sp vs H Q E →
      WSs (cxOf (CXF P w) P w K mg base N qual (defScope st) f cdv A outer s H E) (defBody st) { nx := fun _ H' => Q .non H', rt := Q } (start N vs) H) : FnOk P w K mg base (CXF P w) (k + 1) f fd ps sp := by
  obtain ⟨oc, od, kV, doc, pm, an, cdv, ct, osl, rfl, lk, hcd⟩ := F.ex
  exact fn_of lk hcd S len fun A outer s H vs Q E hr hsp => ⟨_, pss_w, hbody cdv A outer s H vs Q E hr hsp⟩
/-- a def that raises nothing, among those that may -/
theorem FnOk.calm {f : Addr} {fd : FuncData} {ps : List Str} {k : Nat} {sp : Sp} {CX : CXT} (F : FnOk P w K mg base CX0 k f fd ps sp) : FnOk P w K mg base CX k f fd ps sp :=
  ⟨F.len, fun A outer s H args us vs Q E hr e0 hb r hsp => codeAny_mono (F.run A outer s H args us vs Q E hr e0 hb r hsp) fun res s' h => by
    cases res with
    | ok f =>
      cases f with
      | ret u => exact h
      | next => exact h
      | brk => exact h
      | cont => exact h
    | error e => exact False.elim h⟩
end
end L2

end

section
set_option Elab.async false
set_option linter.all false
set_option maxRecDepth 100000
set_option maxHeartbeats 4000000
namespace L2
open PySem PySem.Spec PyProof.Rows
/-! ## sorted of texts -/
theorem strs_of : ∀ {ss : List Str} {us : List Value}, Vals (ss.map V.str) us → StrsAre us ss
  | [], _, r => by rw [List.map_nil] at r; cases r; exact .nil
  | x :: ss, _, r => by
    rw [List.map_cons] at r
    cases r with
    | cons r t =>
      obtain ⟨tk, rfl⟩ := r
      exact .cons _ _ (strs_of t)
theorem of_strs : ∀ {ss : List Str} {us : List Value}, StrsAre us ss → Vals (ss.map V.str) us
  | [], _, r => by cases r; exact .nil
  | x :: ss, _, r => by
    cases r with
    | cons _ _ t => exact .cons ⟨_, rfl⟩ (of_strs t)
def rSortS (K : PySem.W.Frag) : List V → Hp → VK → Prop := fun xs H Q => ∃ (p : Addr) (ss : List Str), xs = [.ref p] ∧ SqL K H p (ss.map V.str) ∧ ss.length < 64 ∧ ∀ ss' : List Str, ss'.Perm ss → sortedS ss' = true → New H (.lst (ss'.map V.str)) Q
theorem call_sortS {X : Cx} : CallR X (.builtin "sorted") (rSortS X.K) := by
  intro pins s σ H xs us Q I r h
  obtain ⟨p, ss, rfl, hq, hl, q⟩ := h
  obtain ⟨u, rfl, rx⟩ := vals1 r
  cases rx
  obtain ⟨its, rv, pl, hz⟩ := I.list hq
  have hlen : its.length = ss.length := by have := rv.length; rw [List.length_map] at this; exact this.symm
  refine sorted_strs pl.isList (strs_of rv) (by omega) fun out ss' a1 a2 a3 => ?_
  obtain ⟨e, he⟩ := sortedAll_at s.heap its out
  have hp := a2.length_eq
  have hn : H (s.heap.objs.size + 1) = none := I.hok.fresh (Nat.le_succ _)
  exact ⟨.ref (s.heap.objs.size + 1), _, I.laid (a := s.heap.objs.size + 1) (o := .lst (ss'.map V.str)) (t' := s.toks) (fun b o h => sortedAll_old h) (Nat.le_succ _) (show ObjOk X.prog X.w _ _ _ (.lst _) from ⟨by rw [List.length_map]; exact sz (by omega), out.toList, e, of_strs a1, by rw [he]⟩), rfl, (q ss' a2 a3).at _ hn⟩
/-- an object laid at a place that held none -/
theorem Inv.laidAt {X : Cx} {pins : List (Addr × Obj)} {σ : St} {H : Hp} {s : Shared} {h' : Heap} {t' : Nat} {a : Addr} {o : HO} (I : Inv X pins σ H s) (k : ∀ b u, s.heap.get? b = some u → h'.get? b = some u) (hn : s.heap.get? a = none) (new : ObjOk X.prog X.w (upd H a o) h' a o) :
    H a = none ∧ Inv X pins σ (upd H a o) { s with heap := h', toks := t' } := by
  have hH : H a = none := by
    cases e : H a with
    | none => rfl
    | some u =>
      obtain ⟨ob, z⟩ := (I.hok a u e).there
      rw [hn] at z
      cases z
  have ne : ∀ b u, s.heap.get? b = some u → b ≠ a := fun b u e z => by rw [z, hn] at e; cases e
  refine ⟨hH, I.call' (s' := { s with heap := h', toks := t' }) rfl ⟨fun b u e _ _ _ => k b u e, fun b u e _ _ _ => ⟨u.slots, k b u e⟩, fun b u e n _ => by rw [upd_ne (ne b u e)]; exact n, fun b u e _ => ⟨u, k b u e⟩, fun b xs e => ?_, fun b q u e => ?_, fun b ps e => ⟨#[], ?_⟩⟩ (fun b u e => ?_) I.bare (fun b z => absurd z List.not_mem_nil)⟩
  · rw [upd_ne (ne_of_none e hH)]; exact e
  · rw [upd_ne (ne_of_none e hH)]; exact e
  · rw [upd_ne (ne_of_none e hH)]; simpa using e
  · by_cases z : b = a
    · rw [z, upd_same] at e
      cases e
      rw [z]
      exact new
    · rw [upd_ne z] at e
      exact (I.hok b u e).stay (fun c v _ h => k c v h) (fun c h => by rw [upd_ne (ne_of_none h hH)]; exact h) (fun c ys h => by rw [upd_ne (ne_of_none h hH)]; exact h)
/-- sorted(d): the keys, texts all -/
def rSortD : List V → Hp → VK → Prop := fun xs H Q => ∃ (p : Addr) (kvs : List (Key × V)) (ss : List Str), xs = [.ref p] ∧ Rd H p (.dK kvs) ∧ kvs.map (fun kv => kV kv.1) = ss.map V.str ∧ ss.length < 64 ∧ ∀ ss' : List Str, ss'.Perm ss → sortedS ss' = true → New H (.lst (ss'.map V.str)) Q
/-- list(d.values()) -/
def tListVals (tl : TE) : TE := fun σ H Q => tl σ H fun x H1 => ∃ d kvs, x = .ref d ∧ Rd H1 d (.dK kvs) ∧ New H1 (.lst (kvs.map fun kv => kv.2)) Q
end L2

end

section
set_option Elab.async false
set_option linter.all false
set_option maxRecDepth 100000
set_option maxHeartbeats 4000000
namespace L2
open PySem PySem.Spec PyProof.Rows Builtin Builtin.ObjectAttr
/-! ## own exceptions whose __init__ stores its argument -/
abbrev VEs : List Value := [.type "ValueError", .type "Exception", .type "BaseException", .type "object"]
def excO (C t : Addr) (dx : Option Addr) : Obj := { cls := .ref C, dict := dx, data := .fields #[.ref t, .none, .none, .none, .bool false, .none] }
/-- a new exception, ahead of its flight -/
def ExcN (e C t : Addr) (dx : Option Addr) : HO := .ext fun h => h.get? e = some (excO C t dx)
/-- one that was caught -/
def ExcC (e C : Addr) (dx : Option Addr) : HO := .ext fun h => ∃ o vs, h.get? e = some o ∧ o.cls = .ref C ∧ o.dict = dx ∧ o.data = .fields vs
section
variable {P : Program} {w : World} {H : Hp} {h : Heap} {e C t : Addr} {dx : Option Addr}
theorem ExcN.ok (x : h.get? e = some (excO C t dx)) : ObjOk P w H h e (ExcN e C t dx) := ⟨x, ⟨_, x⟩, fun _ _ p k => k _ p⟩
theorem ExcC.ok {o : Obj} {vs : Array Value} (x : h.get? e = some o) (a : o.cls = .ref C) (b : o.dict = dx) (c : o.data = .fields vs) : ObjOk P w H h e (ExcC e C dx) := ⟨⟨o, vs, x, a, b, c⟩, ⟨_, x⟩, fun _ _ ⟨o, vs, x, r⟩ k => ⟨o, vs, k _ x, r⟩⟩
theorem ExcN.at (k : HOk P w H h) (q : H e = some (ExcN e C t dx)) : h.get? e = some (excO C t dx) := (k e _ q).1
theorem ExcC.at (k : HOk P w H h) (q : H e = some (ExcC e C dx)) : ∃ o vs, h.get? e = some o ∧ o.cls = .ref C ∧ o.dict = dx ∧ o.data = .fields vs := (k e _ q).1
end
section
variable {X : Cx} {pins : List (Addr × Obj)} {σ : St} {H : Hp} {s : Shared}
/-- a thing that stands in the heap is tracked from now on -/
theorem Inv.track {a : Addr} {o : HO} (I : Inv X pins σ H s) (hn : H a = none) (h0 : X.s₀.heap.get? a = none) (hl : a ≠ X.env.locals) (hc : ∀ x c, X.env.cells.lookup x = some c → c ≠ a) (hp : ∀ p ∈ X.pn ++ pins, p.1 ≠ a)
    (new : ObjOk X.prog X.w (upd H a o) s.heap a o) : Inv X pins σ (upd H a o) s := by
  refine ⟨I.ok, I.os, I.bare, ⟨I.base.keep, I.base.slot, fun b u z n hx => ?_, I.base.there, fun b xs z => ?_, fun b ob u z => ?_, fun b ps z => ?_⟩, I.loc, I.cell, ?_, fun x c z => ?_, fun p z => ?_, fun b u z => ?_, I.len⟩
  · rw [upd_ne fun y => by rw [y, h0] at z; cases z]; exact I.base.free b u z n hx
  · have q := I.base.tups b xs z; rw [upd_ne (ne_of_none q hn)]; exact q
  · have q := I.base.frzs b ob u z; rw [upd_ne (ne_of_none q hn)]; exact q
  · obtain ⟨more, q⟩ := I.base.tbls b ps z
    exact ⟨more, by rw [upd_ne (ne_of_none q hn)]; exact q⟩
  · rw [upd_ne hl.symm]; exact I.free
  · rw [upd_ne (hc x c z)]; exact I.freeC x c z
  · obtain ⟨q1, q2, q3⟩ := I.pin p z
    exact ⟨q1, by rw [upd_ne (hp p z)]; exact q2, q3⟩
  · by_cases y : b = a
    · subst y; rw [upd_same] at z; cases z; exact new
    · rw [upd_ne y] at z
      exact (I.hok b u z).stay (fun _ _ _ q => q) (fun c q => by rw [upd_ne (ne_of_none q hn)]; exact q) fun c xs q => by rw [upd_ne (ne_of_none q hn)]; exact q
def offH (H : Hp) (a : Addr) : Hp := fun b => if b = a then none else H b
theorem offH_ne {a b : Addr} (h : b ≠ a) : offH H a b = H b := if_neg h
theorem offH_same {a : Addr} : offH H a a = none := if_pos rfl
/-- a thing of another kind is tracked no more -/
theorem Inv.drop {a : Addr} {φ : Heap → Prop} (I : Inv X pins σ H s) (ha : H a = some (.ext φ)) : Inv X pins σ (offH H a) s := by
  have off : ∀ {b : Addr} {u : HO}, H b = some u → u ≠ .ext φ → offH H a b = some u := fun {b u} q n => by
    rw [offH_ne fun y => by rw [y, ha] at q; exact n (Option.some.inj q).symm]; exact q
  have non : ∀ {b : Addr}, H b = none → offH H a b = none := fun {b} q => by
    by_cases y : b = a
    · rw [y]; exact offH_same
    · rw [offH_ne y]; exact q
  refine ⟨I.ok, I.os, I.bare, ⟨I.base.keep, I.base.slot, fun b u z n hx => non (I.base.free b u z n hx), I.base.there, fun b xs z => off (I.base.tups b xs z) (fun y => nomatch y), fun b ob u z => off (I.base.frzs b ob u z) (fun y => nomatch y), fun b ps z => ?_⟩, I.loc, I.cell, non I.free, fun x c z => non (I.freeC x c z), fun p z => ?_, fun b u z => ?_, I.len⟩
  · obtain ⟨more, q⟩ := I.base.tbls b ps z
    exact ⟨more, off q fun y => nomatch y⟩
  · obtain ⟨q1, q2, q3⟩ := I.pin p z
    exact ⟨q1, non q2, q3⟩
  · have y : b ≠ a := fun y => by rw [y, offH_same] at z; cases z
    rw [offH_ne y] at z
    exact (I.hok b u z).stay (fun _ _ _ q => q) (fun c q => off q fun y => nomatch y) (fun c xs q => off q fun y => nomatch y) (fun c o q => off q fun y => nomatch y)
/-- the locals have become others: nothing is known of them -/
theorem Inv.forget {h' : Heap} {m' : Str → Option Value} {t' : Nat} (I : Inv X pins σ H s) (hn : h'.Ns X.env.locals m') (hs : Heap.SameBut X.env.locals s.heap h') : Inv X pins (List.replicate X.N.length none) H { s with heap := h', toks := t' } := by
  have old : ∀ b o, X.s₀.heap.get? b = some o → b ≠ X.env.locals := fun b o q => Nat.ne_of_lt (Nat.lt_of_lt_of_le (Heap.lt_size q) I.ok.above)
  refine ⟨I.ok, I.os, I.bare, ⟨fun b o z n hb hx => ?_, fun b o z n hb hx => ?_, I.base.free, fun b o z hx => ?_, I.base.tups, I.base.frzs, I.base.tbls⟩, ⟨m', hn, fun i x v _ z _ => ?_⟩, fun x c z => ?_, I.free, I.freeC, fun p z => ?_, fun b u z => ?_, by simp⟩
  · rw [hs.2 b (old b o z)]; exact I.base.keep b o z n hb hx
  · obtain ⟨sl, q⟩ := I.base.slot b o z n hb hx
    exact ⟨sl, by rw [hs.2 b (old b o z)]; exact q⟩
  · obtain ⟨o', q⟩ := I.base.there b o z hx
    exact ⟨o', by rw [hs.2 b (old b o z)]; exact q⟩
  · rw [List.getElem?_replicate] at z
    split at z <;> cases z
  · obtain ⟨v, q⟩ := I.cell x c z
    exact ⟨v, q.sameBut hs (I.cne x c z)⟩
  · obtain ⟨q1, q2, q3, q4⟩ := I.pin p z
    exact ⟨by rw [hs.2 p.1 q3]; exact q1, q2, q3, q4⟩
  · refine (I.hok b u z).stay (fun c v y q => ?_) (fun _ q => q) fun _ _ q => q
    rw [hs.2 c ?_]
    · exact q
    rintro rfl
    have fr : H X.env.locals = none := I.free
    rcases y with rfl | y
    · rw [fr] at z; cases z
    · rw [fr] at y; cases y
end
/-! ### what of the text such a class must have -/
def ClsX (K : PySem.W.Frag) (C Y : Addr) : Prop := ∃ nm q N bs sn sub ab col dd k0 k1 k2 k3 k5, K.lookup C = some (excClassObj nm q C N bs (.ref Y :: VEs) true sn sub ab col dd k0 k1 k2 k3 k5 "ValueError.__new__")
theorem ClsX.cls {K : PySem.W.Frag} {C Y : Addr} (c : ClsX K C Y) : ∃ cd, PySem.W.clsIn K C = some cd ∧ cd.mro = .ref C :: .ref Y :: VEs ∧ cd.hasDict = true := by
  obtain ⟨nm, q, N, bs, sn, sub, ab, col, dd, k0, k1, k2, k3, k5, h⟩ := c
  refine ⟨{ name := nm, bases := bs, mro := .ref C :: .ref Y :: VEs, ns := N, qualname := q, hasDict := true, slotNames := sn, subclasses := sub, abstract := ab, collection := col, hasDel := false }, ?_, rfl, rfl⟩
  unfold PySem.W.clsIn
  rw [h]
theorem ClsX.hd {K : PySem.W.Frag} {C Y : Addr} (c : ClsX K C Y) : PySem.W.hasDictIn K C = true := by
  obtain ⟨cd, h, _, hd⟩ := c.cls
  unfold PySem.W.hasDictIn
  rw [h]
  exact hd
section
variable {X : Cx} {pins : List (Addr × Obj)} {σ : St} {H : Hp} {s : Shared} {e C Y t : Addr} {f : Str} {A : Around} {E : Value → Shared → Prop}
/-- self.f = value in an exception's __init__ -/
def sXset (K : PySem.W.Frag) (ta tv : TE) (f : Str) : TS := fun D σ H => tv σ H fun y H1 => ta σ H1 fun x H2 => ∃ e C Y t, x = .ref e ∧ H2 e = some (ExcN e C t none) ∧ ClsX K C Y ∧ PySem.W.findIn K (.ref C) "__setattr__" = some (some (.builtin "object.__setattr__")) ∧ PySem.W.findIn K (.ref C) f = some none ∧
  ∀ dx, H2 dx = none → dx ≠ e → D.nx σ (upd (upd H2 e (ExcN e C t (some dx))) dx (.xd [(f, y)]))
/-- how an own exception's attributes are looked up -/
structure XA (K : PySem.W.Frag) (C : Addr) : Prop where
  ga : PySem.W.findIn K (.ref C) "__getattribute__" = some (some (.builtin "BaseException.__getattribute__"))
  gt : PySem.W.findIn K (.ref C) "__getattr__" = some none
  be : PySem.W.mroIn K C (.type "BaseException") = some true
end
section
variable {prog : Program} {w : World} {A : Around} {E : Value → Shared → Prop} {s : Shared} {K : PySem.W.Frag} {x C : Addr} {ox : Obj} {od : Option Obj} {name : Str} {tk : Tok}
theorem bexc_kind : builtinKind "BaseException.__getattribute__" = some .slot := by decide +kernel
theorem bexc_split : splitId "BaseException.__getattribute__" = some ("BaseException", "__getattribute__") := by decide +kernel
theorem getx_call {v : Value} {R : Result → Shared → Prop} (X : K.In s.heap) (I : PySem.W.InstAt s.heap x ox C od) (xa : XA K C) {fd : Found} (hf : PySem.W.findObj K C od name = some fd)
    (h : match fd with | .value v => R (.ok (.ret v)) s | .bind g a => wpAny (model prog w) A.in1 (call g [a, .ref x, .ref C]) (fun v s' => R (.ok (.ret v)) s') (fun e s' => R (.error e) s') s | .missing => False) :
    codeAny (model prog w) A (.call (.builtin "BaseException.__getattribute__") ⟨[.ref x, .str name tk], []⟩) R s := by
  have ty := I.type (M := model prog w)
  have sub : PySem.W.Looks (model prog w) s.heap (isInstance (.ref x) (.type "BaseException")) true := ty.andThen (PySem.W.looks_mroIn X xa.be)
  have fn := PySem.W.looks_find (M := model prog w) X I hf
  refine codeAny_call_builtin PySem.F.attr_ValueError.ga.plain PySem.F.entry_bexc_ga (@PySem.W.check_slot (model prog w) _ _ s "BaseException.__getattribute__" "BaseException" "__getattribute__" (.ref x) [.str name tk] [] _ bexc_kind bexc_split sub (PySem.F.args_bexc_ga _ _) ?_)
  refine wpAny_bind (wpAny_pure (wpAny_bind (wpAny_pure (wpAny_bind (ty.here (wpAny_bind (fn.here ?_)))))))
  cases fd with
  | value v => exact wpAny_pure h
  | bind g a =>
    show wpAny _ _ (holding [a] (call g [a, .ref x, .ref C]) >>= ret) _ _ _
    exact wpAny_bind (wpAny_holding (wpAny_mono h (fun v s' z => wpAny_pure z) fun _ _ z => z))
  | missing => exact h.elim
theorem getx_by {fill expr : Bool} {Q : Value → Shared → Prop} (X : K.In s.heap) (I : PySem.W.InstAt s.heap x ox C od) (xa : XA K C)
    (h : codeAny (model prog w) A (.call (.builtin "BaseException.__getattribute__") ⟨[.ref x, .str name tk], []⟩) (fun r s' => match r with | .ok (.ret v) => wpAny (model prog w) A (handedOut v) Q E s' | _ => False) s) :
    wpAny (model prog w) A (getAttrBy (.ref x) (.str name tk) fill expr) Q E s := by
  have ty := I.type (M := model prog w)
  have lg := PySem.W.looks_findIn (M := model prog w) X xa.ga
  have lt := PySem.W.looks_findIn (M := model prog w) X xa.gt
  unfold getAttrBy
  refine wpAny_holding (wpAny_bind (ty.here (wpAny_bind (lg.here ?_))))
  show wpAny _ _ (getAttrByItsOwn (.ref x) (.str name tk) (.ref C) (.builtin "BaseException.__getattribute__") fill expr) _ _ _
  unfold getAttrByItsOwn
  refine wpAny_bind (lt.here (wpAny_bind (wpAny_attempt (wpAny_holding ?_))))
  have he : (expr && onTheHeap (Value.builtin "BaseException.__getattribute__")) = false := by cases expr <;> rfl
  unfold callGetattribute
  rw [he]
  simp only [Bool.false_eq_true, if_false]
  unfold boundAndCalled
  rw [PySem.F.attr_ValueError.ga.bind]
  refine wpAny_bind (wpAny_pure (wpAny_call (codeAny_mono h fun r s' z => ?_)))
  rcases r with e | (v | _ | _ | _) <;> first | exact z | exact z.elim
theorem kitx_exc (xa : XA K C) (hc : (PySem.W.clsIn K C).isSome = true) (ha : PySem.W.findIn K (.ref C) "__class__" = some (some (.builtin "object.__class__"))) (hn : PySem.W.specialIn K (.builtin "object.__class__") "__get__" = some (some (.builtin "getset_descriptor.__get__")))
    (htk : PySem.W.takesIn K (.builtin "object.__class__") = some true) (hm : PySem.W.mroIn K C (.type "object") = some true) : PySem.W.KitX K (.ref x) (.ref C) (fun h => PySem.W.InstAt h x ox C od) where
  ty := fun _ _ _ I => I.type
  it := fun _ _ X _ => by
    unfold PySem.W.clsIn at hc
    split at hc
    · rename_i c' d' cd' sl' ho
      intro A' Q' E' s' k q
      unfold isType loadHead
      exact wpAny_bind (wpAny_loadPart (k _ _ (X _ _ ho)) (wpAny_pure q))
    · cases hc
  ne := fun h tp dd its n sl X htp => by
    refine Bool.eq_false_iff.mpr fun q => ?_
    have e : C = tp := Value.ref.inj (beq_iff_eq.mp q)
    subst e
    unfold PySem.W.clsIn at hc
    split at hc
    · rename_i c' d' cd' sl' ho
      have z := (X _ _ ho).symm.trans htp
      cases z
    · cases hc
  ca := fun {prog w A E Q s} X I k => by
    have hf : PySem.W.findObj K C od "__class__" = some (.bind (.builtin "getset_descriptor.__get__") (.builtin "object.__class__")) := by
      obtain ⟨cd, hcd⟩ := Option.isSome_iff_exists.mp hc
      unfold PySem.W.findObj
      rw [hcd, Option.bind_some, ha]
      simp [hn, htk]
    unfold getAttr? getAttrBy?
    refine wpAny_bind (wpAny_mkText (wpAny_bind (wpAny_attempt (getx_by (s := { s with toks := s.toks + 1 }) X I xa (getx_call (s := { s with toks := s.toks + 1 }) (v := .none) X I xa hf ?_)))))
    exact wpAny_call (PySem.W.class_get (s := { s with toks := s.toks + 1 }) (ox := ox) (od := od) X I hm (wpAny_pure (wpAny_pure k)))
end
section
variable {X : Cx} {f : Str}
/-- e.f of a caught exception -/
def tXfld (K : PySem.W.Frag) (ta : TE) (f : Str) : TE := fun σ H Q => ta σ H fun x H1 => ∃ e C Y dx fs v, x = .ref e ∧ H1 e = some (ExcC e C (some dx)) ∧ H1 dx = some (.xd fs) ∧ ClsX K C Y ∧ XA K C ∧ PySem.W.findIn K (.ref C) f = some none ∧ fs.lookup f = some v ∧ Q v H1
end
end L2

end

section
set_option Elab.async false
set_option linter.all false
set_option maxRecDepth 100000
set_option maxHeartbeats 4000000
namespace L2
open PySem PySem.Spec PyProof.Rows
/-! ## C(..) of an own exception with an __init__ -/
section
variable {prog : Program} {w : World} {A : Around} {E : Value → Shared → Prop} {h : Heap} {g : Array GenState} {d : Drawn} {tk : Nat} {os : OsState} {nm qn : Str} {C N : Addr} {bs bm bmB : List Value} {hdct : Bool} {sn : List Str} {sub : List Value} {ab : Bool} {col : Option Bool} {dd : Option Addr} {k0 k1 k2 k3 k5 : Option Value} {B newId initId : String}
  {rest : List Value} {fI : Addr} {oI : Obj}
end
section
variable {M : Model} {A : Around} {E : Value → Shared → Prop} {s : Shared} {env : Env} {nm qn : Str} {C N : Addr} {bs bm : List Value} {hdct : Bool} {sn : List Str} {sub : List Value} {ab : Bool} {col : Option Bool} {dd : Option Addr} {k0 k1 k2 k3 k5 : Option Value} {newId : String}
end
/-- an exception's __init__ that stores its argument in the field f -/
def spXI (C : Addr) (f : Str) : Sp := fun vs H Q _ => ∃ e t v, vs = [.ref e, v] ∧ H e = some (ExcN e C t none) ∧ ∀ dx, H dx = none → dx ≠ e → Q .non (upd (upd H e (ExcN e C t (some dx))) dx (.xd [(f, v)]))
/-- what of the text an own exception with an __init__ must have -/
structure XI (K : PySem.W.Frag) (C Y fI : Addr) (f : Str) : Prop where
  cls : ClsX K C Y
  kp : PySem.W.keepIn K (.ref C) = true
  init : PySem.W.findIn K (.ref C) "__init__" = some (some (.ref fI))
  fn : PySem.W.typeIn K (.ref fI) = some (.type "function")
  sa : PySem.W.findIn K (.ref C) "__setattr__" = some (some (.builtin "object.__setattr__"))
  xa : XA K C
  na : PySem.W.findIn K (.ref C) f = some none
def sRaiseI (C : Addr) (f : Str) (E : XK) (t : TA) : TS := fun _ σ H => t σ H fun vs H1 => ∃ v, vs = [v] ∧ ∀ dx, H1 dx = none → E (.ref C) (some dx) (upd H1 dx (.xd [(f, v)]))
section
variable {P : Program} {w : World} {K : PySem.W.Frag} {mg : Str → Option Value} {base : Heap} {N : List Str} {qual : Str} {scope : Scope} {f : Addr} {cd : Value} {A : Around} {outer : List Env} {s₀ : Shared} {H₀ : Hp} {E : XK}
end
/-! ## try .. except B as n -/
section
variable {K : PySem.W.Frag} {M : Model} {A : Around} {E : Value → Shared → Prop} {s : Shared} {e C B : Addr} {o : Obj} {r : Bool}
theorem excMatches_K {Q : Bool → Shared → Prop} (X : K.In s.heap) (he : s.heap.get? e = some o) (hc : o.cls = .ref C) (kB : PySem.W.kitCls K (.ref B) (.type "BaseException") = some true) (kC : PySem.W.kitCls K (.ref C) (.ref B) = some r) (hq : Q r s) :
    wpAny M A (excMatches (.ref e) (.ref B)) Q E s := by
  obtain ⟨tB, iB, sB⟩ := PySem.W.kit_cls (M := M) X kC
  obtain ⟨_, _, bB⟩ := PySem.W.kit_cls (M := M) X kB
  have ty : PySem.W.Looks M s.heap (typeOf (.ref e)) (.ref C) := hc ▸ (PySem.W.Looks.ld he).andThen .now
  have f := tc_notTuple
  unfold excMatches isExcClass
  repeat (first | with_reducible refine ty.here ?_ | with_reducible refine tB.here ?_ | with_reducible refine iB.here ?_ | with_reducible refine sB.here ?_ | with_reducible refine bB.here ?_ | wp_step)
  cases r with
  | true => repeat (first | exact hq | wp_step)
  | false => repeat (first | exact hq | wp_step)
end
/-- behind a handler that binds a name nothing is known of the locals -/
def Ends.blur (D : Ends) (n : Nat) : Ends := { nx := fun _ H => D.nx (List.replicate n none) H, rt := D.rt, bk := fun _ H => D.bk (List.replicate n none) H, ct := fun _ H => D.ct (List.replicate n none) H }
section
variable {X : Cx} {σ : St} {H : Hp}
theorem WS.tryAs {x n : Str} {B : Addr} {i : Nat} {np hpos pos : Pos} {body suite : List Stmt} {b₀ : Stmt} {D : Ends} {Ex : XK} {R : Addr → Option Addr → Hp → Prop} (hm : X.mg x = some (.ref B)) (kB : PySem.W.kitCls X.K (.ref B) (.type "BaseException") = some true) (hg : Gl X x) (hN : X.N.Nodup) (hi : X.N[i]? = some n) (hlo : X.env.kindOf n = some .local) (hsc : X.env.scope.names.lookup n = some .local)
    (hst : X.stack = X.env :: X.outer) (hfm : X.env.frame = some X.env.locals) (hcm : X.calm = true) (hex : X.ex = []) (hE : ∀ cls dx H', Ex cls dx H' → ∃ C, cls = .ref C ∧ PySem.W.kitCls X.K (.ref C) (.ref B) = some true ∧ R C dx H')
    (hb : ∀ pn xe, Passes (CXF X.prog X.w) (X.tried pn xe) Ex → WSs (X.tried pn xe) body D σ H) (hh : ∀ (ea C : Addr) (dx : Option Addr) (σ' : St) (H' : Hp), σ'.length = X.N.length → R C dx H' → H' ea = none → WSs (X.caught ea) (b₀ :: suite) (D.blur X.N.length) (σ'.set i (some (.ref ea))) (upd H' ea (ExcC ea C dx))) (hd : (x == ("__debug__" : Str)) = false := by decide) :
    WS X (.Try body [.ExceptHandler (some (.Name x np)) (some n) (b₀ :: suite) hpos] [] [] pos) D σ H := by
  refine ⟨fun pins s I => ?_⟩
  refine wpAny_Try_except ?_
  have pass : Passes (CXF X.prog X.w) (X.tried (X.pn ++ pins) fun e s₁ => wpAny (model X.prog X.w) X.A (noteFrame e X.env) (fun _ s₂ => wpAny (model X.prog X.w) X.A (setFlight e none) (fun _ s₃ => wpAny (model X.prog X.w) X.A (handleBy e X.env [.ExceptHandler (some (.Name x np)) (some n) (b₀ :: suite) hpos]) (SP X pins D) X.xe s₃) X.xe s₂) X.xe s₁) Ex := by
    intro pins' σ' H1 s1 e s2 I1 hc
    obtain ⟨ea, cls, dx, H2, rfl, os, bare, un, hok, ⟨a0, B0, fl, pB⟩, hEx⟩ := hc
    obtain ⟨C, rfl, kC, hR⟩ := hE _ _ _ hEx
    have IX : Inv X pins σ' H1 s1 := I1.tryOut
    have I2 : Inv X pins σ' H2 s2 := IX.call' os un hok bare (fun b z => absurd z (by simp))
    have fr : ∀ b ∈ frs X.stack, H2 b = none ∧ ∃ o, s2.heap.get? b = some o ∧ ∀ vs, o.data ≠ .fields vs := fun b hb => ⟨I2.stkFree b hb, (I2.stack.mem hb).2⟩
    have step : ∀ h', B0.StaysIn h' → s2.heap.UpToSlots h' → Inv X pins σ' H2 { s2 with heap := h' } := fun h' st up =>
      let ⟨u, k⟩ := fly_un un hok fr st up pB
      IX.call' (s' := { s2 with heap := h' }) os u k bare (fun b z => absurd z (by simp))
    -- the exception is none of what stood at the call, and is not told
    have new : ∀ b o, s1.heap.get? b = some o → b ≠ ea := fun b o q z => by
      subst z
      obtain ⟨ob, hob, _, _, vs, hvs⟩ := fl.there
      by_cases hf : b ∈ frs X.stack
      · obtain ⟨_, o2, h2, h3⟩ := fr b hf
        rw [hob] at h2
        cases h2
        exact h3 vs hvs
      · have := pB b ob hob (.inl ⟨o, q⟩) hf
        rw [fl.2.1] at this
        cases this
    have non : H2 ea = none := by
      cases q : H2 ea with
      | none => rfl
      | some u =>
        obtain ⟨ob, hob, _⟩ := fl.there
        have := pB ea ob hob (.inr (by rw [q]; exact Option.some_ne_none _)) (fun z => by have := (fr ea z).1; rw [q] at this; cases this)
        rw [fl.2.1] at this
        cases this
    have fl : FlyX B0 (X.env :: X.outer) ea (.ref C) a0 dx .none s2.heap := by rw [← hst]; exact fl
    have hfr : X.A.frames = some (X.env :: X.outer) := by rw [← hst]; exact I2.ok.frames
    show wpAny (model X.prog X.w) X.A (noteFrame (.ref ea) X.env) _ _ s2
    refine noteX_next hfr hfm fl fun h₄ held₄ sm₄ => landX (s := { s2 with heap := h₄ }) held₄ fun h₅ fl₅ sm₅ => ?_
    have sm25 : s2.heap.UpToSlots h₅ := sm₄.trans sm₅
    have I5 := (step h₅ fl₅.1 sm25).catch ea
    refine wpAny_handleBy_cons (codeAny_handlers_test (ld_glob I5 hg hm ?_ hd)) (by intro q; cases q)
    obtain ⟨ob, hob, hobc, _⟩ := fl₅.there
    refine excMatches_K I5.kIn hob hobc kB kC (codeAny_handlers_suite_as ?_)
    refine landX (s := { s2 with heap := h₅ }) fl₅ fun h₆ fl₆ sm₆ => ?_
    have I6 := step h₆ fl₆.1 (sm25.trans sm₆)
    obtain ⟨o6, ho6, oc6, od6, vs6, ov6⟩ := fl₆.there
    have I7 : Inv X pins σ' (upd H2 ea (ExcC ea C dx)) { s2 with heap := h₆ } := I6.track non
      (by
        cases q : X.s₀.heap.get? ea with
        | none => rfl
        | some o =>
          obtain ⟨o', q'⟩ := IX.base.there ea o q (by rw [hex]; simp)
          exact absurd rfl (new ea o' q'))
      (fun z => by
        obtain ⟨m, ⟨o, _, _, q, _⟩, _⟩ := IX.loc
        exact new _ o q z.symm)
      (fun y c q => by
        obtain ⟨v, o, q', _⟩ := IX.cell y c q
        exact new c o q')
      (fun p q => new p.1 p.2 (IX.pin p q).1) (ExcC.ok ho6 oc6 od6 ov6)
    refine store_ok (X := X.caught ea) (s := { s2 with heap := h₆ }) (I7.catch ea) hN hi (.inl hsc) (v := .ref ea) rfl (fun s8 I8 => ?_) (.inr hsc)
    refine wpAny_mono ((hh ea C dx σ' H2 IX.len hR non).run pins _ I8) (fun f s₃ q => ?_) fun _ _ z => False.elim z
    have hX := I.ok.hd hcm
    have goes : ∀ {σ'' : St} {H'' : Hp} {s3 : Shared} {Q : Unit → Shared → Prop}, Inv (X.caught ea) pins σ'' H'' s3 → (∀ s4, Inv X pins (List.replicate X.N.length none) H'' s4 → Q () s4) → wpAny (model X.prog X.w) X.A (do bindName X.env n .none; unbindBehindTheSuite X.env n hpos) Q X.xe s3 := by
      intro σ'' H'' s3 Q J k
      obtain ⟨m, hn, _⟩ := J.loc
      refine wpAny_nameGoes hlo hn (by rw [J.ok.kind]; rfl) fun h' m' hn' hs' => k _ ?_
      exact (J.uncatch hX).forget hn' hs'
    cases f with
    | next => obtain ⟨σ'', H'', J, q⟩ := q; exact goes J fun s4 J4 => ⟨_, H'', J4, q⟩
    | brk => obtain ⟨σ'', H'', J, q⟩ := q; exact goes J fun s4 J4 => ⟨_, H'', J4, q⟩
    | cont => obtain ⟨σ'', H'', J, q⟩ := q; exact goes J fun s4 J4 => ⟨_, H'', J4, q⟩
    | ret u => obtain ⟨v, σ'', H'', J, r, q⟩ := q; exact goes J fun s4 J4 => ⟨v, _, H'', J4, r, q⟩
  refine wpAny_mono ((hb _ _ pass).run [] s (I.tryIn _)) (fun f s₁ q => ?_) fun e s₁ z => z
  cases f with
  | next =>
    obtain ⟨σ', H', J, q⟩ := q
    exact wpAny_execs_nil ⟨σ', H', J.tryOut, q⟩
  | brk => obtain ⟨σ', H', J, q⟩ := q; exact ⟨σ', H', J.tryOut, q⟩
  | cont => obtain ⟨σ', H', J, q⟩ := q; exact ⟨σ', H', J.tryOut, q⟩
  | ret u => obtain ⟨v, σ', H', J, r, q⟩ := q; exact ⟨v, σ', H', J.tryOut, r, q⟩
end
/-! ## isinstance(e, C), isinstance(e, (C, D, ..)) of a caught exception with a dict -/
structure XG (K : PySem.W.Frag) (C : Addr) : Prop where
  xa : XA K C
  hc : (PySem.W.clsIn K C).isSome = true
  cl : PySem.W.findIn K (.ref C) "__class__" = some (some (.builtin "object.__class__"))
  cg : PySem.W.specialIn K (.builtin "object.__class__") "__get__" = some (some (.builtin "getset_descriptor.__get__"))
  ct : PySem.W.takesIn K (.builtin "object.__class__") = some true
  ob : PySem.W.mroIn K C (.type "object") = some true
def rIsiE (K : PySem.W.Frag) : List V → Hp → VK → Prop := fun xs H Q => ∃ e C dx fs c b, xs = [.ref e, c] ∧ H e = some (ExcC e C (some dx)) ∧ H dx = some (.xd fs) ∧ XG K C ∧ ((∃ n, c = .ty n ∧ PySem.W.kitOne K (.ref C) (.type n) = some b) ∨ (∃ a, c = .ref a ∧ PySem.W.kitOne K (.ref C) (.ref a) = some b) ∨
  ∃ (a : Addr) (cs : List Addr), c = .ref a ∧ H a = some (.tup (cs.map V.ref)) ∧ PySem.W.kitAny K (.ref C) (cs.map Value.ref) = some b) ∧ Q (.bl b) H
theorem refs_of : ∀ {cs : List Addr} {its : List Value}, Vals (cs.map V.ref) its → its = cs.map Value.ref
  | [], _, .nil => rfl
  | c :: cs, _, .cons r t => by
    rw [refs_of t]
    cases r
    rfl
end L2

end

section
set_option Elab.async false
set_option linter.all false
set_option maxRecDepth 100000
set_option maxHeartbeats 4000000
namespace L2
open PySem PySem.Spec PyProof.Rows
theorem lk_list_keys : typeLookup (.type "list") "keys" = pure none := by rw [typeLookup_type, builtinLookup_eq_fast]; kernel_rfl
theorem lk_list_getattr : typeLookup (.type "list") "__getattr__" = pure none := by rw [typeLookup_type, builtinLookup_eq_fast]; kernel_rfl
theorem ae_sub : isSubtype (.type "AttributeError") (.type "AttributeError") = pure true := by rw [isSubtype_type]; kernel_rfl
section
variable {prog : Program} {w : World} {A : Around} {E : Value → Shared → Prop} {h : Heap} {g : Array GenState} {d : Drawn} {t : Nat} {os : OsState} {a : Addr} {vs : Array Value} {n : Nat}
theorem attrErr {β : Type} {msg : Str} {Q : β → Shared → Prop} (hh : A.handled = none) (hm : msg.length ≤ sizeLine)
    (hq : ∀ h' e tk', (∀ b u, h.get? b = some u → h'.get? b = some u) → (∃ oe, h'.get? e = some oe ∧ oe.cls = .type "AttributeError") → E (.ref e) ⟨h', g, d, tk', os⟩) :
    wpAny (model prog w) A (raiseAttrError (.ref a) "keys" msg : Sem β) Q E ⟨h, g, d, t, os⟩ := by
  have f5 := ae_sub
  have hm' : ¬ msg.length > sizeLine := by omega
  unfold raiseAttrError newExc
  repeat (any_goals (first | assumption | rw [if_neg hm'] | wp_step))
  generalize hoX : ({ cls := Value.type "AttributeError", data := Data.fields (#[Value.ref h.objs.size, Value.none, Value.none, Value.none, Value.bool false, if ((Manifest.find? "AttributeError").elim false fun t => t.mro.contains "StopIteration" || t.mro.contains "SystemExit") = true then [Value.str msg t].headD Value.none else Value.none] ++ ownMembersOf (Value.type "AttributeError") [Value.str msg t]) } : Obj) = oX
  have hcX : oX.cls = .type "AttributeError" := by rw [← hoX]
  have hdX : ∃ ws, oX.data = .fields ws := ⟨_, by rw [← hoX]⟩
  obtain ⟨ws, hdX⟩ := hdX
  have hX : ((h.push { cls := Value.type "tuple", data := Data.seq #[Value.str msg t] }).push oX).get? (h.push { cls := Value.type "tuple", data := Data.seq #[Value.str msg t] }).objs.size = some oX := Heap.get?_push_size _ (Obj.isFreed_of_fields hdX)
  refine wpAny_raiseNew_none hh (hq _ _ _ (fun b u hb => ?_) ⟨_, Heap.get?_update_self _ hX (Obj.isFreed_of_fields (Obj.data_mapFields hdX _)), by rw [Obj.cls_mapFields]; exact hcX⟩)
  rw [Heap.get?_update_other _ _ (by rw [Heap.size_push]; exact Nat.ne_of_gt (Nat.lt_succ_of_lt (Heap.lt_size hb)))]
  exact Heap.get?_push_of_some _ (Heap.get?_push_of_some _ hb)
theorem keys_entry {tk : Tok} {Q : Fin → Shared → Prop} (hh : A.handled = none) (hx : h.get? a = some { cls := .type "list", data := .seq vs n })
    (hq : ∀ h' e tk', (∀ b u, h.get? b = some u → h'.get? b = some u) → (∃ oe, h'.get? e = some oe ∧ oe.cls = .type "AttributeError") → E (.ref e) ⟨h', g, d, tk', os⟩) :
    wpAny (model prog w) A (Builtin.«object.__getattribute__» ⟨[.ref a, .str "keys" tk], []⟩) Q E ⟨h, g, d, t, os⟩ := by
  have hT : (⟨h, g, d, t, os⟩ : Shared).TypeIs (.ref a) "list" := ⟨_, hx, rfl⟩
  have f4 := lk_list_keys
  have f5 := ae_sub
  repeat (any_goals (first | assumption | wp_step))
  exact attrErr hh (by decide +kernel) hq
theorem keys_none {Q : Option Value → Shared → Prop} (hh : A.handled = none) (hx : h.get? a = some { cls := .type "list", data := .seq vs n })
    (hq : ∀ h' tk', (∀ b u, h.get? b = some u → h'.get? b = some u) → Q none ⟨h', g, d, tk', os⟩) : wpAny (model prog w) A (getAttr? (.ref a) "keys") Q E ⟨h, g, d, t, os⟩ := by
  have hT : (⟨h, g, d, t, os⟩ : Shared).TypeIs (.ref a) "list" := ⟨_, hx, rfl⟩
  have f2 := F.slot_list_getattribute.lookup
  have f3 := F.slot_list_getattribute.bind (.ref a)
  have f5 := ae_sub
  have f6 := lk_list_getattr
  unfold getAttr? getAttrBy?
  repeat (any_goals (first | assumption | wp_step))
  refine codeAny_call_builtin F.slot_list_getattribute.plain F.entry_list_ga (F.slot_list_getattribute.check _ _ _ _ _ _ _ _ (show (⟨h, g, d, t + 1, os⟩ : Shared).TypeIs (.ref a) "list" from ⟨_, hx, rfl⟩) (F.args_list_getattribute_2 _ _) (keys_entry hh hx fun h' e tk' kp ⟨oe, he, hc⟩ => ?_))
  have hTe : (⟨h', g, d, tk', os⟩ : Shared).TypeIs (.ref e) "AttributeError" := ⟨_, he, hc⟩
  have hq' := hq h' tk' kp
  unfold getattributeRaised
  repeat (any_goals (first | assumption | wp_step))
  all_goals trace_state
end
theorem entry_dul : entryFor table "dict.update.loop" = some Builtin.«dict.update.loop» := entryFor_of_tree (by kernel_rfl)
section
variable {prog : Program} {w : World} {KT : Type} [DecidableEq KT] {knd : KeyKind prog w KT} {A : Around} {R : Result → Shared → Prop} {l d it : Addr} {tps : List Addr} {prs D0 : List (KT × Value)} {h₀ : Heap}
/-- the pairs of a list, as a dict takes them -/
def PairsIn (knd : KeyKind prog w KT) (h : Heap) (tps : List Addr) (prs : List (KT × Value)) : Prop := Paired (fun p (q : KT × Value) => ∃ key o n, knd.is q.1 key = true ∧ h.get? p = some o ∧ o.cls = .type "tuple" ∧ o.data = .seq #[key, q.2] n) tps prs
theorem pairs_loop (hh : A.handled = none) (hdi : d ≠ it) (hl : h₀.IsList l (tps.map Value.ref).toArray) (hld : l ≠ d) (hli : l ≠ it) (hp : PairsIn knd h₀ tps prs) (hsz : D0.length + prs.length ≤ sizeLine) (hpd : ∀ p ∈ tps, p ≠ d ∧ p ≠ it) :
    ∀ (n i : Nat) (s : Shared) (j : Int) (tk : Tok), i + n = prs.length → s.heap.IsListIter it l i → s.heap.DictOf knd d (merged D0 (prs.take i)) → (∀ b o, b ≠ d → b ≠ it → h₀.get? b = some o → s.heap.get? b = some o) →
      (∀ h' tk', h'.DictOf knd d (merged D0 prs) → (∀ b o, b ≠ d → b ≠ it → h₀.get? b = some o → h'.get? b = some o) → R (.ok (.ret .none)) { s with heap := h', toks := tk' }) →
      codeAny (model prog w) A (.builtin "dict.update.loop" ⟨[.ref d, .ref it, .int j tk, .none], []⟩) R s := by
  have hlen : tps.length = prs.length := Paired.length hp
  intro n
  induction n with
  | zero =>
    intro i s j tk hi hit hD keep hq
    have hl' : s.heap.IsList l (tps.map Value.ref).toArray := by
      obtain ⟨o, ho, r⟩ := hl
      exact ⟨o, keep _ _ hld hli ho, r⟩
    refine codeAny_builtin entry_dul ?_
    unfold Builtin.«dict.update.loop»
    dsimp only
    refine wpAny_bind (wpAny_pyNext_list_end hh hit hl' (by rw [List.getElem?_toArray, List.getElem?_map, List.getElem?_eq_none (by omega)]; rfl) fun h' eb => ?_)
    dsimp only
    refine wpAny_bind (wpAny_pure (wpAny_pure ?_))
    refine hq h' s.toks ?_ ?_
    · rw [show prs.take i = prs from List.take_of_length_le (by omega)] at hD
      obtain ⟨o, es, ep, ho, r⟩ := hD
      exact ⟨o, es, ep, eb d o hdi ho, r⟩
    · exact fun b o h1 h2 h3 => eb b o h2 (keep b o h1 h2 h3)
  | succ n ih =>
    intro i s j tk hi hit hD keep hq
    have hl' : s.heap.IsList l (tps.map Value.ref).toArray := by
      obtain ⟨o, ho, r⟩ := hl
      exact ⟨o, keep _ _ hld hli ho, r⟩
    have hit' : i < tps.length := by omega
    obtain ⟨q, hqi, key, ot, nt, hk, hpt, hct, hdt⟩ := Paired.get hp (i := i) (a := tps[i]) (List.getElem?_eq_getElem hit')
    obtain ⟨nd, ni⟩ := hpd tps[i] (List.getElem_mem hit')
    refine codeAny_builtin entry_dul ?_
    unfold Builtin.«dict.update.loop»
    dsimp only
    refine wpAny_bind (wpAny_pyNext_list_item hit hl' (x := .ref tps[i]) (by rw [List.getElem?_toArray, List.getElem?_map, List.getElem?_eq_getElem hit']; rfl) fun h1 it1 sb1 => ?_)
    have hpt1 : h1.get? tps[i] = some ot := by rw [sb1.2 _ ni]; exact keep _ _ nd ni hpt
    have hT : ({ s with heap := h1 } : Shared).TypeIs (.ref tps[i]) "tuple" := ⟨_, hpt1, hct⟩
    have hD1 : h1.DictOf knd d (merged D0 (prs.take i)) := by
      obtain ⟨o, es, ep, ho, r⟩ := hD
      exact ⟨o, es, ep, by rw [sb1.2 _ hdi]; exact ho, r⟩
    refine wpAny_bind (wpAny_holding (wpAny_bind (wpAny_tryCatch ?_)))
    unfold Builtin.Dict.pairItems
    refine wpAny_bind (wpAny_typeOf hT ?_)
    rw [if_pos (by decide)]
    refine wpAny_bind (wpAny_seqItems (s := { s with heap := h1 }) hpt1 hdt (wpAny_pure ?_))
    refine wpAny_holding (wpAny_dictSet_pairs hk hD1 (fun h2 hD2 sb2 => ?_) ?_)
    · refine wpAny_pure ⟨Code.quiet_builtin _ (by decide +kernel), ?_⟩
      have hst : stored (merged D0 (prs.take i)) q.1 q.2 = merged D0 (prs.take (i + 1)) := (merged_take_succ D0 prs i q hqi).symm
      rw [hst] at hD2
      refine ih (i + 1) { s with heap := h2, toks := s.toks + 1 } (j + 1) _ (by omega) ?_ hD2 (fun b o n1 n2 z => ?_) fun h' tk' => hq h' tk'
      · exact it1.at fun o z => by rw [sb2.2 _ hdi.symm]; exact z
      · rw [sb2.2 _ n1, sb1.2 _ n2]; exact keep b o n1 n2 z
    · have := merged_length_le (K := KT) D0 (prs.take i)
      rw [List.length_take] at this
      omega
theorem call_dict_pairs {n : Nat} {s : Shared} {Q : Value → Shared → Prop} {E : Value → Shared → Prop} (hh : A.handled = none) (hx : s.heap.get? l = some { cls := .type "list", data := .seq (tps.map Value.ref).toArray n }) (hp : PairsIn knd s.heap tps prs) (hsz : prs.length ≤ sizeLine)
    (h : ∀ h' tk' dd, h'.DictOf knd dd (merged [] prs) → dd = s.heap.objs.size → s.heap.get? dd = none → (∀ b o, s.heap.get? b = some o → h'.get? b = some o) → Q (.ref dd) { s with heap := h', toks := tk' }) :
    wpAny (model prog w) A (call (.type "dict") [.ref l]) Q E s := by
  refine callType_codes (Q₁ := fun obj s₁ => obj = .ref s.heap.objs.size ∧ s₁ = { s with heap := s.heap.push { cls := .type "dict", data := .dict #[] } }) F.kt_called_dict (F.kt_typeCall_dict_1 _) F.entry_dict_init (kt_code_dict_new _ ⟨rfl, rfl⟩) ?_
  rintro obj s₁ ⟨rfl, rfl⟩
  have hnew : (s.heap.push { cls := .type "dict", data := .dict #[] }).DictOf knd s.heap.objs.size [] := Heap.DictOf.new s.heap
  have hx1 : (s.heap.push { cls := .type "dict", data := .dict #[] }).get? l = some { cls := .type "list", data := .seq (tps.map Value.ref).toArray n } := Heap.get?_push_of_some _ hx
  refine ⟨hnew.typeIs, F.args_dict_init_2 _ _, ?_⟩
  unfold Builtin.«dict.__init__»
  refine wpAny_bind ?_
  unfold Builtin.Dict.selfAndRest
  refine wpAny_bind (wpAny_notOrdered_dict hnew.typeIs ?_)
  show wpAny _ _ (pure (s.heap.objs.size, [Value.ref l])) _ _ _
  refine wpAny_pure ?_
  show wpAny _ _ (Builtin.Dict.updateFrom "dict.__init__" s.heap.objs.size (.ref l) [] .none) _ _ _
  unfold Builtin.Dict.updateFrom
  refine wpAny_bind (wpAny_typeOf (T := "list") ⟨_, hx1, rfl⟩ ?_)
  rw [if_pos (by decide)]
  obtain ⟨h0, g0, d0, t0, os0⟩ := s
  dsimp only at *
  refine wpAny_bind (keys_none hh hx1 fun h1 tk1 k1 => ?_)
  simp only [Option.isNone_none, if_true]
  have hx2 := k1 _ _ hx1
  have hl2 : h1.IsList l (tps.map Value.ref).toArray := ⟨_, hx2, rfl, n, rfl⟩
  refine wpAny_bind (wpAny_rule (wpAny_bind (wpAny_pyIter_list (s := ⟨h1, g0, d0, tk1, os0⟩) hl2 (wpAny_pure ⟨Code.quiet_builtin _ (by decide +kernel), ?_⟩))))
  have k2 : ∀ b o, h0.get? b = some o → (h1.push { cls := .type "list_iterator", data := .fields #[.ref l, .int 0 0] }).get? b = some o := fun b o z => Heap.get?_push_of_some _ (k1 _ _ (Heap.get?_push_of_some _ z))
  have hd1 : h1.get? h0.objs.size = some { cls := .type "dict", data := .dict #[] } := k1 _ _ (Heap.get?_push_size h0 rfl)
  have lt1 : h0.objs.size < h1.objs.size := Heap.lt_size hd1
  have hll : l < h0.objs.size := Heap.lt_size hx
  refine pairs_loop (A := A.in1) (knd := knd) (h₀ := h1.push { cls := .type "list_iterator", data := .fields #[.ref l, .int 0 0] }) (l := l) (tps := tps) (prs := prs) (D0 := []) hh (Nat.ne_of_lt lt1) ?_ (Nat.ne_of_lt hll) (Nat.ne_of_lt (Nat.lt_trans hll lt1)) ?_ (by simpa using hsz) (fun p z => ?_) prs.length 0 ⟨h1.push { cls := .type "list_iterator", data := .fields #[.ref l, .int 0 0] }, g0, d0, tk1, os0⟩ 0 0 (by omega) ?_ ?_ (fun _ _ _ _ z => z) fun h' tk' hD kp => ?_
  · exact ⟨_, k2 _ _ hx, rfl, n, rfl⟩
  · exact Paired.mapP hp fun p q ⟨key, o, m, z1, z2, z3⟩ => ⟨key, o, m, z1, k2 _ _ z2, z3⟩
  · obtain ⟨i, hi, rfl⟩ := List.getElem_of_mem z
    obtain ⟨q, _, key, o, m, _, z2, _⟩ := Paired.get hp (i := i) (a := tps[i]) (List.getElem?_eq_getElem hi)
    have := Heap.lt_size z2
    exact ⟨Nat.ne_of_lt this, Nat.ne_of_lt (Nat.lt_trans this lt1)⟩
  · exact ⟨_, Heap.get?_push_size h1 rfl, rfl, rfl⟩
  · obtain ⟨o, es, ep, ho, r⟩ := hnew
    exact ⟨o, es, ep, Heap.get?_push_of_some _ (k1 _ _ ho), r⟩
  · refine ⟨rfl, h h' tk' h0.objs.size hD rfl (Heap.get?_none_of_le (Nat.le_refl _)) fun b o z => kp b o ?_ ?_ (k2 b o z)⟩
    · exact Nat.ne_of_lt (Heap.lt_size z)
    · exact Nat.ne_of_lt (Nat.lt_trans (Heap.lt_size z) lt1)
end
/-- dict([(k, v), ..]): the pairs' keys apart -/
def rDictP : List V → Hp → VK → Prop := fun xs H Q => ∃ (l : Addr) (tps : List Addr) (kvs : List (Key × V)), xs = [.ref l] ∧ H l = some (.lst (tps.map V.ref)) ∧ Paired (fun t (q : Key × V) => H t = some (.tup [kV q.1, q.2])) tps kvs ∧ (kvs.map Prod.fst).Nodup ∧ New H (.dK kvs) Q
theorem call_dictP {X : Cx} (hc : X.calm = true) : CallR X (.type "dict") rDictP := by
  intro pins s σ H xs us Q I r h
  obtain ⟨l, tps, kvs, rfl, hl, hp, hn, q⟩ := h
  obtain ⟨u, rfl, ru⟩ := vals1 r
  cases ru
  obtain ⟨hz, its, n, rv, hg⟩ := (show ObjOk X.prog X.w H s.heap l (.lst (tps.map V.ref)) from I.hok l _ hl)
  rw [refs_of rv] at hg
  have key : ∀ {tps : List Addr} {kvs : List (Key × V)}, Paired (fun t (q : Key × V) => H t = some (.tup [kV q.1, q.2])) tps kvs → ∃ prs : List (Key × Value), KV kvs prs ∧ PairsIn (mixKind X.prog X.w) s.heap tps prs := by
    intro tps kvs hp
    induction hp with
    | nil => exact ⟨[], .nil, .nil⟩
    | cons r t ih =>
      rename_i p q _ _
      obtain ⟨prs, h1, h2⟩ := ih
      obtain ⟨_, its, rv, o, ho, hcl, m, hd⟩ := (show ObjOk X.prog X.w H s.heap p (.tup [kV q.1, q.2]) from I.hok p _ r)
      obtain ⟨k, v, rfl, rk, rv2⟩ := vals2 rv
      exact ⟨(q.1, v) :: prs, .cons ⟨rfl, rv2⟩ h1, .cons ⟨k, o, m, kV_is rk, ho, hcl, hd⟩ h2⟩
  obtain ⟨prs, hkv, hpi⟩ := key hp
  have hle : kvs.length ≤ sizeLine := by
    have := Paired.length hp
    rw [List.length_map] at hz
    omega
  have hnd : (prs.map Prod.fst).Nodup := by
    have : ∀ {kvs : List (Key × V)} {prs : List (Key × Value)}, KV kvs prs → prs.map Prod.fst = kvs.map Prod.fst := by
      intro kvs prs z
      induction z with
      | nil => rfl
      | cons r t ih => rw [List.map_cons, List.map_cons, ih, r.1]
    rw [this hkv]
    exact hn
  refine call_dict_pairs (I.ok.hd hc) hg hpi (by rw [← KV.length hkv]; exact hle) fun h' tk' dd hD hdd hn' k => ?_
  rw [merged_nil_of_nodup prs hnd] at hD
  have hsm : dd ≠ sysModules := fun z => by
    have hb := I.big
    rw [← hdd, z] at hb
    exact Nat.lt_irrefl _ hb
  obtain ⟨hH, J⟩ := I.laidAt (t' := tk') (o := .dK kvs) k hn' (dk_new hle (beq_eq_false_iff_ne.mpr hsm) hkv hD)
  exact ⟨.ref dd, _, J, rfl, q.at dd hH⟩
end L2
namespace L2
open PySem PySem.Spec PyProof.Rows
theorem boot_ValueError : bootBuiltins "ValueError" = some (.type "ValueError") := by decide +kernel
theorem kit_cls_of {K : PySem.W.Frag} {t c : Value} {b : Bool} (h : PySem.W.kitOne K t c = some b) (n : (t == c) = false) : PySem.W.kitCls K t c = some b := by
  unfold PySem.W.kitOne at h
  rw [if_neg (by rw [n]; exact Bool.false_ne_true)] at h
  exact h
end L2

end

section
set_option Elab.async false
set_option linter.all false
set_option maxRecDepth 100000
set_option maxHeartbeats 4000000
namespace L2
open PySem
/-! ### == and != of two lists whose members may be dicts -/
/-- two values that are equal: flat ones, data, or dicts of such -/
def SameD (K : PySem.W.Frag) (H : Hp) (x y : V) : Prop := SameV K H x y ∨ ∃ a b ka kb, x = .ref a ∧ y = .ref b ∧ Rd H a (.dK ka) ∧ Rd H b (.dK kb) ∧ ka.length = kb.length ∧ ∀ kv ∈ ka, ∃ v, valV kb kv.1 = some v ∧ SameV K H kv.2 v
/-- u == v comes out true in this model (the hashes of a dict's keys hang on the world, so not in every one) -/
def EqIn (P : Program) (w : World) (A : Around) (s : Shared) (u v : Value) : Prop := ∀ (E : Value → Shared → Prop) (Q : Bool → Shared → Prop), Q true s → wpAny (model P w) A (eqBool u v) Q E s
theorem SameD.eqIn {X : Cx} {pins : List (Addr × Obj)} {σ : St} {H : Hp} {s : Shared} {A : Around} {x y : V} {u v : Value} (I : Inv X pins σ H s) (h : SameD X.K H x y) (rx : RelV x u) (ry : RelV y v) (hu : A.units + 62 < cLine) : EqIn X.prog X.w A s u v := by
  rcases h with h | ⟨a, b, ka, kb, rfl, rfl, ha, hb, hl, hall⟩
  · exact fun E Q q => h.eqAt I rx ry (by omega) _ _ E Q q
  cases rx
  cases ry
  by_cases hab : a = b
  · subst hab; exact fun E Q q => SeqAt.EqAt.same _ _ _ E Q q
  intro E Q hq
  unfold eqBool
  refine wpAny_holding ?_
  refine wpAny_ite_split (fun z => absurd (by have := eq_of_beq z; injection this) hab) (fun _ => ?_)
  obtain ⟨_, sa, va, ra, da⟩ := dk_rd I.hok ha
  obtain ⟨_, sb, vb, rb, db⟩ := dk_rd I.hok hb
  have la := KV.length ra
  have lb := KV.length rb
  have hits : ∀ {ka' : List (Key × V)} {va' : List (Key × Value)}, KV ka' va' → (∀ kv ∈ ka', ∃ v, valV kb kv.1 = some v ∧ SameV X.K H kv.2 v) → PySem.W.KeqHits A.in1 s vb va' true := by
    intro ka' va' r
    induction r with
    | nil => intro _; exact .nil
    | cons r t ih =>
      rename_i p q l m
      intro hv
      obtain ⟨e1, r2⟩ := r
      obtain ⟨v, hv1, hv2⟩ := hv p List.mem_cons_self
      have hval := KV.val rb p.1
      rw [hv1] at hval
      obtain ⟨y, hy, ry⟩ := RelO.some_of hval
      rw [e1] at hy
      have := PySem.W.KeqHits.hit (k := q.1) (v := q.2) hy (hv2.eqAt (A := A.in1) I r2 ry (by rw [in1_units]; omega)) (ih fun kv hkv => hv kv (List.mem_cons_of_mem _ hkv))
      simpa using this
  refine wpAny_bind (PySem.W.keq_eq (knd := mixKind X.prog X.w) sa sb da db (by omega) (fun _ => hits ra hall) ?_)
  rw [show (va.length == vb.length) = true by rw [← la, ← lb, hl]; simp]
  exact wpAny_truthy_bool hq
theorem sames_eqIn {X : Cx} {pins : List (Addr × Obj)} {σ : St} {H : Hp} {s : Shared} {A : Around} (I : Inv X pins σ H s) {xs ys : List V} {its its' : List Value} (hp : Paired (SameD X.K H) xs ys) (rv : Vals xs its) (rv' : Vals ys its') (hu : A.units + 62 < cLine) :
    ∀ j (h1 : j < its.toArray.size) (h2 : j < its'.toArray.size), EqIn X.prog X.w A s its.toArray[j] its'.toArray[j] := by
  intro j h1 h2
  have l1 := rv.length
  have l2 := rv'.length
  have h1' : j < xs.length := by simpa [l1] using h1
  have h2' : j < ys.length := by simpa [l2] using h2
  obtain ⟨t, e1, r1⟩ := Paired.get' hp (i := j) (b := ys[j]) (by simp [h2'])
  obtain ⟨v1, f1, g1⟩ := rv.get (i := j) (x := t) e1
  obtain ⟨v2, f2, g2⟩ := rv'.get (i := j) (x := ys[j]) (by simp [h2'])
  have k1 : its.toArray[j] = v1 := by
    have : its[j]? = some its.toArray[j] := by simp [show j < its.length by simpa using h1]
    rw [f1] at this
    exact (Option.some.inj this).symm
  have k2 : its'.toArray[j] = v2 := by
    have : its'[j]? = some its'.toArray[j] := by simp [show j < its'.length by simpa using h2]
    rw [f2] at this
    exact (Option.some.inj this).symm
  rw [k1, k2]
  exact r1.eqIn I g1 g2 hu
/-- two lists whose members are equal, place by place -/
def rEqLD (K : PySem.W.Frag) (neg : Bool) : R2 := fun x y H Q => ∃ a b xs ys, x = .ref a ∧ y = .ref b ∧ SqL K H a xs ∧ SqL K H b ys ∧ Paired (SameD K H) xs ys ∧ Q (.bl (!neg)) H
open AutoSeq1 (wpAny_loadPart') in
open MeetsSeq MeetsSeq2 MeetsSeq3 in
/-- the walk of two lists whose members are equal; op is 2 (==) or 3 (!=) -/
theorem alike_loop {P : Program} {w : World} {l b : Addr} {xs ys : Array Value} {n n2 : Nat} {dd dd2 : Option Addr} {sl sl2 : Array (Option Value)} (hsz : xs.size = ys.size) (m : Nat) (hm : m = 2 ∨ m = 3) (k : Nat) :
    ∀ i : Nat, xs.size - i = k → MeetsIn P w (Builtin.«list.__eq__.loop» ⟨[.ref l, .ref b, rawInt i, rawInt m], []⟩)
      (fun A R s => s.heap.get? l = some { cls := .type "list", dict := dd, data := .seq xs n, slots := sl } ∧ s.heap.get? b = some { cls := .type "list", dict := dd2, data := .seq ys n2, slots := sl2 } ∧
        (∀ j (h1 : j < xs.size) (h2 : j < ys.size), EqIn P w A.in1 s xs[j] ys[j]) ∧ R (.ok (.ret (.bool (m == 2)))) s) := by
  induction k with
  | zero =>
    intro i hk A R s h
    obtain ⟨hp, g, d, tk, os⟩ := s; obtain ⟨hl, hb, he, h⟩ := h
    have h1 : xs[((i : Nat) : Int).toNat]? = none := by simp; omega
    have h2 : ys[((i : Nat) : Int).toNat]? = none := by simp; omega
    rcases hm with rfl | rfl
    · wp_walk using wpAny_loadPart' hl, wpAny_loadPart' hb
      rw [h1, h2]
      wp_walk using wpAny_loadPart' hl, wpAny_loadPart' hb
      show R (.ok (.ret (.bool (xs.size == ys.size)))) _
      rw [hsz]
      simpa using h
    · wp_walk using wpAny_loadPart' hl, wpAny_loadPart' hb
      rw [h1, h2]
      wp_walk using wpAny_loadPart' hl, wpAny_loadPart' hb
      show R (.ok (.ret (.bool (xs.size != ys.size)))) _
      rw [hsz]
      simpa using h
  | succ k ih =>
    intro i hk A R s h
    obtain ⟨hp, g, d, tk, os⟩ := s; obtain ⟨hl, hb, he, h⟩ := h
    have lt1 : i < xs.size := by omega
    have lt2 : i < ys.size := by omega
    have h1 : xs[((i : Nat) : Int).toNat]? = some xs[i] := by simp [lt1]
    have h2 : ys[((i : Nat) : Int).toNat]? = some ys[i] := by simp [lt2]
    have hc : ((i : Int) + 1) = ((i + 1 : Nat) : Int) := by push_cast; rfl
    rcases hm with rfl | rfl
    · wp_walk using wpAny_loadPart' hl, wpAny_loadPart' hb
      rw [h1, h2]
      refine wpAny_bind (he i lt1 lt2 _ _ ?_)
      wp_walk
      rw [hc]
      exact ⟨plainId_quiet plain_eq_loop _, codeAny_builtin entry_eq_loop (by
        rw [Around.under_plainId plain_eq_loop _]
        exact ih (i + 1) (by omega) A R _ ⟨hl, hb, he, h⟩)⟩
    · wp_walk using wpAny_loadPart' hl, wpAny_loadPart' hb
      rw [h1, h2]
      refine wpAny_bind (he i lt1 lt2 _ _ ?_)
      wp_walk
      rw [hc]
      exact ⟨plainId_quiet plain_eq_loop _, codeAny_builtin entry_eq_loop (by
        rw [Around.under_plainId plain_eq_loop _]
        exact ih (i + 1) (by omega) A R _ ⟨hl, hb, he, h⟩)⟩
open AutoSeq1 (wpAny_loadPart') in
open MeetsSeq MeetsSeq2 MeetsSeq3 in
theorem alike_eq {P : Program} {w : World} {l b : Addr} {xs ys : Array Value} {n n2 : Nat} {dd dd2 : Option Addr} {sl sl2 : Array (Option Value)} (hsz : xs.size = ys.size) :
    MeetsIn P w (Builtin.«list.__eq__» ⟨[.ref l, .ref b], []⟩)
      (fun A R s => s.heap.get? l = some { cls := .type "list", dict := dd, data := .seq xs n, slots := sl } ∧ s.heap.get? b = some { cls := .type "list", dict := dd2, data := .seq ys n2, slots := sl2 } ∧
        (∀ j (h1 : j < xs.size) (h2 : j < ys.size), EqIn P w A.in1 s xs[j] ys[j]) ∧ R (.ok (.ret (.bool true))) s) := by
  intro A R s h
  obtain ⟨hp, g, d, tk, os⟩ := s; obtain ⟨hl, hb, he, h⟩ := h
  have f3 := AutoSeq1.sub_list_list
  have hne : ¬ (xs.size != ys.size) = true := by simp [hsz]
  wp_walk using wpAny_loadPart' hl, wpAny_loadPart' hb
  exact ⟨plainId_quiet plain_eq_loop _, codeAny_builtin entry_eq_loop (by
    rw [Around.under_plainId plain_eq_loop _]
    exact alike_loop hsz 2 (.inl rfl) _ 0 rfl A R _ ⟨hl, hb, he, h⟩)⟩
open AutoSeq1 (wpAny_loadPart') in
open MeetsSeq MeetsSeq2 MeetsSeq3 in
theorem alike_ne {P : Program} {w : World} {l b : Addr} {xs ys : Array Value} {n n2 : Nat} {dd dd2 : Option Addr} {sl sl2 : Array (Option Value)} (hsz : xs.size = ys.size) :
    MeetsIn P w (Builtin.«list.__ne__» ⟨[.ref l, .ref b], []⟩)
      (fun A R s => s.heap.get? l = some { cls := .type "list", dict := dd, data := .seq xs n, slots := sl } ∧ s.heap.get? b = some { cls := .type "list", dict := dd2, data := .seq ys n2, slots := sl2 } ∧
        (∀ j (h1 : j < xs.size) (h2 : j < ys.size), EqIn P w A.in1 s xs[j] ys[j]) ∧ R (.ok (.ret (.bool false))) s) := by
  intro A R s h
  obtain ⟨hp, g, d, tk, os⟩ := s; obtain ⟨hl, hb, he, h⟩ := h
  have f3 := AutoSeq1.sub_list_list
  have hne : ¬ (xs.size != ys.size) = true := by simp [hsz]
  wp_walk using wpAny_loadPart' hl, wpAny_loadPart' hb
  exact ⟨plainId_quiet plain_eq_loop _, codeAny_builtin entry_eq_loop (by
    rw [Around.under_plainId plain_eq_loop _]
    exact alike_loop hsz 3 (.inr rfl) _ 0 rfl A R _ ⟨hl, hb, he, h⟩)⟩
theorem lists_rc {X : Cx} {pins : List (Addr × Obj)} {σ : St} {H : Hp} {s : Shared} (I : Inv X pins σ H s) (hu : X.A.units + 64 < cLine) {a b : Addr} {xs ys : List V} (sq : SqL X.K H a xs) (sq' : SqL X.K H b ys) (hp : Paired (SameD X.K H) xs ys) {E : Value → Shared → Prop} {Q : Value → Shared → Prop} :
    (Q (.bool true) s → wpAny (model X.prog X.w) X.A (richCompare .Eq (.ref a) (.ref b)) Q E s) ∧ (Q (.bool false) s → wpAny (model X.prog X.w) X.A (richCompare .NotEq (.ref a) (.ref b)) Q E s) := by
  obtain ⟨its, rv, tp, _⟩ := I.list sq
  obtain ⟨its', rv', tp', _⟩ := I.list sq'
  have l1 := rv.length
  have l2 := rv'.length
  have m1 := Paired.length hp
  have hs : its.toArray.size = its'.toArray.size := by rw [List.size_toArray, List.size_toArray]; omega
  have hi := sames_eqIn (A := X.A.in1) I hp rv rv' (by rw [in1_units]; omega)
  obtain ⟨⟨cls, dd, data, sl⟩, ho, hc, n, hd⟩ := id tp.isList
  obtain ⟨⟨cls2, dd2, data2, sl2⟩, ho2, hc2, n2, hd2⟩ := id tp'.isList
  simp only at hc hd hc2 hd2
  subst hc hd hc2 hd2
  constructor
  · intro h
    exact wpAny_richCompare_same_room (op := .Eq) ⟨_, ho, rfl⟩ ⟨_, ho2, rfl⟩ F.slot_list_eq (call_meetsIn F.slot_list_eq ⟨_, ho, rfl⟩ F.entry_list_eq (F.args_list_eq_2 _ _) (alike_eq hs) ⟨ho, ho2, hi, (fun z => nomatch z), h⟩) (by omega)
  · intro h
    exact wpAny_richCompare_same_room (op := .NotEq) ⟨_, ho, rfl⟩ ⟨_, ho2, rfl⟩ F.slot_list_ne (call_meetsIn F.slot_list_ne ⟨_, ho, rfl⟩ F.entry_list_ne (F.args_list_ne_2 _ _) (alike_ne hs) ⟨ho, ho2, hi, (fun z => nomatch z), h⟩) (by omega)
theorem op_eqLD {X : Cx} (hu : X.A.units + 64 < cLine) : OpR X (compareOp .Eq) (rEqLD X.K false) := by
  intro pins s σ H x y v u Q I rx ry h
  obtain ⟨a, b, xs, ys, rfl, rfl, sq, sq', hp, q⟩ := h
  cases rx
  cases ry
  exact (lists_rc I hu sq sq' hp).1 ⟨.bl _, H, I, rfl, q⟩
end L2

end

section
set_option Elab.async false
set_option linter.all false
set_option maxRecDepth 100000
set_option maxHeartbeats 4000000
namespace L2
open PySem PySem.Spec PyProof.Rows
/-! ## d.update([(k, v), ..]) -/
section
variable {prog : Program} {w : World} {KT : Type} [DecidableEq KT] {knd : KeyKind prog w KT} {A : Around} {l d : Addr} {tps : List Addr} {prs D0 : List (KT × Value)} {s : Shared} {Q : Value → Shared → Prop} {E : Value → Shared → Prop} {n : Nat}
end
def tDUpd (td ty : TE) : TE := fun σ H Q => td σ H fun x H1 => ∃ a, x = .ref a ∧ IsD H1 a ∧ ty σ H1 fun y H2 => ∃ (l : Addr) (tps : List Addr) (kvs more : List (Key × V)), y = .ref l ∧ H2 a = some (.dK kvs) ∧ H2 l = some (.lst (tps.map V.ref)) ∧ Paired (fun t (q : Key × V) => H2 t = some (.tup [kV q.1, q.2])) tps more ∧ kvs.length + more.length ≤ sizeLine ∧ Q .non (upd H2 a (.dK (mergeK kvs more)))
section
variable {X : Cx} {o e : Expr} {apos cpos : Pos} {td ty : TE}
end
end L2
namespace L2
open PySem PySem.Spec PyProof.Rows
/-! ## closures: lambdas that a def makes and hands out -/
def tabOf (pos : Pos) (q : Str) : Array Value := #[rawInt pos.line, rawInt pos.col, .str q 0]
abbrev Fz (o : Obj) : HO := .frz o (.frz o (.own 0))
/-- a lambda as it stands: its function object, its code object -/
def Clo (H : Hp) (Pt fl : Addr) (q : Str) (la : Arguments) (lb : Expr) (ls : Scope) (clos : List (Str × Addr)) : Prop :=
  ∃ (pm ctv : Value) (c : Addr) (oc : Obj) (vs : Array Value) (tt : Nat), H fl = some (Fz (PySem.W.kla_obj "<lambda>" q la lb ls clos pm c ctv)) ∧ H c = some (.frz oc (.own Pt)) ∧ oc.data = .fields vs ∧ vs[1]? = some (.str q tt)
theorem Clo.mono {H H' : Hp} {Pt fl : Addr} {q : Str} {la : Arguments} {lb : Expr} {ls : Scope} {clos : List (Str × Addr)} (e : Same H H') (h : Clo H Pt fl q la lb ls clos) : Clo H' Pt fl q la lb ls clos := by
  obtain ⟨pm, ctv, c, oc, vs, tt, h1, h2, h3⟩ := h
  exact ⟨pm, ctv, c, oc, vs, tt, e _ _ h1, e _ _ h2, h3⟩
def CellAt (H : Hp) (c : Addr) (v : V) : Prop := ∃ o u, H c = some (Fz o) ∧ o.data = .cell (some u) ∧ RelV v u
theorem CellAt.mono {H H' : Hp} {c : Addr} {v : V} (e : Same H H') (h : CellAt H c v) : CellAt H' c v := by
  obtain ⟨o, u, h1, h2⟩ := h
  exact ⟨o, u, e _ _ h1, h2⟩
section
variable {X : Cx} {pins : List (Addr × Obj)} {σ : St} {H : Hp} {s : Shared} {Q : Value → Shared → Prop} {la : Arguments} {lb : Expr} {ls : Scope} {lp : Pos} {c Pt : Addr} {clos : List (Str × Addr)}
end
/-! ### the def that makes it: its cells are known behind it -/
open Classical in
noncomputable def addC (cells : List (Str × Addr)) (H : Hp) (h : Heap) : Hp := fun b => if ∃ x, cells.lookup x = some b then (h.get? b).map Fz else H b
section
variable {X : Cx} {pins : List (Addr × Obj)} {σ : St} {H : Hp} {s : Shared} {Q : VK}
end
/-- return lambda ..: at the values σ, the heap H -/
def LamW (X : Cx) (Pt : Addr) (Q : VK) (la : Arguments) (lb : Expr) (ls : Scope) (lp : Pos) (σ : St) (H : Hp) : Prop :=
  defaultsOf la X.env = ([], []) ∧ H Pt = some (.tbl (tabOf lp (X.env.qual ++ "<lambda>"))) ∧ ∃ clos, closureFor ls X.env = pure clos ∧
  ∀ fl H', Same H H' → H fl = none → Clo H' Pt fl (X.env.qual ++ "<lambda>") la lb ls clos → (∀ (i : Nat) (x : Str) (v : V) (c : Addr), X.N[i]? = some x → σ[i]? = some (some v) → X.env.scope.names.lookup x = some .cell → X.env.cells.lookup x = some c → H c = none ∧ CellAt H' c v) → Q (.ref fl) H'
inductive MkW (X : Cx) (Pt : Addr) (Q : VK) : List Stmt → St → Hp → Prop
  | last {la lb ls lp rp σ H rest} : LamW X Pt Q la lb ls lp σ H → MkW X Pt Q (.Return (some (.Lambda la lb ls lp)) rp :: rest) σ H
  | step {st rest σ H} (M : St → Hp → Prop) : WS X st { nx := M, rt := fun _ _ => False } σ H → (∀ σ' H', M σ' H' → MkW X Pt Q rest σ' H') → MkW X Pt Q (st :: rest) σ H
/-- a def whose lambda's table is at Pt -/
def LmIn (K : PySem.W.Frag) (fd : FuncData) (Pt : Addr) : Prop := ∃ c, fd.code = .ref c ∧ PySem.W.codeHdIn K c Pt = true
section
variable {P : Program} {w : World} {K : PySem.W.Frag} {mg : Str → Option Value} {base : Heap}
end
/-! ### calling a function object that a name holds -/
def Callee (P : Program) (w : World) (K : PySem.W.Frag) (mg : Str → Option Value) (base : Heap) (k : Nat) (f : Addr) (H : Hp) (vs : List V) (Q : VK) : Prop :=
  ∀ (A : Around) (outer : List Env) (s : Shared) (us : List Value), Room k A → Env0 P w K mg base A outer s H → Vals vs us → codeAny (model P w) A (.call (.ref f) ⟨us, []⟩) (CR CX0 outer P w H s Q E0) s
def FnO (H : Hp) (f : Addr) : Prop := ∃ oc od fd sl u, H f = some (.frz ⟨oc, od, .func fd, sl⟩ u)
theorem FnO.at {X : Cx} {pins : List (Addr × Obj)} {σ : St} {H : Hp} {s : Shared} {f : Addr} (I : Inv X pins σ H s) (h : FnO H f) : PySem.W.FnAt f s.heap := by
  obtain ⟨oc, od, fd, sl, u, e⟩ := h
  exact ⟨oc, od, fd, sl, (I.hok f _ e).1⟩
theorem Clo.fn {H : Hp} {Pt fl : Addr} {q : Str} {la : Arguments} {lb : Expr} {ls : Scope} {clos : List (Str × Addr)} (h : Clo H Pt fl q la lb ls clos) : FnO H fl := by
  obtain ⟨pm, ctv, c, oc, vs, tt, h1, _⟩ := h
  exact ⟨_, _, _, _, _, h1⟩
def tCallV (P : Program) (w : World) (K : PySem.W.Frag) (mg : Str → Option Value) (base : Heap) (k : Nat) (te : TE) (t : TA) : TE := fun σ H Q => te σ H fun x H1 => ∃ f, x = .ref f ∧ FnO H1 f ∧ t σ H1 fun vs H2 => FnO H2 f ∧ Callee P w K mg base k f H2 vs Q
/-! ### the lambda's body -/
def cxLam (P : Program) (w : World) (K : PySem.W.Frag) (mg : Str → Option Value) (base : Heap) (N : List Str) (q : Str) (scope : Scope) (f : Addr) (cd : Value) (cells : List (Str × Addr)) (A : Around) (outer : List Env) (s : Shared) (H : Hp) : Cx where
  prog := P
  w := w
  K := K
  mg := mg
  base := base
  A := A.deeper (PySem.W.envX q scope s.heap.objs.size f cd cells)
  N := N
  s₀ := s
  H₀ := H
  env := PySem.W.envX q scope s.heap.objs.size f cd cells
  outer := outer
  stack := PySem.W.envX q scope s.heap.objs.size f cd cells :: outer
  ex := []
  calm := true
  fn := fun _ => false
  pn := []
  xe := fun _ _ => False
def offL (H : Hp) (cells : List (Str × Addr)) : Hp := fun b => if b ∈ cells.map Prod.snd then none else H b
/-- what is not frozen is there still -/
def Soft : HO → Prop
  | .frz _ _ => False
  | _ => True
structure Lit (H : Hp) (ls : Scope) (clos : List (Str × Addr)) (fs : List Str) (fvs : List V) : Prop where
  cells : Paired (fun x v => ls.names.lookup x = some .free ∧ ∃ c, clos.lookup x = some c ∧ CellAt H c v) fs fvs
  all : ∀ p ∈ clos, p.1 ∈ fs
  one : (clos.map Prod.fst).Nodup
  apart : (clos.map Prod.snd).Nodup
theorem lookup_of_mem {β : Type} : ∀ {l : List (Str × β)} {p : Str × β}, (l.map Prod.fst).Nodup → p ∈ l → l.lookup p.1 = some p.2
  | [], _, _, h => by cases h
  | q :: r, p, nd, h => by
    have nd : (q.1 :: r.map Prod.fst).Nodup := nd
    obtain ⟨n1, n2⟩ := List.nodup_cons.mp nd
    rw [List.lookup_cons]
    rcases List.mem_cons.mp h with e | e
    · rw [e, beq_self_eq_true]
    · have : (p.1 == q.1) = false := by rw [beq_eq_false_iff_ne]; exact fun z => n1 (List.mem_map.mpr ⟨p, e, z⟩)
      rw [this]
      exact lookup_of_mem n2 e
theorem Lit.cell {H : Hp} {ls : Scope} {clos : List (Str × Addr)} {fs : List Str} {fvs : List V} (L : Lit H ls clos fs fvs) {p : Str × Addr} (hp : p ∈ clos) : ∃ v, CellAt H p.2 v := by
  obtain ⟨i, hi, e⟩ := List.getElem_of_mem (L.all p hp)
  obtain ⟨v, _, _, c, h1, h2⟩ := Paired.get L.cells (i := i) (a := p.1) (by rw [List.getElem?_eq_getElem hi, e])
  rw [lookup_of_mem L.one hp] at h1
  cases h1
  exact ⟨v, h2⟩
theorem Lit.mono {H H' : Hp} {ls : Scope} {clos : List (Str × Addr)} {fs : List Str} {fvs : List V} (e : Same H H') (L : Lit H ls clos fs fvs) : Lit H' ls clos fs fvs :=
  ⟨Paired.mapP L.cells fun _ _ ⟨h1, c, h2, h3⟩ => ⟨h1, c, h2, h3.mono e⟩, L.all, L.one, L.apart⟩
open Classical in
noncomputable def backL (H H' : Hp) (cells : List (Str × Addr)) : Hp := fun b => if b ∈ cells.map Prod.snd then H b else H' b
section
variable {P : Program} {w : World} {K : PySem.W.Frag} {mg : Str → Option Value} {base : Heap}
end
/-! ### the lambda of a def's last statement -/
def lamE (s : Stmt) : Expr := match (defBody s).getLast? with
  | some (.Return (some e) _) => e
  | _ => .Constant .none 0 ⟨0, 0, 0, 0⟩
def lamArgs : Expr → Arguments
  | .Lambda a _ _ _ => a
  | _ => { posonlyargs := [], args := [], vararg := none, kwonlyargs := [], kw_defaults := [], kwarg := none, defaults := [] }
def lamBody : Expr → Expr
  | .Lambda _ b _ _ => b
  | e => e
def lamScope : Expr → Scope
  | .Lambda _ _ s _ => s
  | _ => { kind := .function, names := [], isGenerator := false, isCoroutine := false }
def lamPos : Expr → Pos
  | .Lambda _ _ _ p => p
  | _ => ⟨0, 0, 0, 0⟩
end L2
namespace L2
open PySem PySem.Spec PyProof.Rows
/-! ## a law whose defs make lambdas: their tables are tracked from the entry -/
structure TabOkS (K : PySem.W.Frag) (h : Heap) (tabs : List (Addr × Array Value)) : Prop where
  cod : ∀ p ∈ tabs, ∃ c, PySem.W.codeHdIn K c p.1 = true
  emp : ∀ p ∈ tabs, h.get? p.1 = some (PySem.W.tabObj #[])
  shape : ∀ p ∈ tabs, ∃ pos q, p.2 = tabOf pos q
  nd : (tabs.map Prod.fst).Nodup
  nt : PySem.W.noTabs K = true
def spLawT (K : PySem.W.Frag) (tabs : List (Addr × Array Value)) : Sp := fun vs H Q _ => ∃ (a : Addr) (ns : List Int), vs = [.ref a] ∧ SqL K H a (ns.map V.int) ∧ ns.length ≤ 63 ∧ (∀ p ∈ tabs, H p.1 = some (.tbl p.2)) ∧ ∀ H', Q (.bl true) H'
end L2

end

section
set_option Elab.async false
set_option linter.all false
set_option maxRecDepth 100000
set_option maxHeartbeats 4000000
namespace L2
open PySem PySem.Spec PyProof.Rows
/-! ## x, y = a pair: the stores are exchanged -/
def tSwap (K : PySem.W.Frag) (te : TE) (i j : Nat) : TS := fun D σ H => te σ H fun v H1 => ∃ p u1 u2, v = .ref p ∧ SqT K H1 p [u1, u2] ∧ D.nx ((σ.set j (some u2)).set i (some u1)) H1
end L2

end

section
set_option Elab.async false
set_option linter.all false
set_option maxRecDepth 100000
set_option maxHeartbeats 4000000
namespace L2
open PySem PySem.Spec PyProof.Rows
/-! ## try with two handlers, of exceptions of any kept class -/
section
variable {X : Cx} {σ : St} {H : Hp}
theorem WS.try2 {x y : Str} {B1 B2 : Addr} {np1 np2 hpos1 hpos2 pos : Pos} {body suite1 suite2 : List Stmt} {b1 b2 : Stmt} {D : Ends} {Ex : XK} {R1 R2 : Hp → Prop} (hm1 : X.mg x = some (.ref B1)) (hm2 : X.mg y = some (.ref B2)) (kB1 : PySem.W.kitCls X.K (.ref B1) (.type "BaseException") = some true) (kB2 : PySem.W.kitCls X.K (.ref B2) (.type "BaseException") = some true) (hg1 : Gl X x) (hg2 : Gl X y)
    (hst : X.stack = X.env :: X.outer) (hfm : X.env.frame = some X.env.locals) (hcm : X.calm = true)
    (hE : ∀ cls dx H', Ex cls dx H' → ∃ C, cls = .ref C ∧ ((PySem.W.kitCls X.K (.ref C) (.ref B1) = some true ∧ R1 H') ∨ (PySem.W.kitCls X.K (.ref C) (.ref B1) = some false ∧ PySem.W.kitCls X.K (.ref C) (.ref B2) = some true ∧ R2 H')))
    (hb : ∀ pn xe, Passes (CXF X.prog X.w) (X.tried pn xe) Ex → WSs (X.tried pn xe) body D σ H) (hh1 : ∀ ea σ' H', R1 H' → WSs (X.caught ea) (b1 :: suite1) D σ' H') (hh2 : ∀ ea σ' H', R2 H' → WSs (X.caught ea) (b2 :: suite2) D σ' H')
    (hd1 : (x == ("__debug__" : Str)) = false := by decide) (hd2 : (y == ("__debug__" : Str)) = false := by decide) :
    WS X (.Try body [.ExceptHandler (some (.Name x np1)) none (b1 :: suite1) hpos1, .ExceptHandler (some (.Name y np2)) none (b2 :: suite2) hpos2] [] [] pos) D σ H := by
  refine ⟨fun pins s I => ?_⟩
  refine wpAny_Try_except ?_
  have pass : Passes (CXF X.prog X.w) (X.tried (X.pn ++ pins) fun e s₁ => wpAny (model X.prog X.w) X.A (noteFrame e X.env) (fun _ s₂ => wpAny (model X.prog X.w) X.A (setFlight e none) (fun _ s₃ => wpAny (model X.prog X.w) X.A (handleBy e X.env [.ExceptHandler (some (.Name x np1)) none (b1 :: suite1) hpos1, .ExceptHandler (some (.Name y np2)) none (b2 :: suite2) hpos2]) (SP X pins D) X.xe s₃) X.xe s₂) X.xe s₁) Ex := by
    intro pins' σ' H1 s1 e s2 I1 hc
    obtain ⟨ea, cls, dx, H2, rfl, os, bare, un, hok, ⟨a0, B, fl, pB⟩, hEx⟩ := hc
    obtain ⟨C, rfl, hR⟩ := hE _ _ _ hEx
    have IX : Inv X pins σ' H1 s1 := I1.tryOut
    have I2 : Inv X pins σ' H2 s2 := IX.call' os un hok bare (fun b z => absurd z (by simp))
    have fr : ∀ b ∈ frs X.stack, H2 b = none ∧ ∃ o, s2.heap.get? b = some o ∧ ∀ vs, o.data ≠ .fields vs := fun b hb => ⟨I2.stkFree b hb, (I2.stack.mem hb).2⟩
    have step : ∀ h', B.StaysIn h' → s2.heap.UpToSlots h' → Inv X pins σ' H2 { s2 with heap := h' } := fun h' st up =>
      let ⟨u, k⟩ := fly_un un hok fr st up pB
      IX.call' (s' := { s2 with heap := h' }) os u k bare (fun b z => absurd z (by simp))
    have fl : FlyX B (X.env :: X.outer) ea (.ref C) a0 dx .none s2.heap := by rw [← hst]; exact fl
    have hfr : X.A.frames = some (X.env :: X.outer) := by rw [← hst]; exact I2.ok.frames
    show wpAny (model X.prog X.w) X.A (noteFrame (.ref ea) X.env) _ _ s2
    refine noteX_next hfr hfm fl fun h₄ held₄ sm₄ => landX (s := { s2 with heap := h₄ }) held₄ fun h₅ fl₅ sm₅ => ?_
    have sm25 : s2.heap.UpToSlots h₅ := sm₄.trans sm₅
    have I5 := (step h₅ fl₅.1 sm25).catch ea
    obtain ⟨ob, hob, hobc, _⟩ := fl₅.there
    have hX := I.ok.hd hcm
    have fin : ∀ {b₀ : Stmt} {suite : List Stmt} {hpos : Pos} {E : Value → Shared → Prop}, (∀ ea σ' H', (H' = H2) → WSs (X.caught ea) (b₀ :: suite) D σ' H') → codeAny (model X.prog X.w) (X.A.mark (some (.ref ea))) (.handlers (.ref ea) [.ExceptHandler none none (b₀ :: suite) hpos] X.env) (fun r s₂ => match r with | .ok f => SP X pins D f s₂ | .error x => cameBackBy (model X.prog X.w) X.A X.env E x s₂) { s2 with heap := h₅ } := by
      intro b₀ suite hpos E hh
      refine codeAny_handlers_suite ?_
      refine landX (s := { s2 with heap := h₅ }) fl₅ fun h₆ fl₆ sm₆ => ?_
      have I6 := (step h₆ fl₆.1 (sm25.trans sm₆)).catch ea
      refine wpAny_mono ((hh ea σ' H2 rfl).run pins _ I6) (fun f s₃ q => ?_) fun _ _ z => False.elim z
      cases f with
      | next => obtain ⟨σ'', H'', J, q⟩ := q; exact ⟨σ'', H'', J.uncatch hX, q⟩
      | brk => obtain ⟨σ'', H'', J, q⟩ := q; exact ⟨σ'', H'', J.uncatch hX, q⟩
      | cont => obtain ⟨σ'', H'', J, q⟩ := q; exact ⟨σ'', H'', J.uncatch hX, q⟩
      | ret u => obtain ⟨v, σ'', H'', J, r, q⟩ := q; exact ⟨v, σ'', H'', J.uncatch hX, r, q⟩
    refine wpAny_handleBy_cons (codeAny_handlers_test (ld_glob I5 hg1 hm1 ?_ hd1)) (by intro q; cases q)
    rcases hR with ⟨k1, hR⟩ | ⟨k1, k2, hR⟩
    · exact excMatches_K I5.kIn hob hobc kB1 k1 (fin fun ea σ' H' e => hh1 ea σ' H' (e ▸ hR))
    · refine excMatches_K I5.kIn hob hobc kB1 k1 ?_
      show wpAny (model X.prog X.w) X.A (handleBy (.ref ea) X.env [.ExceptHandler (some (.Name y np2)) none (b2 :: suite2) hpos2]) _ _ { s2 with heap := h₅ }
      refine wpAny_handleBy_cons (codeAny_handlers_test (ld_glob I5 hg2 hm2 ?_ hd2)) (by intro q; cases q)
      exact excMatches_K I5.kIn hob hobc kB2 k2 (fin fun ea σ' H' e => hh2 ea σ' H' (e ▸ hR))
  refine wpAny_mono ((hb _ _ pass).run [] s (I.tryIn _)) (fun f s₁ q => ?_) fun e s₁ z => z
  cases f with
  | next =>
    obtain ⟨σ', H', J, q⟩ := q
    exact wpAny_execs_nil ⟨σ', H', J.tryOut, q⟩
  | brk => obtain ⟨σ', H', J, q⟩ := q; exact ⟨σ', H', J.tryOut, q⟩
  | cont => obtain ⟨σ', H', J, q⟩ := q; exact ⟨σ', H', J.tryOut, q⟩
  | ret u => obtain ⟨v, σ', H', J, r, q⟩ := q; exact ⟨v, σ', H', J.tryOut, r, q⟩
end
/-! ## isinstance(e, C) of a caught exception without a dict -/
def rIsiN (K : PySem.W.Frag) : List V → Hp → VK → Prop := fun xs H Q => ∃ e C c b, xs = [.ref e, c] ∧ H e = some (ExcC e C none) ∧ XG K C ∧ ((∃ n, c = .ty n ∧ PySem.W.kitOne K (.ref C) (.type n) = some b) ∨ (∃ a, c = .ref a ∧ PySem.W.kitOne K (.ref C) (.ref a) = some b)) ∧ Q (.bl b) H
theorem call_isiN {X : Cx} : CallR X (.builtin "isinstance") (rIsiN X.K) := by
  intro pins s σ H xs us Q I r h
  obtain ⟨e, C, c, b, rfl, he, g, k, q⟩ := h
  obtain ⟨u, w', rfl, rx, rw'⟩ := vals2 r
  obtain rfl : u = Value.ref e := rx
  obtain ⟨o, vs, ho, oc, od, odt⟩ := ExcC.at I.hok he
  have J : PySem.W.InstAt s.heap e o C none := ⟨ho, oc, by unfold PySem.W.notCls; rw [odt], by rw [od]; trivial⟩
  have Z : PySem.W.KitX X.K (.ref e) (.ref C) (fun h => PySem.W.InstAt h e o C none) := kitx_exc g.xa g.hc g.cl g.cg g.ct g.ob
  rcases k with ⟨n', rfl, k⟩ | ⟨a, rfl, k⟩
  · cases rw'
    exact PySem.W.kia_one Z I.kIn J k (fun z => nomatch z) fun tk => ⟨.bl b, H, I.tok tk, rfl, q⟩
  · cases rw'
    exact PySem.W.kia_one Z I.kIn J k (fun z => nomatch z) fun tk => ⟨.bl b, H, I.tok tk, rfl, q⟩
/-! ## [b, c, ..].count(True) -/
def rCountB : V → List V → Hp → VK → Prop := fun x vs H Q => ∃ (l : Addr) (bs : List Bool) (b : Bool), x = .ref l ∧ vs = [.bl b] ∧ H l = some (.lst (bs.map V.bl)) ∧ Q (.int (bs.countP (fun c => c == b) : Nat)) H
theorem bls_of : ∀ {bs : List Bool} {us : List Value}, Vals (bs.map V.bl) us → us = bs.map Value.bool
  | [], _, .nil => rfl
  | b :: bs, _, .cons r t => by
    rw [bls_of t]
    cases r
    rfl
def isB (b : Bool) : Value → Bool
  | .bool c => c == b
  | _ => false
theorem mt_countB {X : Cx} : MtR X "list.count" rCountB := by
  intro pins s σ H x vs v us Q I rx rv h
  obtain ⟨l, bs, b, rfl, rfl, hH, q⟩ := h
  cases rx
  obtain ⟨u, rfl, ru⟩ := rv.one
  cases ru
  obtain ⟨z, its, n, r, hl, e⟩ := I.lstM hH
  obtain rfl := bls_of r
  refine call_meets F.slot_list_count ⟨_, e, rfl⟩ F.entry_list_count (F.args_list_count_2 _ _) (SeqAt.list_countAt l _ n _ _ (.bool b) (isB b)) ⟨e, fun y hy => ?_, ?_⟩
  · have hy : y ∈ bs.map Value.bool := by simpa using hy
    obtain ⟨c, _, rfl⟩ := List.mem_map.mp hy
    exact SeqAt.EqAt.bool_bool c b
  · refine ⟨.int _, H, I.tok _, ⟨_, rfl⟩, ?_⟩
    have : List.countP (isB b) (bs.map Value.bool).toArray.toList = bs.countP (fun c => c == b) := by
      rw [List.toList_toArray, List.countP_map]
      rfl
    rw [this]
    exact q
theorem pe_const {X : Cx} {x v : Str} {pos : Pos} (hg : Gl X x) (h : ∃ tk, X.mg x = some (.str v tk)) (hd : (x == ("__debug__" : Str)) = false := by decide) : PE X (.Name x pos) (tC (.str v)) := by
  obtain ⟨tk, h⟩ := h
  exact pe_glob hg h ⟨tk, rfl⟩ hd
/-! ## a list among texts -/
def rNotInO (K : PySem.W.Frag) : R2 := fun x y H Q => ∃ (p l : Addr) (xs : List V) (ss : List Str), x = .ref l ∧ y = .ref p ∧ SqL K H p (ss.map V.str) ∧ SqL K H l xs ∧ Q (.bl true) H
theorem op_notInO {X : Cx} (hu : X.A.units + 64 < cLine) : OpR X (compareOp .NotIn) (rNotInO X.K) := by
  intro pins s σ H x y v u Q I rx ry h
  obtain ⟨p, l, xs, ss, rfl, rfl, hq, hl, q⟩ := h
  cases ry
  cases rx
  obtain ⟨its, r, pl, hz⟩ := I.list hq
  obtain ⟨its', r', pl', hz'⟩ := I.list hl
  have hS := strs_of r
  refine SeqAt.notIn_listAt (fun _ => false) pl.isList (fun w hw => ?_) ⟨.bl _, H, I, rfl, ?_⟩
  · have hw : w ∈ its := by simpa using hw
    have all : ∀ {ss : List Str} {its : List Value}, StrsAre its ss → ∀ w ∈ its, ∃ x t, w = .str x t := fun h => by
      induction h with
      | nil => intro w hw; cases hw
      | cons x t _ ih =>
        intro w hw
        rcases List.mem_cons.mp hw with z | z
        · exact ⟨_, _, z⟩
        · exact ih w z
    obtain ⟨x, t, rfl⟩ := all hS w hw
    exact SeqAt.EqAt.str_list x t pl'.isList (by rw [in1_units]; omega)
  · rw [show its.toArray.any (fun _ => false) = false by simp]
    exact q
def rNotInZ (K : PySem.W.Frag) : R2 := fun x y H Q => rNotInY K x y H Q ∨ rNotInO K x y H Q
theorem oNotInZ {X : Cx} {k : Nat} (hr : Room k X.A) : OpR X (compareOp .NotIn) (rNotInZ X.K) := (oNotInY hr).or (op_notInO hr.units)
/-! ## sorted texts are one -/
theorem pw_of_rising : ∀ {p : Str} {l : List Str}, risingS p l = true → (p :: l).Pairwise (fun a b => ltCps b.cps.toList a.cps.toList = false)
  | p, [], _ => by simp
  | p, x :: r, h => by
    rw [show risingS p (x :: r) = (!ltCps x.cps.toList p.cps.toList && risingS x r) from rfl, Bool.and_eq_true, Bool.not_eq_true'] at h
    have ih := pw_of_rising h.2
    refine List.pairwise_cons.mpr ⟨fun b hb => ?_, ih⟩
    rcases List.mem_cons.mp hb with z | z
    · rw [z]; exact h.1
    · have h2 := List.rel_of_pairwise_cons ih z
      have h1 := h.1
      rw [ltCps_eq, decide_eq_false_iff_not] at h1 h2 ⊢
      exact List.not_lt.mpr (List.le_trans (List.not_lt.mp h1) (List.not_lt.mp h2))
theorem sorted_one {l l' : List Str} (h : sortedS l = true) (h' : sortedS l' = true) (p : l.Perm l') : l = l' := by
  have pw : ∀ {l : List Str}, sortedS l = true → l.Pairwise (fun a b => ltCps b.cps.toList a.cps.toList = false) := fun {l} h => by
    cases l with
    | nil => exact .nil
    | cons x r => exact pw_of_rising h
  refine p.eq_of_pairwise (fun a b _ _ h1 h2 => ?_) (pw h) (pw h')
  rw [ltCps_eq, decide_eq_false_iff_not] at h1 h2
  have e := List.le_antisymm (List.not_lt.mp h1) (List.not_lt.mp h2)
  cases a; cases b
  simpa using Array.toList_inj.mp e
/-- x is True -/
theorem op_isB {X : Cx} : OpR X (compareOp .Is) (fun x y H Q => ∃ b c, x = .bl b ∧ y = .bl c ∧ Q (.bl (b == c)) H) := by
  intro pins s σ H x y v u Q I rx ry h
  obtain ⟨b, c, rfl, rfl, q⟩ := h
  cases rx
  cases ry
  exact PyProof.Rows.is_bool ⟨.bl (b == c), H, I, rfl, q⟩
end L2

end

section
set_option Elab.async false
set_option linter.all false
set_option maxRecDepth 100000
set_option maxHeartbeats 4000000
namespace NM
def tA : List Int := [0, 1035609595, 1591546621, 1776858963, 1869515134, 207121919, 1962171305, 454727606, 934757567, 592286321, 1177302783, 484597899, 2054827476, 1896763824, 227363803, 784868522, 1541120607, 2082079291, 1369884984, 958709409, 1662393215, 867403751, 1316040773, 418501921, 1027413738, 1329914572, 948381912, 913256656, 1187423725, 1664836201, 392434261, 1903795744, 1844302127, 161532633, 2114781469, 949938980, 684942492, 1304871617, 1553096528, 632254608, 1904938431, 1177567069, 1507443699, 923030587, 1731762210, 977450723, 1282992784, 1986753328, 513706869, 985311221, 664957286, 2125682195, 474190956, 1235096585, 456628328, 1385409768, 1667453686, 319569803, 1906159924, 17552705, 1269958954, 1073116705, 951897872, 1004962466]
def tB : List Int := [0, 1073741815, 1610612722, 1789569691, 805306361, 214748363, 1968526660, 766958439, 1476394995, 2028178983, 1181115996, 1268967599, 984263330, 412977621, 1457221034, 787410664, 1811939312, 1831677213, 2087831306, 1412818177, 590557998, 255652813, 1708225614, 1820692642, 492131665, 1331439850, 1280230625, 676059661, 728610517, 1369946453, 393705332, 381005160, 905969656, 1138817076, 1989580421, 1871378591, 1043915653, 1421982403, 1780150903, 137659207, 295278999, 1126119464, 1201568221, 1173624774, 854112807, 1694125974, 910346321, 525448122, 1319807647, 1029915618, 665719925, 610559071, 1713857127, 1600483082, 1411771645, 1971780423, 1438047073, 1902595145, 1758715041, 1401324063, 196852666, 1637016209, 190502580, 1516873357]
theorem tA_ok : ∀ l : Nat, l < 64 → 1 ≤ l → (7919 * 48271 * (l : Int)) * tA.getD l 0 % 2147483647 = 1 := by decide +kernel
theorem tB_ok : ∀ l : Nat, l < 64 → 1 ≤ l → (2 * (l : Int)) * tB.getD l 0 % 2147483629 = 1 := by decide +kernel
def mix (c k : Int) : Int := ((c + 7919 * k) * 48271 % 2147483647) * ((c + 7919 * k) * 48271 % 2147483647 + 2 * k + 1) % 2147483629
theorem one_of {a m : Int} (h : a % m = 1) : ∃ y, a = 1 + m * y := ⟨a / m, by have := Int.emod_add_mul_ediv a m; omega⟩
theorem hit (len i k0 : Nat) (h1 : 1 ≤ len) (h2 : len ≤ 63) (hi : i < len) (c v : Int) (hv0 : 0 ≤ v) (hv : v < 2147483629) : ∃ k : Nat, k0 ≤ k ∧ k % len = i ∧ mix c k = v := by
  obtain ⟨y, hy⟩ := one_of (tA_ok len (by omega) h1)
  obtain ⟨z, hz⟩ := one_of (tB_ok len (by omega) h1)
  generalize tA.getD len 0 = a at hy
  generalize tB.getD len 0 = b at hz
  have hW : (2147483647 : Int) * 2028178983 = 1 + 2147483629 * 2028179000 := by decide
  -- the two wishes
  obtain ⟨t1, ht1⟩ : ∃ t1, t1 = a * (1 - (c + 7919 * (i : Int)) * 48271) := ⟨_, rfl⟩
  obtain ⟨t2, ht2⟩ : ∃ t2, t2 = b * (v - 2 - 2 * (i : Int)) := ⟨_, rfl⟩
  obtain ⟨t, ht⟩ : ∃ t, t = t1 + 2147483647 * (2028178983 * (t2 - t1)) := ⟨_, rfl⟩
  have hp : (0 : Int) < 2147483647 * 2147483629 := by decide
  have m0 := Int.emod_nonneg t (Int.ne_of_gt hp)
  have m1 := Int.emod_add_mul_ediv t (2147483647 * 2147483629)
  obtain ⟨T, hT⟩ : ∃ T : Nat, (T : Int) = t % (2147483647 * 2147483629) + 2147483647 * 2147483629 * (k0 : Int) := by
    refine ⟨(t % (2147483647 * 2147483629) + 2147483647 * 2147483629 * (k0 : Int)).toNat, ?_⟩
    rw [Int.toNat_of_nonneg]
    have : (0 : Int) ≤ 2147483647 * 2147483629 * (k0 : Int) := Int.mul_nonneg (Int.le_of_lt hp) (Int.natCast_nonneg _)
    omega
  obtain ⟨x, hx⟩ : ∃ x, (T : Int) = t + 2147483647 * 2147483629 * x := ⟨(k0 : Int) - t / (2147483647 * 2147483629), by grind⟩
  have hTk : k0 ≤ T := by omega
  refine ⟨i + len * T, ?_, ?_, ?_⟩
  · have : 1 * T ≤ len * T := Nat.mul_le_mul_right T h1
    omega
  · rw [Nat.add_mul_mod_self_left, Nat.mod_eq_of_lt hi]
  · have e1 : (c + 7919 * ((i + len * T : Nat) : Int)) * 48271 = 1 + 2147483647 * (y * (1 - (c + 7919 * (i : Int)) * 48271) + (7919 * 48271 * (len : Int)) * (2028178983 * (t2 - t1) + 2147483629 * x)) := by
      push_cast
      grind
    have n1 : (c + 7919 * ((i + len * T : Nat) : Int)) * 48271 % 2147483647 = 1 := by
      rw [e1, Int.add_mul_emod_self_left]
      decide
    unfold mix
    rw [n1]
    have e2 : (1 : Int) * (1 + 2 * ((i + len * T : Nat) : Int) + 1) = v + 2147483629 * (z * (v - 2 - 2 * (i : Int)) + (2 * (len : Int)) * (2028179000 * (t2 - t1) + 2147483647 * x)) := by
      push_cast
      grind
    rw [e2, Int.add_mul_emod_self_left, Int.emod_eq_of_lt hv0 hv]
end NM
/-! ## the laws' own names: what they are, and that there are enough of them -/
namespace NM
open PySem L2
def letL : List Nat := [97, 98, 99, 100, 101, 102, 103, 104, 105, 106, 107, 108, 109, 110, 111, 112, 113, 114, 115, 116, 117, 118, 119, 120, 121, 122]
def sgL : List Nat := letL ++ [48, 49, 50, 51, 52, 53, 54, 55, 56, 57]
theorem let_eq : ("abcdefghijklmnopqrstuvwxyz" : Str).cps.toList = letL := by decide +kernel
theorem let_len : ("abcdefghijklmnopqrstuvwxyz" : Str).length = 26 := by decide +kernel
def sgAt (m : Int) (k : Nat) : Nat := sgL.getD ((m / 6 + 7 * (k : Int)) / ((k : Int) + 1) % 36).toNat 0
def nameSt (n : Int) (j : Nat) : List Nat := letL.getD (n % 26).toNat 0 :: (List.range j).map (sgAt (n / 26))
def nameOf (n : Int) : Str := ⟨(nameSt n (n / 26 % 6).toNat).toArray⟩
/-- the law's number at a place: the script's ints, from the front again and again -/
def mixL (ns : List Int) (k : Nat) : Int := mix (if ns.length = 0 then 0 else ns.getD (k % ns.length) 0) k
theorem hitL (ns : List Int) (h : ns.length ≤ 63) (v : Int) (hv0 : 0 ≤ v) (hv : v < 2147483629) (k0 : Nat) : ∃ k, k0 ≤ k ∧ mixL ns k = v := by
  by_cases hz : ns.length = 0
  · obtain ⟨k, h1, _, h3⟩ := hit 1 0 k0 (by decide) (by decide) (by decide) 0 v hv0 hv
    exact ⟨k, h1, by unfold mixL; rw [if_pos hz]; exact h3⟩
  · obtain ⟨k, h1, h2, h3⟩ := hit ns.length 0 k0 (by omega) h (by omega) (ns.getD 0 0) v hv0 hv
    exact ⟨k, h1, by unfold mixL; rw [if_neg hz, h2]; exact h3⟩
/-- the first of each -/
def uniq (f : Nat → Str) : Nat → List Str
  | 0 => []
  | n + 1 => if f n ∈ uniq f n then uniq f n else uniq f n ++ [f n]
theorem uniq_mem (f : Nat → Str) : ∀ n k, k < n → f k ∈ uniq f n
  | 0, _, h => absurd h (Nat.not_lt_zero _)
  | n + 1, k, h => by
    unfold uniq
    by_cases e : k = n
    · subst e
      split
      · rename_i h; exact h
      · simp
    · have := uniq_mem f n k (by omega)
      split
      · exact this
      · exact List.mem_append_left _ this
theorem len_of_sub : ∀ {l m : List Str}, l.Nodup → (∀ x ∈ l, x ∈ m) → l.length ≤ m.length
  | [], _, _, _ => Nat.zero_le _
  | x :: l, m, h, s => by
    have h' := List.nodup_cons.mp h
    have hm : x ∈ m := s x List.mem_cons_self
    have q := len_of_sub (l := l) (m := m.erase x) h'.2 (fun y hy => by
      have hy2 := s y (List.mem_cons_of_mem _ hy)
      have ne : y ≠ x := fun z => h'.1 (by rw [← z]; exact hy)
      exact (List.mem_erase_of_ne ne).mpr hy2)
    rw [List.length_erase_of_mem hm] at q
    have : 0 < m.length := List.length_pos_of_mem hm
    rw [List.length_cons]
    omega
def wishes : List Int := (List.range 78).map fun i => 26 * (1 + 6 * ((i / 26 : Nat) : Int)) + ((i % 26 : Nat) : Int)
theorem wishes_nodup : (wishes.map nameOf).Nodup := by decide +kernel
theorem wishes_ok : ∀ v ∈ wishes, 0 ≤ v ∧ v < 2147483629 := by decide +kernel
theorem reach (ns : List Int) (h : ns.length ≤ 63) (k0 : Nat) : ∃ J, 78 ≤ (uniq (fun j => nameOf (mixL ns (k0 + j))) J).length := by
  have all : ∀ l : List Int, (∀ v ∈ l, 0 ≤ v ∧ v < 2147483629) → ∃ J, ∀ v ∈ l, ∃ j, j < J ∧ nameOf (mixL ns (k0 + j)) = nameOf v := by
    intro l
    induction l with
    | nil => intro _; exact ⟨0, fun v hv => by cases hv⟩
    | cons v l ih =>
      intro hl
      obtain ⟨J, hJ⟩ := ih fun x hx => hl x (List.mem_cons_of_mem _ hx)
      obtain ⟨v0, v1⟩ := hl v List.mem_cons_self
      obtain ⟨k, hk, e⟩ := hitL ns h v v0 v1 k0
      refine ⟨max J (k - k0 + 1), fun x hx => ?_⟩
      rcases List.mem_cons.mp hx with rfl | hx
      · refine ⟨k - k0, by omega, ?_⟩
        rw [show k0 + (k - k0) = k by omega, e]
      · obtain ⟨j, h1, h2⟩ := hJ x hx
        exact ⟨j, by omega, h2⟩
  obtain ⟨J, hJ⟩ := all wishes wishes_ok
  refine ⟨J, ?_⟩
  have q := len_of_sub wishes_nodup (m := uniq (fun j => nameOf (mixL ns (k0 + j))) J) fun x hx => by
    obtain ⟨v, hv, rfl⟩ := List.mem_map.mp hx
    obtain ⟨j, h1, h2⟩ := hJ v hv
    have := uniq_mem (fun j => nameOf (mixL ns (k0 + j))) J j h1
    rwa [h2] at this
  simpa [wishes] using q
end NM

end

section
set_option Elab.async false
set_option linter.all false
set_option maxRecDepth 100000
set_option maxHeartbeats 4000000
namespace K51
open PySem L2 NM
def top (i : Nat) : Stmt := PySem.Challenge.pw_yardkeep_k51_eyes.main.body.getD i (.Pass ⟨0, 0, 0, 0⟩)
abbrev s_Eyes___init__ : Stmt := inClass (top 7) 0
theorem sc_Eyes___init__ : FnScope ["self", "names"] ["self", "names"] (defScope s_Eyes___init__) := ⟨rfl, rfl, rfl, by decide +kernel, rfl, by decide +kernel, by decide +kernel⟩
abbrev s_Eyes_fail : Stmt := inClass (top 7) 1
theorem sc_Eyes_fail : FnScope ["self", "part", "way"] ["self", "part", "way"] (defScope s_Eyes_fail) := ⟨rfl, rfl, rfl, by decide +kernel, rfl, by decide +kernel, by decide +kernel⟩
abbrev s_Eyes_mend : Stmt := inClass (top 7) 2
theorem sc_Eyes_mend : FnScope ["self"] ["self"] (defScope s_Eyes_mend) := ⟨rfl, rfl, rfl, by decide +kernel, rfl, by decide +kernel, by decide +kernel⟩
abbrev s_Eyes_fault : Stmt := inClass (top 7) 3
theorem sc_Eyes_fault : FnScope ["self"] ["self"] (defScope s_Eyes_fault) := ⟨rfl, rfl, rfl, by decide +kernel, rfl, by decide +kernel, by decide +kernel⟩
abbrev s_Eyes_tells : Stmt := inClass (top 7) 4
theorem sc_Eyes_tells : FnScope ["self", "taken", "told"] ["self", "taken"] (defScope s_Eyes_tells) := ⟨rfl, rfl, rfl, by decide +kernel, rfl, by decide +kernel, by decide +kernel⟩
abbrev s__law_mixed : Stmt := top 9
theorem sc__law_mixed : FnScope ["_law_cell", "_law_k", "_law_left"] ["_law_cell", "_law_k"] (defScope s__law_mixed) := ⟨rfl, rfl, rfl, by decide +kernel, rfl, by decide +kernel, by decide +kernel⟩
abbrev s__law_cell_at : Stmt := top 10
theorem sc__law_cell_at : FnScope ["_law_script", "_law_k"] ["_law_script", "_law_k"] (defScope s__law_cell_at) := ⟨rfl, rfl, rfl, by decide +kernel, rfl, by decide +kernel, by decide +kernel⟩
abbrev s__law_names : Stmt := top 11
theorem sc__law_names : FnScope ["_law_cell", "_law_many", "_law_letters", "_law_found", "_law_k", "_law_draw", "_law_name", "_law_at"] ["_law_cell", "_law_many"] (defScope s__law_names) := ⟨rfl, rfl, rfl, by decide +kernel, rfl, by decide +kernel, by decide +kernel⟩
abbrev s__law_failed : Stmt := top 12
theorem sc__law_failed : FnScope ["_law_eyes", "_law_part", "_law_way"] ["_law_eyes", "_law_part", "_law_way"] (defScope s__law_failed) := ⟨rfl, rfl, rfl, by decide +kernel, rfl, by decide +kernel, by decide +kernel⟩
abbrev s__law_failed_by_any : Stmt := top 13
theorem sc__law_failed_by_any : FnScope ["_law_eyes", "_law_part", "_law_way", "e"] ["_law_eyes", "_law_part", "_law_way"] (defScope s__law_failed_by_any) := ⟨rfl, rfl, rfl, by decide +kernel, rfl, by decide +kernel, by decide +kernel⟩
abbrev s__law_fail : Stmt := top 14
theorem sc__law_fail : FnScope ["_law_eyes", "_law_names_here", "_law_cell", "_law_wrong", "_law_part", "_law_way"] ["_law_eyes", "_law_names_here", "_law_cell", "_law_wrong"] (defScope s__law_fail) := ⟨rfl, rfl, rfl, by decide +kernel, rfl, by decide +kernel, by decide +kernel⟩
abbrev s__law_told : Stmt := top 15
theorem sc__law_told : FnScope ["_law_eyes", "_law_names_here", "_law_cell", "_law_wrong", "_law_held", "_law_taken", "_law_k", "_law_name", "_law_draw", "_law_due", "_law_handed", "_law_found"] ["_law_eyes", "_law_names_here", "_law_cell", "_law_wrong", "_law_held"] (defScope s__law_told) := ⟨rfl, rfl, rfl, by decide +kernel, rfl, by decide +kernel, by decide +kernel⟩
abbrev s_law : Stmt := top 16
theorem sc_law : FnScope ["_law_script", "_law_names_here", "_law_handed", "_law_eyes", "_law_wrong", "_law_held", "_law_k", "_law_cell"] ["_law_script"] (defScope s_law) := ⟨rfl, rfl, rfl, by decide +kernel, rfl, by decide +kernel, by decide +kernel⟩
structure Tx (K : PySem.W.Frag) (mg : Str → Option Value) where
  d_Eyes___init__ : Dn K "__init__" "Eyes.__init__" s_Eyes___init__ ["self", "names"]
  d_Eyes_fail : Dn K "fail" "Eyes.fail" s_Eyes_fail ["self", "part", "way"]
  d_Eyes_mend : Dn K "mend" "Eyes.mend" s_Eyes_mend ["self"]
  d_Eyes_fault : Dn K "fault" "Eyes.fault" s_Eyes_fault ["self"]
  d_Eyes_tells : Dn K "tells" "Eyes.tells" s_Eyes_tells ["self", "taken"]
  d__law_mixed : Dn K "_law_mixed" "_law_mixed" s__law_mixed ["_law_cell", "_law_k"]
  m__law_mixed : mg "_law_mixed" = some (.ref d__law_mixed.f)
  d__law_cell_at : Dn K "_law_cell_at" "_law_cell_at" s__law_cell_at ["_law_script", "_law_k"]
  m__law_cell_at : mg "_law_cell_at" = some (.ref d__law_cell_at.f)
  d__law_names : Dn K "_law_names" "_law_names" s__law_names ["_law_cell", "_law_many"]
  m__law_names : mg "_law_names" = some (.ref d__law_names.f)
  d__law_failed : Dn K "_law_failed" "_law_failed" s__law_failed ["_law_eyes", "_law_part", "_law_way"]
  m__law_failed : mg "_law_failed" = some (.ref d__law_failed.f)
  d__law_failed_by_any : Dn K "_law_failed_by_any" "_law_failed_by_any" s__law_failed_by_any ["_law_eyes", "_law_part", "_law_way"]
  m__law_failed_by_any : mg "_law_failed_by_any" = some (.ref d__law_failed_by_any.f)
  d__law_fail : Dn K "_law_fail" "_law_fail" s__law_fail ["_law_eyes", "_law_names_here", "_law_cell", "_law_wrong"]
  m__law_fail : mg "_law_fail" = some (.ref d__law_fail.f)
  d__law_told : Dn K "_law_told" "_law_told" s__law_told ["_law_eyes", "_law_names_here", "_law_cell", "_law_wrong", "_law_held"]
  m__law_told : mg "_law_told" = some (.ref d__law_told.f)
  CEyes : Addr
  mEyes : mg "Eyes" = some (.ref CEyes)
  clEyes : Cls K CEyes
  nEyes_watched : NoAttr K CEyes "watched"
  nEyes_faulty : NoAttr K CEyes "faulty"
  mkEyes : Mk K CEyes d_Eyes___init__.f
  mtEyes_fail : Meth K CEyes "fail" d_Eyes_fail.f
  mtEyes_mend : Meth K CEyes "mend" d_Eyes_mend.f
  mtEyes_fault : Meth K CEyes "fault" d_Eyes_fault.f
  mtEyes_tells : Meth K CEyes "tells" d_Eyes_tells.f
  CYardError : Addr
  mYardError : mg "YardError" = some (.ref CYardError)
  CBadName : Addr
  mBadName : mg "BadName" = some (.ref CBadName)
  COneFault : Addr
  mOneFault : mg "OneFault" = some (.ref COneFault)
  n_len : mg "len" = none
  n_range : mg "range" = none
  n_isinstance : mg "isinstance" = none
  n_list : mg "list" = none
  n_dict : mg "dict" = none
  n_str : mg "str" = none
  n_min : mg "min" = none
  n_sorted : mg "sorted" = none
  n_enumerate : mg "enumerate" = none
  n_ValueError : mg "ValueError" = none
  kBB : PySem.W.kitOne K (.ref CBadName) (.type "BaseException") = some true
  kOB : PySem.W.kitOne K (.ref COneFault) (.type "BaseException") = some true
  kYB : PySem.W.kitOne K (.ref CYardError) (.type "BaseException") = some true
  cBB : PySem.W.kitCls K (.ref CBadName) (.ref CBadName) = some true
  cOB : PySem.W.kitCls K (.ref COneFault) (.ref CBadName) = some false
  cOO : PySem.W.kitCls K (.ref COneFault) (.ref COneFault) = some true
  cBY : PySem.W.kitCls K (.ref CBadName) (.ref CYardError) = some true
  cOY : PySem.W.kitCls K (.ref COneFault) (.ref CYardError) = some true
  kBV : PySem.W.kitOne K (.ref CBadName) (.type "ValueError") = some true
  kOV : PySem.W.kitOne K (.ref COneFault) (.type "ValueError") = some true
  iBB : PySem.W.kitOne K (.ref CBadName) (.ref CBadName) = some true
  iBO : PySem.W.kitOne K (.ref CBadName) (.ref COneFault) = some false
  iOB : PySem.W.kitOne K (.ref COneFault) (.ref CBadName) = some false
  iOO : PySem.W.kitOne K (.ref COneFault) (.ref COneFault) = some true
  x_YardError : OwnIn K mg "YardError" CYardError [.type "ValueError", .type "Exception", .type "BaseException", .type "object"] "ValueError.__new__"
  x_BadName : OwnIn K mg "BadName" CBadName [.type "ValueError", .type "Exception", .type "BaseException", .type "object"] "ValueError.__new__"
  x_OneFault : OwnIn K mg "OneFault" COneFault [.type "ValueError", .type "Exception", .type "BaseException", .type "object"] "ValueError.__new__"
  c_BLIND : ∃ tk, mg "BLIND" = some (.str "blind" tk)
  c_STUCK : ∃ tk, mg "STUCK" = some (.str "stuck" tk)
  g_BadName : XG K CBadName
  g_OneFault : XG K COneFault
section
variable {P : Program} {w : World} {K : PySem.W.Frag} {mg : Str → Option Value} {base : Heap}
seal PySem.wpAny
/-! ### ways: steps in lists in a dict -/
abbrev Step4 := Str × (Str × Str × Str)
def encG {α : Type} (f : α → V) (ls : List (Str × α)) : List (Key × V) := ls.map fun q => (Sum.inr q.1, f q.2)
theorem get_encG {α : Type} {f : α → V} : ∀ {ls : List (Str × α)} {q : Str × α}, (ls.map Prod.fst).Nodup → q ∈ ls → valV (encG f ls) (Sum.inr q.1) = some (f q.2)
  | [], _, _, h => by simp at h
  | r :: ls, q, nd, h => by
    rw [show encG f (r :: ls) = (Sum.inr r.1, f r.2) :: encG f ls from rfl]
    rw [List.map_cons, List.nodup_cons] at nd
    rcases List.mem_cons.mp h with e | e
    · rw [e]; exact valV_pos rfl
    · rw [valV_neg fun z => nd.1 (by rw [Sum.inr.inj z]; exact List.mem_map.mpr ⟨q, e, rfl⟩)]
      exact get_encG nd.2 e
theorem get_encG_none {α : Type} {f : α → V} : ∀ {ls : List (Str × α)} {x : Str}, x ∉ ls.map Prod.fst → valV (encG f ls) (Sum.inr x) = none
  | [], _, _ => rfl
  | r :: ls, x, h => by
    rw [show encG f (r :: ls) = (Sum.inr r.1, f r.2) :: encG f ls from rfl]
    rw [List.map_cons, List.mem_cons, not_or] at h
    rw [valV_neg fun z => h.1 (Sum.inr.inj z).symm]
    exact get_encG_none h.2
theorem put_encG {α : Type} {f : α → V} {ls : List (Str × α)} {x : Str} {v : α} (h : x ∉ ls.map Prod.fst) : putK (encG f ls) (Sum.inr x) (f v) = encG f (ls ++ [(x, v)]) := by
  rw [putK_new _ (get_encG_none h)]
  simp [encG]
theorem val_encG {α : Type} {f : α → V} (ls : List (Str × α)) (x : Str) : valV (encG f ls) (Sum.inr x) = (ls.lookup x).map f := by
  induction ls with
  | nil => rfl
  | cons r ls ih =>
    rw [show encG f (r :: ls) = (Sum.inr r.1, f r.2) :: encG f ls from rfl]
    by_cases z : r.1 = x
    · subst z
      rw [valV_pos rfl, List.lookup_cons, beq_self_eq_true]
      rfl
    · rw [valV_neg fun y => z (Sum.inr.inj y), ih, List.lookup_cons]
      have : (x == r.1) = false := by rw [beq_eq_false_iff_ne]; exact fun y => z y.symm
      rw [this]
/-! ### how points lie: a dict of texts -/
noncomputable def putA {α : Type} (es : List (Str × α)) (x : Str) (v : α) : List (Str × α) := open Classical in if x ∈ es.map Prod.fst then es.map (fun q => if q.1 = x then (x, v) else q) else es ++ [(x, v)]
theorem putA_enc {α : Type} {f : α → V} (es : List (Str × α)) (x : Str) (v : α) : putK (encG f es) (Sum.inr x) (f v) = encG f (putA es x v) := by
  unfold putA
  by_cases z : x ∈ es.map Prod.fst
  · rw [if_pos z]
    have hany : ((encG f es).any fun kv => decide (kv.1 = Sum.inr x)) = true := by
      obtain ⟨q, hq, rfl⟩ := List.mem_map.mp z
      exact List.any_eq_true.mpr ⟨(Sum.inr q.1, f q.2), List.mem_map.mpr ⟨q, hq, rfl⟩, by simp⟩
    unfold putK
    rw [if_pos hany]
    unfold encG
    rw [List.map_map, List.map_map]
    refine List.map_congr_left fun q _ => ?_
    by_cases h : q.1 = x
    · simp [h]
    · have : ¬ (Sum.inr q.1 : Key) = Sum.inr x := fun z => h (Sum.inr.inj z)
      simp [h, this]
  · rw [if_neg z]
    exact put_encG z
theorem putA_fst {α : Type} (es : List (Str × α)) (x : Str) (v : α) : (putA es x v).map Prod.fst = if x ∈ es.map Prod.fst then es.map Prod.fst else es.map Prod.fst ++ [x] := by
  unfold putA
  by_cases z : x ∈ es.map Prod.fst
  · rw [if_pos z, if_pos z, List.map_map]
    refine List.map_congr_left fun q _ => ?_
    by_cases y : q.1 = x
    · simp [y]
    · simp [y]
  · rw [if_neg z, if_neg z, List.map_append]
    rfl
theorem putA_nd {α : Type} {es : List (Str × α)} {x : Str} {v : α} (h : (es.map Prod.fst).Nodup) : ((putA es x v).map Prod.fst).Nodup := by
  rw [putA_fst]
  by_cases z : x ∈ es.map Prod.fst
  · rw [if_pos z]; exact h
  · rw [if_neg z, List.nodup_append]
    exact ⟨h, by simp, fun a ha b hb => by rw [List.mem_singleton] at hb; rw [hb]; intro y; rw [y] at ha; exact z ha⟩
theorem putA_len {α : Type} (es : List (Str × α)) (x : Str) (v : α) : (putA es x v).length ≤ es.length + 1 := by
  unfold putA
  by_cases z : x ∈ es.map Prod.fst
  · rw [if_pos z, List.length_map]; omega
  · rw [if_neg z, List.length_append]; simp
theorem cut_from (xs : List V) (k : Nat) : cutV xs (some (k : Int)) none = xs.drop k := by
  unfold cutV
  rw [HT.sIx_nat, HT.sIx_none]
  by_cases h : k ≤ xs.length
  · rw [Nat.min_eq_left h, List.take_of_length_le (by rw [List.length_drop]; exact Nat.le_refl _)]
  · rw [Nat.min_eq_right (by omega), List.drop_length, List.take_nil, List.drop_of_length_le (by omega)]
theorem cut_to (xs : List V) (k : Nat) : cutV xs none (some (k : Int)) = xs.take k := by
  unfold cutV
  rw [HT.sIx_nat, HT.sIx_none, List.drop_zero, Nat.sub_zero]
  by_cases h : k ≤ xs.length
  · rw [Nat.min_eq_left h]
  · rw [Nat.min_eq_right (by omega), List.take_length, List.take_of_length_le (by omega)]
/-! ### drawing -/
def spMix : Sp := fun vs H Q _ => ∃ c k : Int, vs = [.int c, .int k] ∧ ∀ m : Int, Q (.int m) H
theorem ok__law_mixed (T : Tx K mg) : FnOk P w K mg base CX0 1 T.d__law_mixed.f T.d__law_mixed.fd ["_law_cell", "_law_k"] spMix := by
  refine T.d__law_mixed.F.okW sc__law_mixed (fun vs H Q E h => ?_) (fun cdv A outer s H vs Q E hr h => ?_)
  · obtain ⟨c, k, rfl, _⟩ := h
    rfl
  · obtain ⟨c, k, rfl, q⟩ := h
    have b0 := Int.emod_nonneg ((c + 7919 * k) * 48271) (show (2147483647 : Int) ≠ 0 by decide)
    have b1 := Int.emod_lt_of_pos ((c + 7919 * k) * 48271) (show (0 : Int) < 2147483647 by decide)
    refine WSs.step (ps_set (i := 2) sc__law_mixed.nd rfl (by first | exact Or.inl rfl | exact Or.inr rfl) (pe_op op_mod (pe_op op_mul (pe_op oAdd (pv 0) (pe_op op_mul pe_int (pv 1))) pe_int) pe_int)) ⟨_, rfl, _, rfl, _, _, rfl, rfl, .inl ⟨by decide, by decide⟩, .inl ⟨_, _, rfl, rfl, _, _, rfl, rfl, .inr ⟨by decide, by decide⟩, _, _, rfl, rfl, (by show (0 : Int) < 2147483647; decide), ?_⟩⟩
    exact WSs.last (ps_ret (pe_op op_mod (pe_op op_mul (pv 2) (pe_op oAdd (pe_op oAdd (pv 2) (pe_op op_mul pe_int (pv 1))) pe_int)) pe_int)) ⟨_, rfl, _, rfl, _, rfl, _, _, rfl, rfl, .inl ⟨by decide, by decide⟩, .inl ⟨_, _, rfl, rfl, .inl ⟨_, _, rfl, rfl, _, _, rfl, rfl, .inl ⟨by omega, by omega⟩, _, _, rfl, rfl, (by show (0 : Int) < 2147483629; decide), q _⟩⟩⟩
theorem G__law_mixed (T : Tx K mg) {k : Nat} (h : 1 ≤ k := by decide) : FnOk P w K mg base CX0 k T.d__law_mixed.f T.d__law_mixed.fd ["_law_cell", "_law_k"] spMix := (ok__law_mixed T).mono h
def spCellAt (K : PySem.W.Frag) : Sp := fun vs H Q _ => ∃ (a : Addr) (ns : List Int) (k : Nat), vs = [.ref a, .int k] ∧ SqL K H a (ns.map V.int) ∧ ∀ m : Int, Q (.int m) H
theorem ok__law_cell_at (T : Tx K mg) : FnOk P w K mg base CX0 2 T.d__law_cell_at.f T.d__law_cell_at.fd ["_law_script", "_law_k"] (spCellAt K) := by
  refine T.d__law_cell_at.F.okW sc__law_cell_at (fun vs H Q E h => ?_) (fun cdv A outer s H vs Q E hr h => ?_)
  · obtain ⟨a, ns, k, rfl, _⟩ := h
    rfl
  · obtain ⟨a, ns, k, rfl, hS, q⟩ := h
    refine WSs.cut (fun σ H' => σ = [some (.ref a), some (.int k)] ∧ H' = H) ?_ ?_
    · refine WS.of (ps_if (pt_cmpR op_lt (pv 1) (pe_callB (r := rLenX K) oLenX (by rfl) T.n_len PySem.boot_len (pa_c (pv 0) pa_nil)) (nomark _)) pss_w pss_nil) ⟨_, rfl, _, rfl, .inl ⟨a, _, rfl, .inl hS, _, _, rfl, rfl, _, rfl, ite2 (fun hc => ?_) (fun _ => ⟨rfl, rfl⟩)⟩⟩
      have hc : k < ns.length := by
        have := of_decide_eq_true hc
        rw [List.length_map] at this
        omega
      obtain ⟨y, hy⟩ : ∃ y, ns[k]? = some y := ⟨_, List.getElem?_eq_getElem hc⟩
      exact WSs.last (ps_ret (pe_call (G__law_mixed T) hr rfl T.m__law_mixed T.d__law_mixed.F.kp T.d__law_mixed.b .nil pass0 (pa_c (pe_ix (r := rIx K) ix_seq (pv 0) (pv 1) (fun _ _ => rfl)) (pa_c (pv 1) pa_nil)))) ⟨_, rfl, _, rfl, .inl ⟨a, _, _, .int y, rfl, rfl, hS, atI_nat (by rw [List.getElem?_map, hy]; rfl), _, rfl, _, _, rfl, q⟩⟩
    rintro σ H' ⟨rfl, rfl⟩
    exact WSs.last (ps_ret pe_int) (q _)
theorem G__law_cell_at (T : Tx K mg) {k : Nat} (h : 2 ≤ k := by decide) : FnOk P w K mg base CX0 k T.d__law_cell_at.f T.d__law_cell_at.fd ["_law_script", "_law_k"] (spCellAt K) := (ok__law_cell_at T).mono h
/-! ### eyes -/
def FaultAt (H : Hp) (v : V) (a : Option (Str × Str)) : Prop := match a with | none => v = .non | some z => ∃ p, v = .ref p ∧ H p = some (.tup [.str z.1, .str z.2])
theorem FaultAt.mono {H H' : Hp} {v : V} {a : Option (Str × Str)} (e : ∀ b xs, H b = some (.tup xs) → H' b = some (.tup xs)) (h : FaultAt H v a) : FaultAt H' v a := by
  cases a with
  | none => exact h
  | some z => obtain ⟨p, h1, h2⟩ := h; exact ⟨p, h1, e _ _ h2⟩
structure EyesAt (T : Tx K mg) (H : Hp) (e wd : Addr) (ws : List Str) (a : Option (Str × Str)) : Prop where
  obj : ∃ dx v, H e = some (.ins T.CEyes dx [("watched", .ref wd), ("faulty", v)]) ∧ FaultAt H v a
  lst : H wd = some (.lst (ws.map V.str))
theorem EyesAt.mono {T : Tx K mg} {H H' : Hp} {e wd : Addr} {ws : List Str} {a : Option (Str × Str)} (s : Same H H') (h : EyesAt T H e wd ws a) : EyesAt T H' e wd ws a := by
  obtain ⟨⟨dx, v, h1, h2⟩, h3⟩ := h
  exact ⟨⟨dx, v, s.at h1, h2.mono fun _ _ z => s.at z⟩, s.at h3⟩
def spEyI (K : PySem.W.Frag) : Sp := fun vs H Q _ => ∃ (x p C dx : Addr) (names : List Str), vs = [.ref x, .ref p] ∧ H x = some (.ins C dx []) ∧ Cls K C ∧ NoAttr K C "watched" ∧ NoAttr K C "faulty" ∧ SqL K H p (names.map V.str) ∧ names.length < 64 ∧
  ∀ (wd : Addr) (ws : List Str) (H1 : Hp), ws.Perm names → PyProof.Rows.sortedS ws = true → Same H H1 → H wd = none → H1 wd = some (.lst (ws.map V.str)) → Q .non (upd H1 x (.ins C dx [("watched", .ref wd), ("faulty", .non)]))
theorem ok_Eyes___init__ (T : Tx K mg) : FnOk P w K mg base CX0 1 T.d_Eyes___init__.f T.d_Eyes___init__.fd ["self", "names"] (spEyI K) := by
  refine T.d_Eyes___init__.F.okW sc_Eyes___init__ (fun vs H Q E h => ?_) (fun cdv A outer s H vs Q E hr h => ?_)
  · obtain ⟨x, p, C, dx, names, rfl, _⟩ := h
    rfl
  · obtain ⟨x, p, C, dx, names, rfl, hx, c, n1, n2, hp, hl, q⟩ := h
    refine WSs.step (ps_fld (pv 0) (pe_callB (r := rSortS K) call_sortS (by rfl) T.n_sorted PyProof.Rows.boot_sorted (pa_c (pv 1) pa_nil)) rfl) ⟨_, rfl, p, names, rfl, hp, hl, fun ws h1 h2 wd H1 s1 m1 e1 => ⟨_, rfl, x, C, dx, [], rfl, s1.at hx, c, n1, by simp, ?_⟩⟩
    refine WSs.last (ps_fld (pv 0) pe_non rfl) ⟨_, rfl, x, C, dx, _, rfl, upd_same, c, n2, by show 1 < 1000; decide, ?_⟩
    rw [upd_upd]
    exact q wd ws H1 h1 h2 s1 m1 e1
theorem G_Eyes___init__ (T : Tx K mg) {k : Nat} (h : 1 ≤ k := by decide) : FnOk P w K mg base CX0 k T.d_Eyes___init__.f T.d_Eyes___init__.fd ["self", "names"] (spEyI K) := (ok_Eyes___init__ T).mono h
def mr_Eyes (T : Tx K mg) : List V → Hp → VK → Prop := fun vs H Q => ∃ (p : Addr) (names : List Str), vs = [.ref p] ∧ SqL K H p (names.map V.str) ∧ names.length < 64 ∧ ∀ (x wd : Addr) (ws : List Str) (H' : Hp), ws.Perm names → PyProof.Rows.sortedS ws = true → Same H H' → H x = none → H wd = none → EyesAt T H' x wd ws none → Q (.ref x) H'
theorem mk_Eyes (T : Tx K mg) : ∀ vs H Q, mr_Eyes T vs H Q →
    ∀ x dx, H x = none → H dx = none → dx ≠ x → spEyI K (.ref x :: (vs ++ [])) (upd (upd H dx (.own x)) x (.ins T.CEyes dx [])) (fun v H2 => v = .non ∧ Q (.ref x) H2) E0 := by
  rintro vs H Q ⟨p, names, rfl, hp, hl, q⟩ x dx h1 h2 ne
  have s0 : Same H (upd (upd H dx (.own x)) x (.ins T.CEyes dx [])) := fun b o e => by
    rw [upd_ne (ne_of_none e h1), upd_ne (ne_of_none e h2)]; exact e
  refine ⟨x, p, T.CEyes, dx, names, rfl, upd_same, T.clEyes, T.nEyes_watched, T.nEyes_faulty, s0.seq hp, hl, fun wd ws H1 a1 a2 s1 m1 e1 => ⟨rfl, ?_⟩⟩
  have hxw : wd ≠ x := fun z => by rw [z, upd_same] at m1; cases m1
  refine q x wd ws _ a1 a2 (fun b o e => ?_) h1 (s0.free m1) ⟨⟨dx, .non, upd_same, rfl⟩, by rw [upd_ne hxw]; exact e1⟩
  rw [upd_ne (ne_of_none e h1)]
  exact s1.at (s0.at e)
def spMend (T : Tx K mg) : Sp := fun vs H Q _ => ∃ (e wd : Addr) (ws : List Str) (a : Option (Str × Str)), vs = [.ref e] ∧ EyesAt T H e wd ws a ∧ ∀ H', (∀ b o, b ≠ e → H b = some o → H' b = some o) → EyesAt T H' e wd ws none → Q .non H'
theorem ok_Eyes_mend (T : Tx K mg) : FnOk P w K mg base CX0 1 T.d_Eyes_mend.f T.d_Eyes_mend.fd ["self"] (spMend T) := by
  refine T.d_Eyes_mend.F.okW sc_Eyes_mend (fun vs H Q E h => ?_) (fun cdv A outer s H vs Q E hr h => ?_)
  · obtain ⟨e, wd, ws, a, rfl, _⟩ := h
    rfl
  · obtain ⟨e, wd, ws, a, rfl, ⟨⟨dx, v, h1, h2⟩, h3⟩, q⟩ := h
    refine WSs.last (ps_fld (pv 0) pe_non rfl) ⟨_, rfl, e, T.CEyes, dx, _, rfl, h1, T.clEyes, T.nEyes_faulty, by show 2 < 1000; decide, q _ (fun b o hb z => by rw [upd_ne hb]; exact z) ⟨⟨dx, .non, upd_same, rfl⟩, ?_⟩⟩
    rw [upd_ne fun z => by rw [z, h1] at h3; cases h3]
    exact h3
theorem G_Eyes_mend (T : Tx K mg) {k : Nat} (h : 1 ≤ k := by decide) : FnOk P w K mg base CX0 k T.d_Eyes_mend.f T.d_Eyes_mend.fd ["self"] (spMend T) := (ok_Eyes_mend T).mono h
def spFault (T : Tx K mg) : Sp := fun vs H Q _ => ∃ (e wd : Addr) (ws : List Str) (a : Option (Str × Str)), vs = [.ref e] ∧ EyesAt T H e wd ws a ∧ ∀ v, FaultAt H v a → Q v H
theorem ok_Eyes_fault (T : Tx K mg) : FnOk P w K mg base CX0 1 T.d_Eyes_fault.f T.d_Eyes_fault.fd ["self"] (spFault T) := by
  refine T.d_Eyes_fault.F.okW sc_Eyes_fault (fun vs H Q E h => ?_) (fun cdv A outer s H vs Q E hr h => ?_)
  · obtain ⟨e, wd, ws, a, rfl, _⟩ := h
    rfl
  · obtain ⟨e, wd, ws, a, rfl, ⟨⟨dx, v, h1, h2⟩, h3⟩, q⟩ := h
    exact WSs.last (ps_ret (pe_fld (pv 0) rfl)) ⟨_, rfl, e, T.CEyes, dx, _, v, rfl, h1, T.clEyes, T.nEyes_faulty, rfl, q v h2⟩
theorem G_Eyes_fault (T : Tx K mg) {k : Nat} (h : 1 ≤ k := by decide) : FnOk P w K mg base CX0 k T.d_Eyes_fault.f T.d_Eyes_fault.fd ["self"] (spFault T) := (ok_Eyes_fault T).mono h
def KindP (K : PySem.W.Frag) (H : Hp) (v : V) : Prop := (∃ x, v = .str x) ∨ v = .non ∨ (∃ i, v = .int i) ∨ ∃ l xs, v = .ref l ∧ SqL K H l xs
theorem KindP.mono {H H' : Hp} {v : V} (s : Same H H') (h : KindP K H v) : KindP K H' v := by
  rcases h with h | h | h | ⟨l, xs, h1, h2⟩
  · exact .inl h
  · exact .inr (.inl h)
  · exact .inr (.inr (.inl h))
  · exact .inr (.inr (.inr ⟨l, xs, h1, s.seq h2⟩))
def Good (ws : List Str) (pq wv : V) : Prop := (∃ x ∈ ws, pq = .str x) ∧ (wv = .str "blind" ∨ wv = .str "stuck")
theorem inV_non : ∀ l : List Str, inV .non (l.map V.str) = false
  | [] => rfl
  | y :: l => by
    have := inV_non l
    unfold inV at this ⊢
    rw [List.map_cons, List.any_cons, this]
    rfl
theorem inV_int (i : Int) : ∀ l : List Str, inV (.int i) (l.map V.str) = false
  | [] => rfl
  | y :: l => by
    have := inV_int i l
    unfold inV at this ⊢
    rw [List.map_cons, List.any_cons, this]
    rfl
/-- x not in a list of texts -/
theorem part_notIn {H : Hp} {p : Addr} {ws : List Str} {pq : V} {Q : VK} (hp : SqL K H p (ws.map V.str)) (hk : KindP K H pq) (q1 : (∃ x ∈ ws, pq = .str x) → Q (.bl false) H) (q2 : (¬ ∃ x ∈ ws, pq = .str x) → Q (.bl true) H) : rNotInZ K pq (.ref p) H Q := by
  rcases hk with ⟨x, rfl⟩ | rfl | ⟨i, rfl⟩ | ⟨l, xs, rfl, hl⟩
  · refine .inl (.inl ⟨p, _, rfl, .inl hp, rfl, flat_strs _, ?_⟩)
    rw [if_pos rfl, inV_strs]
    by_cases h : x ∈ ws
    · rw [decide_eq_true h]; exact q1 ⟨x, h, rfl⟩
    · rw [decide_eq_false h]; exact q2 fun ⟨y, hy, e⟩ => h (by cases e; exact hy)
  · refine .inl (.inl ⟨p, _, rfl, .inl hp, rfl, flat_strs _, ?_⟩)
    rw [if_pos rfl, inV_non]
    exact q2 fun ⟨y, hy, e⟩ => nomatch e
  · refine .inl (.inl ⟨p, _, rfl, .inl hp, rfl, flat_strs _, ?_⟩)
    rw [if_pos rfl, inV_int]
    exact q2 fun ⟨y, hy, e⟩ => nomatch e
  · exact .inr ⟨p, l, xs, ws, rfl, rfl, hp, hl, q2 fun ⟨y, hy, e⟩ => nomatch e⟩
theorem way_notIn {H : Hp} {p : Addr} {wv : V} {Q : VK} (hp : H p = some (.tup [.str "blind", .str "stuck"])) (hk : (∃ y, wv = .str y) ∨ wv = .non) (q1 : (wv = .str "blind" ∨ wv = .str "stuck") → Q (.bl false) H) (q2 : (¬ (wv = .str "blind" ∨ wv = .str "stuck")) → Q (.bl true) H) : rNotInY K wv (.ref p) H Q := by
  rcases hk with ⟨x, rfl⟩ | rfl
  · refine .inl ⟨p, _, rfl, .inr (SqT.of hp), rfl, rfl, ?_⟩
    rw [if_pos rfl, show inV (.str x) [.str "blind", .str "stuck"] = decide (x ∈ [("blind" : Str), "stuck"]) from inV_strs x ["blind", "stuck"]]
    by_cases h : x ∈ [("blind" : Str), "stuck"]
    · rw [decide_eq_true h]
      refine q1 ?_
      rcases List.mem_cons.mp h with z | z
      · exact .inl (by rw [z])
      · rw [List.mem_singleton] at z; exact .inr (by rw [z])
    · rw [decide_eq_false h]
      refine q2 fun z => h ?_
      rcases z with z | z
      · cases z; simp
      · cases z; simp
  · refine .inl ⟨p, _, rfl, .inr (SqT.of hp), rfl, rfl, ?_⟩
    exact q2 fun z => by rcases z with z | z <;> cases z
def spFail (T : Tx K mg) : Sp := fun vs H Q E => ∃ (e wd : Addr) (ws : List Str) (a : Option (Str × Str)) (pq wv : V), vs = [.ref e, pq, wv] ∧ EyesAt T H e wd ws a ∧ KindP K H pq ∧ ((∃ y, wv = .str y) ∨ wv = .non) ∧
  (∀ H', Same H H' → ¬ Good ws pq wv → E (.ref T.CBadName) none H') ∧ (∀ H', Same H H' → Good ws pq wv → a ≠ none → E (.ref T.COneFault) none H') ∧
  ∀ x y H', pq = .str x → wv = .str y → x ∈ ws → (y = "blind" ∨ y = "stuck") → a = none → (∀ b o, b ≠ e → H b = some o → H' b = some o) → EyesAt T H' e wd ws (some (x, y)) → Q .non H'
theorem ok_Eyes_fail (T : Tx K mg) : FnOk P w K mg base (CXF P w) 1 T.d_Eyes_fail.f T.d_Eyes_fail.fd ["self", "part", "way"] (spFail T) := by
  refine T.d_Eyes_fail.F.okX sc_Eyes_fail (fun vs H Q E h => ?_) (fun cdv A outer s H vs Q E hr h => ?_)
  · obtain ⟨e, wd, ws, a, pq, wv, rfl, _⟩ := h
    rfl
  · obtain ⟨e, wd, ws, a, pq, wv, rfl, hE, hkp, hkw, qB, qO, q⟩ := h
    obtain ⟨⟨dx, v, h1, h2⟩, h3⟩ := hE
    refine WSs.cut (fun σ H' => σ = [some (.ref e), some pq, some wv] ∧ H' = H ∧ ∃ x ∈ ws, pq = .str x) ?_ ?_
    · refine WS.of (ps_if (pt_cmpR (r := rNotInZ K) (oNotInZ hr) (pv 1) (pe_fld (pv 0) rfl) (by with_unfolding_all rfl)) pss_w pss_nil) ⟨_, rfl, _, rfl, e, T.CEyes, dx, _, .ref wd, rfl, h1, T.clEyes, T.nEyes_watched, rfl, part_notIn (SqL.of h3) hkp (fun hx => ⟨_, rfl, ite2 (fun h => absurd h (by decide)) (fun _ => ⟨rfl, rfl, hx⟩)⟩) (fun hx => ⟨_, rfl, ite2 (fun _ => ?_) (fun h => absurd rfl h)⟩)⟩
      exact WSs.last (ps_raise T.x_BadName PySem.F.excBase_ValueError rfl (pa_c pe_str pa_nil)) ⟨sz (by simp), qB H (Same.refl _) fun g => hx g.1⟩
    rintro σ H' ⟨rfl, hH', x, hx, rfl⟩
    rw [hH']
    refine WSs.cut (fun σ H' => σ = [some (.ref e), some (.str x), some wv] ∧ Same H H' ∧ (wv = .str "blind" ∨ wv = .str "stuck")) ?_ ?_
    · refine WS.of (ps_if (pt_cmpR (r := rNotInY K) (oNotInY hr) (pv 2) (pe_tupS (pa_c (pe_const (by rfl) T.c_BLIND) (pa_c (pe_const (by rfl) T.c_STUCK) pa_nil))) (by with_unfolding_all rfl)) pss_w pss_nil) ⟨_, rfl, sz (by simp), fun p H1 s1 n1 e1 => way_notIn e1 hkw (fun hy => ⟨_, rfl, ite2 (fun h => absurd h (by decide)) (fun _ => ⟨rfl, s1, hy⟩)⟩) (fun hy => ⟨_, rfl, ite2 (fun _ => ?_) (fun h => absurd rfl h)⟩)⟩
      exact WSs.last (ps_raise T.x_BadName PySem.F.excBase_ValueError rfl (pa_c pe_str pa_nil)) ⟨sz (by simp), qB H1 s1 fun g => hy g.2⟩
    rintro σ H1 ⟨rfl, s1, hy⟩
    have good : Good ws (.str x) wv := ⟨⟨x, hx, rfl⟩, hy⟩
    refine WSs.cut (fun σ H' => σ = [some (.ref e), some (.str x), some wv] ∧ H' = H1 ∧ a = none) ?_ ?_
    · refine WS.of (ps_if (pt_cmpR op_notN (pe_fld (pv 0) rfl) pe_non (nomark _)) pss_w pss_nil) ⟨_, rfl, e, T.CEyes, dx, [("watched", .ref wd), ("faulty", v)], v, rfl, s1.at h1, T.clEyes, T.nEyes_faulty, rfl, rfl, _, rfl, ?_⟩
      cases a with
      | none =>
        cases (show v = .non from h2)
        exact ite2 (fun h => absurd h (by decide)) (fun _ => ⟨rfl, rfl, rfl⟩)
      | some z =>
        obtain ⟨p, rfl, ep⟩ := h2
        refine ite2 (fun _ => ?_) (fun h => absurd (by simp) h)
        exact WSs.last (ps_raise T.x_OneFault PySem.F.excBase_ValueError rfl (pa_c pe_str pa_nil)) ⟨sz (by simp), qO H1 s1 good (by simp)⟩
    rintro σ H' ⟨rfl, hH', ha⟩
    rw [hH']
    obtain ⟨y, rfl, hy'⟩ : ∃ y : Str, wv = .str y ∧ (y = "blind" ∨ y = "stuck") := by
      rcases hy with z | z
      · exact ⟨_, z, .inl rfl⟩
      · exact ⟨_, z, .inr rfl⟩
    refine WSs.last (ps_fld (pv 0) (pe_tupS (pa_c (pv 1) (pa_c (pv 2) pa_nil))) rfl) ⟨_, rfl, _, rfl, sz (by simp), fun t H2 s2 n2 e2 => ⟨_, rfl, e, T.CEyes, dx, [("watched", .ref wd), ("faulty", v)], rfl, s2.at (s1.at h1), T.clEyes, T.nEyes_faulty, by show 2 < 1000; decide, q x y _ rfl rfl hx hy' ha (fun b o hb z => by rw [upd_ne hb]; exact s2.at (s1.at z)) ⟨⟨dx, .ref t, upd_same, t, rfl, ?_⟩, ?_⟩⟩⟩
    · rw [upd_ne fun z => by rw [z, s1.at h1] at n2; cases n2]
      exact e2
    · rw [upd_ne fun z => by rw [z, h1] at h3; cases h3]
      exact s2.at (s1.at h3)
theorem G_Eyes_fail (T : Tx K mg) {k : Nat} (h : 1 ≤ k := by decide) : FnOk P w K mg base (CXF P w) k T.d_Eyes_fail.f T.d_Eyes_fail.fd ["self", "part", "way"] (spFail T) := (ok_Eyes_fail T).mono h
/-! ### tells -/
def baseL (ws : List Str) (tk : List (Str × Bool)) : List (Str × Bool) := ws.map fun x => (x, (tk.lookup x).getD false)
noncomputable def tellsL (ws : List Str) (tk : List (Str × Bool)) (a : Option (Str × Str)) : List (Str × Bool) := match a with
  | none => baseL ws tk
  | some z => putA (baseL ws tk) z.1 (decide (z.2 = "stuck"))
theorem baseL_fst (ws : List Str) (tk : List (Str × Bool)) : (baseL ws tk).map Prod.fst = ws := by
  unfold baseL
  rw [List.map_map]
  exact List.map_id' ws
theorem getD_encB (tk : List (Str × Bool)) (x : Str) : (valV (encG V.bl tk) (Sum.inr x)).getD (V.bl false) = V.bl ((tk.lookup x).getD false) := by
  rw [val_encG]
  cases tk.lookup x <;> rfl
def spTells (T : Tx K mg) : Sp := fun vs H Q _ => ∃ (e wd d : Addr) (ws : List Str) (a : Option (Str × Str)) (tk : List (Str × Bool)), vs = [.ref e, .ref d] ∧ EyesAt T H e wd ws a ∧ ws.Nodup ∧ ws.length ≤ 50 ∧ H d = some (.dK (encG V.bl tk)) ∧
  ∀ (f : Addr) (H' : Hp), Same H H' → H f = none → H' f = some (.dK (encG V.bl (tellsL ws tk a))) → Q (.ref f) H'
theorem ok_Eyes_tells (T : Tx K mg) : FnOk P w K mg base CX0 1 T.d_Eyes_tells.f T.d_Eyes_tells.fd ["self", "taken"] (spTells T) := by
  refine T.d_Eyes_tells.F.okW sc_Eyes_tells (fun vs H Q E h => ?_) (fun cdv A outer s H vs Q E hr h => ?_)
  · obtain ⟨e, wd, d, ws, a, tk, rfl, _⟩ := h
    rfl
  · obtain ⟨e, wd, d, ws, a, tk, rfl, ⟨⟨dx, v, h1, h2⟩, h3⟩, hnd, hwl, hd, q⟩ := h
    refine WSs.step (ps_set (i := 2) sc_Eyes_tells.nd rfl (by first | exact Or.inl rfl | exact Or.inr rfl) (pe_callTy (r := rDictP) (call_dictP rfl) (by rfl) T.n_dict PyProof.Rows.boot_dict (pa_c (pe_comp (N' := ["part", "taken"]) rfl (CompScope.std 1 [1] rfl (by decide +kernel) (by decide +kernel) rfl ⟨rfl, trivial⟩ rfl rfl ⟨⟨_, rfl, rfl, rfl⟩, trivial⟩) (pi_list (pe_fld (pv 0) rfl)) (fun _ _ _ _ => (pg_name (i := 0) (by show (["part", "taken"] : List Str).Nodup; decide +kernel) rfl (Or.inl (lookup_relabel_local rfl)) (Or.inr (lookup_relabel_local rfl)))) (fun _ _ _ _ => pf_nil) (fun _ _ _ _ => (pe_tupS (pa_c (pv 0) (pa_c (pe_dget2 (hu_of hr) (pv 1) (pv 0) pe_bl ⟨rfl, rfl, rfl, rfl⟩) pa_nil))))) pa_nil))) ⟨_, rfl, e, T.CEyes, dx, [("watched", .ref wd), ("faulty", v)], .ref wd, rfl, h1, T.clEyes, T.nEyes_watched, rfl, wd, rfl, ⟨_, SqL.of h3⟩, fun D hD => ?_⟩
    refine comp_list (K := K) (xs := ws.map V.str) (fun i ys H' => Same H H' ∧ H' D = some (.lst ys) ∧ ∃ tps : List Addr, ys = tps.map V.ref ∧ Paired (fun t (q : Key × V) => H' t = some (.tup [kV q.1, q.2])) tps (encG V.bl (baseL (ws.take i) tk))) ⟨Same.new hD, upd_same, [], rfl, .nil⟩ ?_ ?_ ?_
    · rintro i ys H' _ ⟨sm, _⟩
      exact SqL.of (sm.at h3)
    · rintro i x' ys H1 hi ⟨s1, hD1, tps, rfl, hpr⟩
      rw [List.getElem?_map] at hi
      obtain ⟨x, hx, rfl⟩ := Option.map_eq_some_iff.mp hi
      have hil : i < ws.length := (List.getElem?_eq_some_iff.mp hx).1
      have htl : tps.length = i := by
        have := Paired.length hpr
        rw [show (encG V.bl (baseL (ws.take i) tk)).length = (baseL (ws.take i) tk).length from List.length_map .., show (baseL (ws.take i) tk).length = (ws.take i).length from List.length_map .., List.length_take] at this
        omega
      unfold CompT
      refine ⟨Keep.set rfl, _, rfl, _, rfl, d, rfl, .inl ⟨_, .inl (s1.at hd)⟩, _, rfl, _, DGet.k (k := Sum.inr x) (s1.at hd), ?_⟩
      rw [getD_encB]
      refine ⟨sz (by simp), fun t H2 s2 n2 e2 => ⟨s2.at hD1, by rw [List.length_map]; exact small1000 (by omega), fun b o z => ?_, upd_same, tps ++ [t], by rw [List.map_append]; rfl, ?_⟩⟩
      · rw [upd_ne (ne_of_none z hD)]; exact s2.at (s1.at z)
      · rw [List.take_add_one, hx, show baseL (ws.take i ++ (some x).toList) tk = baseL (ws.take i) tk ++ [(x, (tk.lookup x).getD false)] by unfold baseL; rw [List.map_append]; rfl, show encG V.bl (baseL (ws.take i) tk ++ [(x, (tk.lookup x).getD false)]) = encG V.bl (baseL (ws.take i) tk) ++ [(Sum.inr x, V.bl ((tk.lookup x).getD false))] by unfold encG; rw [List.map_append]; rfl]
        have off : ∀ {c : Addr} {xs : List V}, H2 c = some (.tup xs) → (upd H2 D (.lst (tps.map V.ref ++ [V.ref t]))) c = some (.tup xs) := fun {c xs} z => by
          rw [upd_ne fun y => by rw [y, s2.at hD1] at z; cases z]; exact z
        refine Paired.append (Paired.mapP hpr fun _ _ r => off (s2.at r)) (.cons (off e2) .nil)
    · rintro ys H1 ⟨s1, hD1, tps, rfl, hpr⟩
      rw [List.length_map, List.take_length] at hpr
      have hbn : ((baseL ws tk).map Prod.fst).Nodup := by rw [baseL_fst]; exact hnd
      have hbl : (baseL ws tk).length ≤ 50 := by rw [show (baseL ws tk).length = ws.length from List.length_map ..]; exact hwl
      refine ⟨D, tps, _, rfl, hD1, hpr, ?_, fun f H2 s2 n2 e2 => ?_⟩
      · rw [show (encG V.bl (baseL ws tk)).map Prod.fst = ((baseL ws tk).map Prod.fst).map Sum.inr by unfold encG; rw [List.map_map, List.map_map]; rfl]
        exact List.Pairwise.map _ (fun a b h z => h (Sum.inr.inj z)) hbn
      have s02 := s1.trans s2
      refine WSs.cut (fun σ H' => σ = [some (.ref e), some (.ref d), some (.ref f)] ∧ Same H H' ∧ H' f = some (.dK (encG V.bl (tellsL ws tk a)))) ?_ ?_
      · refine WS.of (ps_if (pt_cmpR op_notN (pe_fld (pv 0) rfl) pe_non (nomark _)) pss_w pss_nil) ⟨_, rfl, e, T.CEyes, dx, [("watched", .ref wd), ("faulty", v)], v, rfl, s02.at h1, T.clEyes, T.nEyes_faulty, rfl, rfl, _, rfl, ?_⟩
        cases a with
        | none =>
          cases (show v = .non from h2)
          exact ite2 (fun h => absurd h (by decide)) (fun _ => ⟨rfl, s02, e2⟩)
        | some z =>
          obtain ⟨p, rfl, ep⟩ := h2
          refine ite2 (fun _ => ?_) (fun h => absurd (by simp) h)
          refine WSs.last (ps_dput (hu_of hr) (pv 2) (pe_ix (r := rIx K) ix_seq (pe_fld (pv 0) rfl) pe_int (fun _ _ => rfl)) (pe_cmpR (r := rEqX K) (oEqX hr) (pe_ix (r := rIx K) ix_seq (pe_fld (pv 0) rfl) pe_int (fun _ _ => rfl)) (pe_const (by rfl) T.c_STUCK) (nomark _)) rfl) ⟨_, rfl, e, T.CEyes, dx, [("watched", .ref wd), ("faulty", .ref p)], .ref p, rfl, s02.at h1, T.clEyes, T.nEyes_faulty, rfl, .inr (.inl ⟨p, _, _, .str z.2, rfl, rfl, SqT.of (s02.at ep), rfl, .inl ⟨rfl, _, rfl, _, rfl, e, T.CEyes, dx, [("watched", .ref wd), ("faulty", .ref p)], .ref p, rfl, s02.at h1, T.clEyes, T.nEyes_faulty, rfl, .inr (.inl ⟨p, _, _, .str z.1, rfl, rfl, SqT.of (s02.at ep), rfl, f, _, rfl, DPut.k (k := Sum.inr z.1) e2 ?_, rfl, ?_, ?_⟩)⟩⟩)⟩
          · rw [show (encG V.bl (baseL ws tk)).length = (baseL ws tk).length from List.length_map ..]; exact small1000 (by omega)
          · intro b o y
            rw [upd_ne (ne_of_none y (s1.free n2))]; exact s02.at y
          · rw [upd_same]
            have := putA_enc (f := V.bl) (baseL ws tk) z.1 (decide (z.2 = "stuck"))
            show some (HO.dK (putK (encG V.bl (baseL ws tk)) (Sum.inr z.1) (.bl (decide (V.str z.2 = V.str "stuck"))))) = some (HO.dK (encG V.bl (putA (baseL ws tk) z.1 (decide (z.2 = "stuck")))))
            rw [← this, show decide (V.str z.2 = V.str "stuck") = decide (z.2 = "stuck") from decide_eq_decide.mpr ⟨fun y => V.str.inj y, fun y => by rw [y]⟩]
      rintro σ H3 ⟨rfl, s3, e3⟩
      exact WSs.last (ps_ret (pv 2)) ⟨_, rfl, q f H3 s3 (s1.free n2) e3⟩
theorem G_Eyes_tells (T : Tx K mg) {k : Nat} (h : 1 ≤ k := by decide) : FnOk P w K mg base CX0 k T.d_Eyes_tells.f T.d_Eyes_tells.fd ["self", "taken"] (spTells T) := (ok_Eyes_tells T).mono h
/-! ### refused by which -/
def spFailed (T : Tx K mg) : Sp := fun vs H Q _ => ∃ (e wd : Addr) (ws : List Str) (a : Option (Str × Str)) (pq wv : V), vs = [.ref e, pq, wv] ∧ EyesAt T H e wd ws a ∧ KindP K H pq ∧ ((∃ y, wv = .str y) ∨ wv = .non) ∧
  (∀ H', Same H H' → ¬ Good ws pq wv → Q (.str "name") H') ∧ (∀ H', Same H H' → Good ws pq wv → a ≠ none → Q (.str "fault") H') ∧
  ∀ x y H', pq = .str x → wv = .str y → x ∈ ws → (y = "blind" ∨ y = "stuck") → a = none → (∀ b o, b ≠ e → H b = some o → H' b = some o) → EyesAt T H' e wd ws (some (x, y)) → Q (.bl true) H'
theorem ok__law_failed (T : Tx K mg) : FnOk P w K mg base CX0 2 T.d__law_failed.f T.d__law_failed.fd ["_law_eyes", "_law_part", "_law_way"] (spFailed T) := by
  refine T.d__law_failed.F.okW sc__law_failed (fun vs H Q E h => ?_) (fun cdv A outer s H vs Q E hr h => ?_)
  · obtain ⟨e, wd, ws, a, pq, wv, rfl, _⟩ := h
    rfl
  · obtain ⟨e, wd, ws, a, pq, wv, rfl, hE, hkp, hkw, qB, qO, q⟩ := h
    refine WSs.cut (fun _ _ => False) (WS.try2 (x := "BadName") (y := "OneFault") (B1 := T.CBadName) (B2 := T.COneFault) (Ex := fun cls _ H' => (cls = .ref T.CBadName ∧ Same H H' ∧ ¬ Good ws pq wv) ∨ (cls = .ref T.COneFault ∧ Same H H' ∧ Good ws pq wv ∧ a ≠ none)) (R1 := fun H' => Same H H' ∧ ¬ Good ws pq wv) (R2 := fun H' => Same H H' ∧ Good ws pq wv ∧ a ≠ none) T.mBadName T.mOneFault (kit_cls_of T.kBB rfl) (kit_cls_of T.kOB rfl) rfl rfl rfl rfl rfl ?_ ?_ ?_ ?_) (fun _ _ h => h.elim)
    · rintro cls dx H' (⟨rfl, h1, h2⟩ | ⟨rfl, h1, h2⟩)
      · exact ⟨_, rfl, .inl ⟨T.cBB, h1, h2⟩⟩
      · exact ⟨_, rfl, .inr ⟨T.cOB, T.cOO, h1, h2⟩⟩
    · intro pn xe hp
      obtain ⟨⟨dx, v, h1, h2⟩, h3⟩ := id hE
      exact WSs.last (ps_ret (pe_cmpR op_isN (pe_meth (pv 0) T.clEyes T.mtEyes_fail (G_Eyes_fail T) hr T.d_Eyes_fail.b .nil hp (pa_c (pv 1) (pa_c (pv 2) pa_nil))) pe_non (nomark _))) ⟨_, rfl, e, dx, _, rfl, h1, rfl, _, rfl, _, rfl, e, wd, ws, a, pq, wv, rfl, hE, hkp, hkw, fun H' s1 g => .inl ⟨rfl, s1, g⟩, fun H' s1 g h => .inr ⟨rfl, s1, g, h⟩, fun x y H' e1 e2 hx hy ha fr hE' => ⟨rfl, q x y H' e1 e2 hx hy ha fr hE'⟩⟩
    · rintro ea σ' H' ⟨s1, g⟩
      exact WSs.last (ps_ret pe_str) (qB H' s1 g)
    · rintro ea σ' H' ⟨s1, g, h⟩
      exact WSs.last (ps_ret pe_str) (qO H' s1 g h)
theorem G__law_failed (T : Tx K mg) {k : Nat} (h : 2 ≤ k := by decide) : FnOk P w K mg base CX0 k T.d__law_failed.f T.d__law_failed.fd ["_law_eyes", "_law_part", "_law_way"] (spFailed T) := (ok__law_failed T).mono h
def spByAny (T : Tx K mg) : Sp := fun vs H Q _ => ∃ (e wd : Addr) (ws : List Str) (a : Option (Str × Str)) (pq wv : V), vs = [.ref e, pq, wv] ∧ EyesAt T H e wd ws a ∧ KindP K H pq ∧ ((∃ y, wv = .str y) ∨ wv = .non) ∧ (¬ Good ws pq wv ∨ a ≠ none) ∧ ∀ H', Same H H' → Q (.bl true) H'
theorem ok__law_failed_by_any (T : Tx K mg) : FnOk P w K mg base CX0 2 T.d__law_failed_by_any.f T.d__law_failed_by_any.fd ["_law_eyes", "_law_part", "_law_way"] (spByAny T) := by
  refine T.d__law_failed_by_any.F.okW sc__law_failed_by_any (fun vs H Q E h => ?_) (fun cdv A outer s H vs Q E hr h => ?_)
  · obtain ⟨e, wd, ws, a, pq, wv, rfl, _⟩ := h
    rfl
  · obtain ⟨e, wd, ws, a, pq, wv, rfl, hE, hkp, hkw, hbad, q⟩ := h
    refine WSs.cut (fun _ _ => False) (WS.tryAs (x := "YardError") (n := "e") (B := T.CYardError) (i := 3) (Ex := fun cls dx H' => dx = none ∧ Same H H' ∧ (cls = .ref T.CBadName ∨ cls = .ref T.COneFault)) (R := fun C dx H' => dx = none ∧ Same H H' ∧ (C = T.CBadName ∨ C = T.COneFault)) T.mYardError (kit_cls_of T.kYB rfl) rfl sc__law_failed_by_any.nd rfl rfl rfl rfl rfl rfl rfl ?_ ?_ ?_) (fun _ _ h => h.elim)
    · rintro cls dx H' ⟨h1, h2, rfl | rfl⟩
      · exact ⟨_, rfl, T.cBY, h1, h2, .inl rfl⟩
      · exact ⟨_, rfl, T.cOY, h1, h2, .inr rfl⟩
    · intro pn xe hp
      obtain ⟨⟨dx, v, h1, h2⟩, h3⟩ := id hE
      refine WSs.last (ps_expr (pe_meth (pv 0) T.clEyes T.mtEyes_fail (G_Eyes_fail T) hr T.d_Eyes_fail.b .nil hp (pa_c (pv 1) (pa_c (pv 2) pa_nil)))) ⟨_, rfl, e, dx, _, rfl, h1, rfl, _, rfl, _, rfl, e, wd, ws, a, pq, wv, rfl, hE, hkp, hkw, fun H' s1 g => ⟨rfl, s1, .inl rfl⟩, fun H' s1 g h => ⟨rfl, s1, .inr rfl⟩, fun x y H' e1 e2 hx hy ha fr hE' => ?_⟩
      rcases hbad with z | z
      · exact z ⟨⟨x, hx, e1⟩, by rcases hy with y | y <;> rw [e2, y] <;> simp⟩
      · exact z ha
    · rintro ea C dx σ' H1 hl ⟨rfl, s1, hC⟩ hn
      obtain ⟨o0, o1, o2, o3, rfl⟩ : ∃ o0 o1 o2 o3, σ' = [o0, o1, o2, o3] := by
        match σ', hl with
        | [o0, o1, o2, o3], _ => exact ⟨o0, o1, o2, o3, rfl⟩
      have he : (upd H1 ea (ExcC ea C none)) ea = some (ExcC ea C none) := upd_same
      have s2 : Same H (upd H1 ea (ExcC ea C none)) := s1.trans (Same.new hn)
      generalize upd H1 ea (ExcC ea C none) = H2 at he s2
      rcases hC with rfl | rfl
      · refine WSs.last (ps_ret (pe_and (pe_callB (r := rIsiN K) call_isiN (by rfl) T.n_isinstance PyProof.Rows.boot_isinstance (pa_c (pv 3) (pa_c (pe_bltn (v := .ty "ValueError") (by rfl) T.n_ValueError boot_ValueError rfl) pa_nil))) (pe_one (pe_cmpR op_eq (pe_bm PySem.F.plainAttrs_list PySem.F.slot_list_count PySem.F.type_list_count mt_countB (pe_lstS (pa_c (pe_callB (r := rIsiN K) call_isiN (by rfl) T.n_isinstance PyProof.Rows.boot_isinstance (pa_c (pv 3) (pa_c (pe_glob (v := .ref T.CBadName) (by rfl) T.mBadName rfl) pa_nil))) (pa_c (pe_callB (r := rIsiN K) call_isiN (by rfl) T.n_isinstance PyProof.Rows.boot_isinstance (pa_c (pv 3) (pa_c (pe_glob (v := .ref T.COneFault) (by rfl) T.mOneFault rfl) pa_nil))) pa_nil))) (pa_c pe_bl pa_nil)) pe_int (nomark _))))) ⟨_, rfl, ea, T.CBadName, _, true, rfl, he, T.g_BadName, .inl ⟨_, rfl, T.kBV⟩, _, rfl, ?_⟩
        refine ⟨_, rfl, ea, T.CBadName, _, true, rfl, he, T.g_BadName, .inr ⟨_, rfl, T.iBB⟩, _, rfl, ea, T.CBadName, _, false, rfl, he, T.g_BadName, .inr ⟨_, rfl, T.iBO⟩, sz (by simp), fun l H3 s3 n3 e3 => ?_⟩
        exact ⟨.inl ⟨rfl, _, SqL.of e3⟩, l, [true, false], true, rfl, rfl, e3, ⟨rfl, q H3 (s2.trans s3)⟩⟩
      · refine WSs.last (ps_ret (pe_and (pe_callB (r := rIsiN K) call_isiN (by rfl) T.n_isinstance PyProof.Rows.boot_isinstance (pa_c (pv 3) (pa_c (pe_bltn (v := .ty "ValueError") (by rfl) T.n_ValueError boot_ValueError rfl) pa_nil))) (pe_one (pe_cmpR op_eq (pe_bm PySem.F.plainAttrs_list PySem.F.slot_list_count PySem.F.type_list_count mt_countB (pe_lstS (pa_c (pe_callB (r := rIsiN K) call_isiN (by rfl) T.n_isinstance PyProof.Rows.boot_isinstance (pa_c (pv 3) (pa_c (pe_glob (v := .ref T.CBadName) (by rfl) T.mBadName rfl) pa_nil))) (pa_c (pe_callB (r := rIsiN K) call_isiN (by rfl) T.n_isinstance PyProof.Rows.boot_isinstance (pa_c (pv 3) (pa_c (pe_glob (v := .ref T.COneFault) (by rfl) T.mOneFault rfl) pa_nil))) pa_nil))) (pa_c pe_bl pa_nil)) pe_int (nomark _))))) ⟨_, rfl, ea, T.COneFault, _, true, rfl, he, T.g_OneFault, .inl ⟨_, rfl, T.kOV⟩, _, rfl, ?_⟩
        refine ⟨_, rfl, ea, T.COneFault, _, false, rfl, he, T.g_OneFault, .inr ⟨_, rfl, T.iOB⟩, _, rfl, ea, T.COneFault, _, true, rfl, he, T.g_OneFault, .inr ⟨_, rfl, T.iOO⟩, sz (by simp), fun l H3 s3 n3 e3 => ?_⟩
        exact ⟨.inl ⟨rfl, _, SqL.of e3⟩, l, [false, true], true, rfl, rfl, e3, ⟨rfl, q H3 (s2.trans s3)⟩⟩
theorem G__law_failed_by_any (T : Tx K mg) {k : Nat} (h : 2 ≤ k := by decide) : FnOk P w K mg base CX0 k T.d__law_failed_by_any.f T.d__law_failed_by_any.fd ["_law_eyes", "_law_part", "_law_way"] (spByAny T) := (ok__law_failed_by_any T).mono h
theorem nat_at {n : Nat} {i : Int} {l : List Nat} (hl : l.length = n) (h0 : 0 ≤ i) (h1 : i < n) : atI l i = some (l.getD i.toNat 0) := by
  have e : i = ((i.toNat : Nat) : Int) := by omega
  have hi : i.toNat < l.length := by omega
  rw [e]
  refine atI_nat ?_
  rw [List.getD_eq_getElem?_getD, Int.toNat_natCast, List.getElem?_eq_getElem hi]
  rfl
/-! ### names -/
def nmK (c d : Nat) (k : Nat) : Str := (⟨#[c]⟩ : Str) ++ (⟨#[d]⟩ : Str) ++ Str.ofString (toString (k : Int))
theorem figs_inj : ∀ k < 12, ∀ k' < 12, (Str.ofString (toString ((k : Nat) : Int))).cps.toList = (Str.ofString (toString ((k' : Nat) : Int))).cps.toList → k = k' := by decide +kernel
theorem figs_len : ∀ k < 12, (Str.ofString (toString ((k : Nat) : Int))).length ≤ 2 := by decide +kernel
theorem nmK_list (c d k : Nat) : (nmK c d k).cps.toList = c :: d :: (Str.ofString (toString (k : Int))).cps.toList := by
  unfold nmK
  rw [PySem.W.KT.app_list, PySem.W.KT.app_list]
  rfl
theorem nmK_inj {c d c' d' k k' : Nat} (hk : k < 12) (hk' : k' < 12) (h : nmK c d k = nmK c' d' k') : k = k' := by
  have := congrArg (fun s : Str => s.cps.toList) h
  simp only [nmK_list, List.cons.injEq] at this
  exact figs_inj k hk k' hk' this.2.2
def spNames : Sp := fun vs H Q _ => ∃ (c : Int) (n : Nat), vs = [.int c, .int n] ∧ n ≤ 12 ∧ ∀ (l : Addr) (ss : List Str) (H' : Hp), Same H H' → H l = none → H' l = some (.lst (ss.map V.str)) → ss.Nodup → ss.length = n → Q (.ref l) H'
theorem ok__law_names (T : Tx K mg) : FnOk P w K mg base CX0 2 T.d__law_names.f T.d__law_names.fd ["_law_cell", "_law_many"] spNames := by
  refine T.d__law_names.F.okW sc__law_names (fun vs H Q E h => ?_) (fun cdv A outer s H vs Q E hr h => ?_)
  · obtain ⟨c, n, rfl, _⟩ := h
    rfl
  · obtain ⟨c, n, rfl, hn, q⟩ := h
    refine WSs.step (ps_set (i := 2) sc__law_names.nd rfl (by first | exact Or.inl rfl | exact Or.inr rfl) pe_str) ?_
    refine WSs.step (ps_set (i := 3) sc__law_names.nd rfl (by first | exact Or.inl rfl | exact Or.inr rfl) (pe_lstS pa_nil)) ⟨sz (by simp), fun l0 H1 s1 n1 e1 => ?_⟩
    refine WSs.step (ps_for PassesOwn.never rfl (pi_range1 rfl T.n_range (pa_c (pv 1) pa_nil)) (pg_name (i := 4) sc__law_names.nd rfl (by first | exact Or.inl rfl | exact Or.inr rfl)) pss_w) ⟨_, rfl, _, rfl, by omega, by omega, for_range (lo := 0) (n := ((n : Nat) : Int).toNat)
      (fun i σ H' => ∃ l ss, (∃ o4 o5 o6 o7, σ = [some (.int c), some (.int n), some (.str "abcdefghijklmnopqrstuvwxyz"), some (.ref l), o4, o5, o6, o7]) ∧ Same H H' ∧ H l = none ∧ H' l = some (.lst (ss.map V.str)) ∧ ss.length = i ∧ ss.Nodup ∧ ∀ x ∈ ss, ∃ a b k, k < i ∧ x = nmK a b k)
      ⟨l0, [], ⟨none, none, none, none, rfl⟩, s1, n1, e1, rfl, List.nodup_nil, by simp⟩ ?_ ?_⟩
    · rintro i σ H2 hi ⟨l, ss, ⟨o4, o5, o6, o7, rfl⟩, s2, n2, e2, hsl, hnd, hall⟩
      have hi12 : i < 12 := by omega
      refine WSs.step (ps_set (i := 5) sc__law_names.nd rfl (by first | exact Or.inl rfl | exact Or.inr rfl) (pe_call (G__law_mixed T) hr rfl T.m__law_mixed T.d__law_mixed.F.kp T.d__law_mixed.b .nil pass0 (pa_c (pv 0) (pa_c (pv 4) pa_nil)))) ⟨_, rfl, _, rfl, c, _, rfl, fun dr => ?_⟩
      have a0 := Int.emod_nonneg dr (show (26 : Int) ≠ 0 by decide)
      have a1 := Int.emod_lt_of_pos dr (show (0 : Int) < 26 by decide)
      have b0 := Int.emod_nonneg (dr / 26) (show (26 : Int) ≠ 0 by decide)
      have b1 := Int.emod_lt_of_pos (dr / 26) (show (0 : Int) < 26 by decide)
      refine WSs.step (ps_set (i := 6) sc__law_names.nd rfl (by first | exact Or.inl rfl | exact Or.inr rfl) (pe_op oAdd (pe_op oAdd (pe_ix (r := rIx K) ix_seq (pv 2) (pe_op op_mod (pv 5) pe_int) (fun _ _ => rfl)) (pe_ix (r := rIx K) ix_seq (pv 2) (pe_op op_mod (pe_op op_fdiv (pv 5) pe_int) pe_int) (fun _ _ => rfl))) (pe_callTy call_str_int (by rfl) T.n_str PyProof.Rows.boot_str (pa_c (pv 4) pa_nil)))) ⟨_, rfl, _, rfl, _, _, rfl, rfl, (by show (0 : Int) < 26; decide), .inr (.inr ⟨_, _, letL.getD (dr % 26).toNat 0, rfl, rfl, sz (by rw [let_len]; decide), (by rw [let_eq]; exact nat_at (n := 26) rfl a0 a1), ?_⟩)⟩
      have hfl := figs_len i hi12
      obtain ⟨nm, hnm⟩ : ∃ nm, nm = nmK (letL.getD (dr % 26).toNat 0) (letL.getD (dr / 26 % 26).toNat 0) i := ⟨_, rfl⟩
      refine ⟨_, rfl, _, rfl, _, _, rfl, rfl, ⟨by decide, by decide⟩, _, _, rfl, rfl, (by show (0 : Int) < 26; decide), .inr (.inr ⟨_, _, letL.getD (dr / 26 % 26).toNat 0, rfl, rfl, sz (by rw [let_len]; decide), (by rw [let_eq]; exact nat_at (n := 26) rfl b0 b1), .inr (.inl ⟨_, _, rfl, rfl, sz (by show 1 + 1 ≤ 1000; decide), _, rfl, ((i : Nat) : Int), ?_, ?_, .inr (.inl ⟨_, _, rfl, rfl, sz ?_, ?_⟩)⟩)⟩)⟩
      · show [V.int (0 + (i : Int))] = [V.int (i : Int)]
        rw [Int.zero_add]
      · have : ∀ i < 12, (((i : Nat) : Int).natAbs).log2 < 1920 := by decide +kernel
        exact this i hi12
      · rw [PySem.Str.length_append]
        show 1 + 1 + (Str.ofString (toString (i : Int))).length ≤ 1000
        omega
      show WSs _ _ _ [some (.int c), some (.int n), some (.str "abcdefghijklmnopqrstuvwxyz"), some (.ref l), some (.int (0 + (i : Int))), some (.int dr), some (.str (nmK (letL.getD (dr % 26).toNat 0) (letL.getD (dr / 26 % 26).toNat 0) i)), o7] H2
      rw [← hnm]
      have z0 := Int.emod_nonneg (dr / 700) (show ((ss.length + 1 : Nat) : Int) ≠ 0 by omega)
      obtain ⟨av, hav⟩ : ∃ av : Nat, dr / 700 % ((ss.length + 1 : Nat) : Int) = (av : Int) := ⟨(dr / 700 % ((ss.length + 1 : Nat) : Int)).toNat, by omega⟩
      refine WSs.step (ps_set (i := 7) sc__law_names.nd rfl (by first | exact Or.inl rfl | exact Or.inr rfl) (pe_op op_mod (pe_op op_fdiv (pv 5) pe_int) (pe_op oAdd (pe_callB (r := rLenX K) oLenX (by rfl) T.n_len PySem.boot_len (pa_c (pv 3) pa_nil)) pe_int))) ⟨_, rfl, _, _, rfl, rfl, ⟨by decide, by decide⟩, _, rfl, .inl ⟨l, _, rfl, .inl (SqL.of e2), .inl ⟨_, _, rfl, rfl, _, _, rfl, rfl, ?_, ?_⟩⟩⟩
      · rw [List.length_map]; show (0 : Int) < (ss.length : Int) + 1; omega
      rw [List.length_map]
      show WSs _ _ _ [some (.int c), some (.int n), some (.str "abcdefghijklmnopqrstuvwxyz"), some (.ref l), some (.int (0 + (i : Int))), some (.int dr), some (.str nm), some (.int (dr / 700 % ((ss.length : Int) + 1)))] H2
      rw [show dr / 700 % ((ss.length : Int) + 1) = (av : Int) from hav]
      refine WSs.last (ps_set (i := 3) sc__law_names.nd rfl (by first | exact Or.inl rfl | exact Or.inr rfl) (pe_op oAdd (pe_op oAdd (pe_slice (r := rSlX K) oSlX (pv 3) po_none (po_some (pv 7))) (pe_lstS (pa_c (pv 6) pa_nil))) (pe_slice (r := rSlX K) oSlX (pv 3) (po_some (pv 7)) po_none))) ⟨_, rfl, _, rfl, _, rfl, .inr (.inl ⟨l, _, rfl, SqL.of e2, fun la Ha sa na ea => ⟨_, rfl, sz (by simp), fun lb Hb sb nb eb => .inr (.inr ⟨la, lb, _, _, rfl, rfl, sb.at ea, eb, ?_, fun lc Hc sc nc ec => ⟨_, rfl, _, rfl, _, rfl, .inr (.inl ⟨l, _, rfl, SqL.of (sc.at (sb.at (sa.at e2))), fun ld Hd sd nd ed => .inr (.inr ⟨lc, ld, _, _, rfl, rfl, sd.at ec, ed, ?_, fun le He se ne ee => ?_⟩)⟩)⟩⟩)⟩⟩)⟩
      · rw [cut_to, List.length_take, List.length_map]; exact sz (by simp; omega)
      · rw [cut_to, cut_from, List.length_append, List.length_take, List.length_drop, List.length_map]; exact sz (by simp; omega)
      have sae : Same H2 He := sa.trans (sb.trans (sc.trans (sd.trans se)))
      have perm : (ss.take av ++ nm :: ss.drop av).Perm (nm :: ss) := by
        have := List.perm_middle (a := nm) (l₁ := ss.take av) (l₂ := ss.drop av)
        rwa [List.take_append_drop] at this
      refine ⟨le, ss.take av ++ nm :: ss.drop av, ⟨_, _, _, _, rfl⟩, s2.trans sae, s2.free (sa.free (sb.free (sc.free (sd.free ne)))), ?_, ?_, ?_, ?_⟩
      · rw [ee, cut_to, cut_from, List.map_append, List.map_cons, List.map_take, List.map_drop]
        simp
      · rw [perm.length_eq, List.length_cons, hsl]
      · refine perm.nodup_iff.mpr (List.nodup_cons.mpr ⟨fun hm => ?_, hnd⟩)
        obtain ⟨a, b, k, hk, hx⟩ := hall nm hm
        rw [hnm] at hx
        have := nmK_inj hi12 (by omega) hx
        omega
      · intro x hx
        rcases List.mem_cons.mp (perm.mem_iff.mp hx) with z | z
        · exact ⟨_, _, i, by omega, z.trans hnm⟩
        · obtain ⟨a, b, k, hk, h⟩ := hall x z
          exact ⟨a, b, k, by omega, h⟩
    · rintro σ H2 ⟨l, ss, ⟨o4, o5, o6, o7, rfl⟩, s2, n2, e2, hsl, hnd, hall⟩
      exact WSs.last (ps_ret (pv 3)) ⟨_, rfl, q l ss H2 s2 n2 e2 hnd (by omega)⟩
theorem G__law_names (T : Tx K mg) {k : Nat} (h : 2 ≤ k := by decide) : FnOk P w K mg base CX0 k T.d__law_names.f T.d__law_names.fd ["_law_cell", "_law_many"] spNames := (ok__law_names T).mono h
/-! ### an eye fails -/
def WrongAt (H : Hp) (lw : Addr) (a : Option (Str × Str)) : Prop := match a with | none => H lw = some (.lst []) | some z => ∃ t, H lw = some (.lst [.ref t]) ∧ H t = some (.tup [.str z.1, .str z.2])
theorem WrongAt.mono {H H' : Hp} {lw : Addr} {a : Option (Str × Str)} (s : Same H H') (h : WrongAt H lw a) : WrongAt H' lw a := by
  cases a with
  | none => exact s.at h
  | some z => obtain ⟨t, h1, h2⟩ := h; exact ⟨t, s.at h1, s.at h2⟩
theorem WrongAt.ex {H : Hp} {lw : Addr} {a : Option (Str × Str)} (h : WrongAt H lw a) : ∃ xs, H lw = some (.lst xs) := by
  cases a with
  | none => exact ⟨_, h⟩
  | some z => obtain ⟨t, h1, _⟩ := h; exact ⟨_, h1⟩
def spLFail (T : Tx K mg) : Sp := fun vs H Q _ => ∃ (e wd pn lw : Addr) (c : Int) (ws names : List Str) (a : Option (Str × Str)), vs = [.ref e, .ref pn, .int c, .ref lw] ∧ EyesAt T H e wd ws a ∧ H pn = some (.lst (names.map V.str)) ∧ names.length ≤ 12 ∧ ws.Perm names ∧ WrongAt H lw a ∧ lw ≠ wd ∧ (∀ z, a = some z → z.1 ∈ ws) ∧
  ∀ (a' : Option (Str × Str)) (H' : Hp), (∀ b o, b ≠ e → b ≠ lw → H b = some o → H' b = some o) → EyesAt T H' e wd ws a' → WrongAt H' lw a' → (∀ z, a' = some z → z.1 ∈ ws) → Q (.bl true) H'
theorem ok__law_fail (T : Tx K mg) : FnOk P w K mg base CX0 3 T.d__law_fail.f T.d__law_fail.fd ["_law_eyes", "_law_names_here", "_law_cell", "_law_wrong"] (spLFail T) := by
  refine T.d__law_fail.F.okW sc__law_fail (fun vs H Q E h => ?_) (fun cdv A outer s H vs Q E hr h => ?_)
  · obtain ⟨e, wd, pn, lw, c, ws, names, a, rfl, _⟩ := h
    rfl
  · obtain ⟨e, wd, pn, lw, c, ws, names, a, rfl, hE, hpn, hnl, hperm, hW, hlwd, haw, q⟩ := h
    refine WSs.step (ps_set (i := 4) sc__law_fail.nd rfl (by first | exact Or.inl rfl | exact Or.inr rfl) (pe_ix (r := rIx K) ix_seq (pe_op oAdd (pv 1) (pe_lstS (pa_c pe_str (pa_c pe_str (pa_c pe_non (pa_c pe_int (pa_c (pe_lstS (pa_c pe_str pa_nil)) pa_nil))))))) (pe_op op_mod (pe_op op_fdiv (pv 2) pe_int) (pe_op oAdd (pe_callB (r := rLenX K) oLenX (by rfl) T.n_len PySem.boot_len (pa_c (pv 1) pa_nil)) pe_int)) (fun _ _ => rfl))) ⟨_, rfl, sz (by simp), fun la H1 s1 n1 e1 => ⟨sz (by simp), fun lb H2 s2 n2 e2 => .inr (.inr ⟨pn, lb, _, _, rfl, rfl, s2.at (s1.at hpn), e2, ?_, fun lc H3 s3 n3 e3 => ?_⟩)⟩⟩
    · rw [List.length_map]; exact sz (by simp; omega)
    have s03 := s1.trans (s2.trans s3)
    obtain ⟨xs, hxs⟩ : ∃ xs, xs = names.map V.str ++ [V.str "zz", .str "", .non, .int 5, .ref la] := ⟨_, rfl⟩
    rw [← hxs] at e3
    have hxl : xs.length = names.length + 5 := by rw [hxs]; simp
    have hxk : ∀ v ∈ xs, KindP K H3 v := fun v hv => by
      rw [hxs, List.mem_append] at hv
      rcases hv with z | z
      · obtain ⟨x, _, rfl⟩ := List.mem_map.mp z
        exact .inl ⟨x, rfl⟩
      · simp only [List.mem_cons, List.mem_nil_iff, or_false] at z
        rcases z with rfl | rfl | rfl | rfl | rfl
        · exact .inl ⟨_, rfl⟩
        · exact .inl ⟨_, rfl⟩
        · exact .inr (.inl rfl)
        · exact .inr (.inr (.inl ⟨_, rfl⟩))
        · exact .inr (.inr (.inr ⟨la, _, rfl, SqL.of (s3.at (s2.at e1))⟩))
    have z0 := Int.emod_nonneg (c / 5) (show ((names.length : Int) + 5) ≠ 0 by omega)
    have z1 := Int.emod_lt_of_pos (c / 5) (show (0 : Int) < (names.length : Int) + 5 by omega)
    obtain ⟨j, hj⟩ : ∃ j : Nat, c / 5 % ((names.length : Int) + 5) = (j : Int) := ⟨(c / 5 % ((names.length : Int) + 5)).toNat, by omega⟩
    obtain ⟨pq, hpq⟩ : ∃ v, xs[j]? = some v := ⟨_, List.getElem?_eq_getElem (by omega)⟩
    refine ⟨_, rfl, _, _, rfl, rfl, ⟨by decide, by decide⟩, _, rfl, .inl ⟨pn, _, rfl, .inl (SqL.of (s03.at hpn)), .inl ⟨_, _, rfl, rfl, _, _, rfl, rfl, ?_, .inl ⟨lc, _, _, pq, rfl, rfl, SqL.of e3, ?_, ?_⟩⟩⟩⟩
    · rw [List.length_map]; show (0 : Int) < (names.length : Int) + 5; omega
    · rw [List.length_map]
      show atI xs (c / 5 % ((names.length : Int) + 5)) = some pq
      rw [hj]
      exact atI_nat hpq
    have hkp := hxk pq (List.mem_of_getElem? hpq)
    have y0 := Int.emod_nonneg (c / 200) (show (8 : Int) ≠ 0 by decide)
    have y1 := Int.emod_lt_of_pos (c / 200) (show (0 : Int) < 8 by decide)
    obtain ⟨j2, hj2⟩ : ∃ j : Nat, c / 200 % 8 = (j : Int) := ⟨(c / 200 % 8).toNat, by omega⟩
    obtain ⟨wv, hwv⟩ : ∃ v, [V.str "blind", .str "stuck", .str "blind", .str "stuck", .str "deaf", .str "", .non, .str "Blind"][j2]? = some v := ⟨_, List.getElem?_eq_getElem (by simp; omega)⟩
    have hkw : (∃ y, wv = .str y) ∨ wv = .non := by
      have := List.mem_of_getElem? hwv
      simp only [List.mem_cons, List.mem_nil_iff, or_false] at this
      rcases this with rfl | rfl | rfl | rfl | rfl | rfl | rfl | rfl <;> first | exact .inl ⟨_, rfl⟩ | exact .inr rfl
    refine WSs.step (ps_set (i := 5) sc__law_fail.nd rfl (by first | exact Or.inl rfl | exact Or.inr rfl) (pe_ix (r := rIx K) ix_seq (pe_lstS (pa_c pe_str (pa_c pe_str (pa_c pe_str (pa_c pe_str (pa_c pe_str (pa_c pe_str (pa_c pe_non (pa_c pe_str pa_nil))))))))) (pe_op op_mod (pe_op op_fdiv (pv 2) pe_int) pe_int) (fun _ _ => rfl))) ⟨sz (by simp), fun ld H4 s4 n4 e4 => ⟨_, rfl, _, _, rfl, rfl, ⟨by decide, by decide⟩, _, _, rfl, rfl, (by show (0 : Int) < 8; decide), .inl ⟨ld, _, _, wv, rfl, rfl, SqL.of e4, ?_, ?_⟩⟩⟩
    · show atI _ (c / 200 % 8) = some wv
      rw [hj2]
      exact atI_nat hwv
    have s04 := s03.trans s4
    have hE := hE.mono s04
    have hW := hW.mono s04
    have hpn := s04.at hpn
    have hkp := hkp.mono s4
    have back : ∀ {H' : Hp}, Same H4 H' → ∀ b o, b ≠ e → b ≠ lw → H b = some o → H' b = some o := fun s5 b o _ _ z => s5.at (s04.at z)
    clear s1 s2 s3 s4 s03 n1 n2 n3 n4 e1 e2 e3 e4 hxk
    show WSs _ _ _ [some (.ref e), some (.ref pn), some (.int c), some (.ref lw), some pq, some wv] H4
    have memw : (∃ x ∈ names, pq = .str x) ↔ ∃ x ∈ ws, pq = .str x := ⟨fun ⟨x, hx, e⟩ => ⟨x, hperm.mem_iff.mpr hx, e⟩, fun ⟨x, hx, e⟩ => ⟨x, hperm.mem_iff.mp hx, e⟩⟩
    refine WSs.cut (fun σ H' => σ = [some (.ref e), some (.ref pn), some (.int c), some (.ref lw), some pq, some wv] ∧ Same H4 H' ∧ Good ws pq wv) ?_ ?_
    · refine WS.of (ps_if (PW.pt (pw_or (pt_cmpR (r := rNotInZ K) (oNotInZ hr) (pv 4) (pv 1) (by with_unfolding_all rfl)) (pw_or1 (pt_cmpR (r := rNotInY K) (oNotInY hr) (pv 5) (pe_tupS (pa_c pe_str (pa_c pe_str pa_nil))) (by with_unfolding_all rfl))))) pss_w pss_nil) ⟨_, rfl, _, rfl, part_notIn (SqL.of hpn) hkp (fun hx => ⟨_, rfl, ite2 (fun h => absurd h (by decide)) (fun _ => ?_)⟩) (fun hx => ⟨_, rfl, ite2 (fun _ => ?_) (fun h => absurd rfl h)⟩)⟩
      · refine ⟨_, rfl, sz (by simp), fun p H5 s5 n5 e5 => way_notIn e5 hkw (fun hy => ⟨_, rfl, ite2 (fun h => absurd h (by decide)) (fun _ => ⟨rfl, s5, memw.mp hx, hy⟩)⟩) (fun hy => ⟨_, rfl, ite2 (fun _ => ?_) (fun h => absurd rfl h)⟩)⟩
        have hb : ¬ Good ws pq wv := fun g => hy g.2
        exact WSs.last (ps_ret (pe_and (pe_cmpR (r := rEqX K) (oEqX hr) (pe_call (G__law_failed T) hr rfl T.m__law_failed T.d__law_failed.F.kp T.d__law_failed.b .nil pass0 (pa_c (pv 0) (pa_c (pv 4) (pa_c (pv 5) pa_nil)))) pe_str (nomark _)) (pe_one (pe_call (G__law_failed_by_any T) hr rfl T.m__law_failed_by_any T.d__law_failed_by_any.F.kp T.d__law_failed_by_any.b .nil pass0 (pa_c (pv 0) (pa_c (pv 4) (pa_c (pv 5) pa_nil))))))) ⟨_, rfl, _, rfl, _, rfl, e, wd, ws, a, pq, wv, rfl, hE.mono s5, hkp.mono s5, hkw, fun H6 s6 _ => .inl ⟨rfl, _, rfl, ite2 (fun _ => ⟨_, rfl, _, rfl, _, rfl, e, wd, ws, a, pq, wv, rfl, (hE.mono s5).mono s6, (hkp.mono s5).mono s6, hkw, .inl hb, fun H7 s7 => q a H7 (back (s5.trans (s6.trans s7))) (((hE.mono s5).mono s6).mono s7) (((hW.mono s5).mono s6).mono s7) haw⟩) (fun h => absurd (by simp) h)⟩, fun _ _ g _ => absurd g hb, fun x y _ e1 e2 hx hy _ _ _ => absurd ⟨⟨x, hx, e1⟩, by rcases hy with y | y <;> rw [e2, y] <;> simp⟩ hb⟩
      · have hb : ¬ Good ws pq wv := fun g => hx (memw.mpr g.1)
        have s5 : Same H4 H4 := Same.refl _
        exact WSs.last (ps_ret (pe_and (pe_cmpR (r := rEqX K) (oEqX hr) (pe_call (G__law_failed T) hr rfl T.m__law_failed T.d__law_failed.F.kp T.d__law_failed.b .nil pass0 (pa_c (pv 0) (pa_c (pv 4) (pa_c (pv 5) pa_nil)))) pe_str (nomark _)) (pe_one (pe_call (G__law_failed_by_any T) hr rfl T.m__law_failed_by_any T.d__law_failed_by_any.F.kp T.d__law_failed_by_any.b .nil pass0 (pa_c (pv 0) (pa_c (pv 4) (pa_c (pv 5) pa_nil))))))) ⟨_, rfl, _, rfl, _, rfl, e, wd, ws, a, pq, wv, rfl, hE.mono s5, hkp.mono s5, hkw, fun H6 s6 _ => .inl ⟨rfl, _, rfl, ite2 (fun _ => ⟨_, rfl, _, rfl, _, rfl, e, wd, ws, a, pq, wv, rfl, (hE.mono s5).mono s6, (hkp.mono s5).mono s6, hkw, .inl hb, fun H7 s7 => q a H7 (back (s5.trans (s6.trans s7))) (((hE.mono s5).mono s6).mono s7) (((hW.mono s5).mono s6).mono s7) haw⟩) (fun h => absurd (by simp) h)⟩, fun _ _ g _ => absurd g hb, fun x y _ e1 e2 hx hy _ _ _ => absurd ⟨⟨x, hx, e1⟩, by rcases hy with y | y <;> rw [e2, y] <;> simp⟩ hb⟩
    rintro σ H5 ⟨rfl, s5, good⟩
    have hE := hE.mono s5
    have hW := hW.mono s5
    have hkp := hkp.mono s5
    have back : ∀ {H' : Hp}, Same H5 H' → ∀ b o, b ≠ e → b ≠ lw → H b = some o → H' b = some o := fun s6 => back (s5.trans s6)
    refine WSs.cut (fun σ H' => σ = [some (.ref e), some (.ref pn), some (.int c), some (.ref lw), some pq, some wv] ∧ Same H5 H' ∧ a = none) ?_ ?_
    · refine WS.of (ps_if (pt_cmpR (r := rNeY K) (oNeY hr) (pv 3) (pe_lstS pa_nil) (nomark _)) pss_w pss_nil) ⟨_, rfl, sz (by simp), fun l0 H6 s6 n6 e6 => ?_⟩
      cases a with
      | none =>
        have hW : H5 lw = some (.lst []) := hW
        exact .inr (.inl ⟨1, .lst [], .lst [], by decide, .inr ⟨_, _, rfl, rfl⟩, Im.lst (SqL.of (s6.at hW)) .nil, Im.lst (SqL.of e6) .nil, _, rfl, ite2 (fun h => absurd h (by simp)) (fun _ => ⟨rfl, s6, rfl⟩)⟩)
      | some z =>
        obtain ⟨t, w1, w2⟩ := id hW
        refine .inr (.inl ⟨2, .lst [.tup [.str z.1, .str z.2]], .lst [], by decide, .inr ⟨_, _, rfl, rfl⟩, Im.lst (SqL.of (s6.at w1)) (.cons (Im.tup (SqT.of (s6.at w2)) (.cons (.str _) (.cons (.str _) .nil))) .nil), Im.lst (SqL.of e6) .nil, _, rfl, ite2 (fun _ => ?_) (fun h => absurd (by simp) h)⟩)
        exact WSs.last (ps_ret (pe_and (pe_cmpR (r := rEqX K) (oEqX hr) (pe_call (G__law_failed T) hr rfl T.m__law_failed T.d__law_failed.F.kp T.d__law_failed.b .nil pass0 (pa_c (pv 0) (pa_c (pv 4) (pa_c (pv 5) pa_nil)))) pe_str (nomark _)) (pe_one (pe_call (G__law_failed_by_any T) hr rfl T.m__law_failed_by_any T.d__law_failed_by_any.F.kp T.d__law_failed_by_any.b .nil pass0 (pa_c (pv 0) (pa_c (pv 4) (pa_c (pv 5) pa_nil))))))) ⟨_, rfl, _, rfl, _, rfl, e, wd, ws, some z, pq, wv, rfl, hE.mono s6, hkp.mono s6, hkw, fun _ _ g => absurd good g, fun H7 s7 _ _ => .inl ⟨rfl, _, rfl, ite2 (fun _ => ⟨_, rfl, _, rfl, _, rfl, e, wd, ws, some z, pq, wv, rfl, (hE.mono s6).mono s7, (hkp.mono s6).mono s7, hkw, .inr (by simp), fun H8 s8 => q (some z) H8 (back (s6.trans (s7.trans s8))) (((hE.mono s6).mono s7).mono s8) (((hW.mono s6).mono s7).mono s8) haw⟩) (fun h => absurd (by simp) h)⟩, fun _ _ _ _ _ _ _ h => nomatch h⟩
    rintro σ H6 ⟨rfl, s6, rfl⟩
    have hE := hE.mono s6
    have hW : H6 lw = some (.lst []) := s6.at hW
    have hkp := hkp.mono s6
    obtain ⟨⟨x, hx, rfl⟩, hy⟩ := good
    obtain ⟨y, rfl, hy'⟩ : ∃ y : Str, wv = .str y ∧ (y = "blind" ∨ y = "stuck") := by
      rcases hy with z | z
      · exact ⟨_, z, .inl rfl⟩
      · exact ⟨_, z, .inr rfl⟩
    refine WSs.step (ps_expr (pe_bm PySem.F.plainAttrs_list PySem.F.slot_list_append PySem.F.type_list_append mt_append (pv 3) (pa_c (pe_tupS (pa_c (pv 4) (pa_c (pv 5) pa_nil))) pa_nil))) ⟨_, rfl, .inl ⟨rfl, _, SqL.of hW⟩, _, rfl, _, rfl, sz (by simp), fun t H7 s7 n7 e7 => ⟨lw, _, _, rfl, rfl, s7.at hW, sz (by simp), ?_⟩⟩
    obtain ⟨H8, hH8⟩ : ∃ H8, H8 = upd H7 lw (.lst ([] ++ [.ref t])) := ⟨_, rfl⟩
    rw [← hH8]
    have off : ∀ b o, b ≠ lw → H7 b = some o → H8 b = some o := fun b o hb z => by rw [hH8, upd_ne hb]; exact z
    have hl8 : H8 lw = some (.lst [.ref t]) := by rw [hH8]; exact upd_same
    have htl : t ≠ lw := fun z => by rw [z, hW] at n7; cases n7
    have hE8 : EyesAt T H8 e wd ws none := by
      obtain ⟨⟨dx, v, h1, h2⟩, h3⟩ := hE.mono s7
      refine ⟨⟨dx, v, off _ _ (fun z => by rw [z, s7.at hW] at h1; cases h1) h1, h2⟩, off _ _ (Ne.symm hlwd) h3⟩
    refine WSs.last (ps_ret (pe_cmpR op_isB (pe_call (G__law_failed T) hr rfl T.m__law_failed T.d__law_failed.F.kp T.d__law_failed.b .nil pass0 (pa_c (pv 0) (pa_c (pv 4) (pa_c (pv 5) pa_nil)))) pe_bl (nomark _))) ⟨_, rfl, _, rfl, _, rfl, e, wd, ws, none, _, _, rfl, hE8, .inl ⟨x, rfl⟩, hkw, fun _ _ g => absurd ⟨⟨x, hx, rfl⟩, hy⟩ g, fun _ _ _ h => absurd rfl h, fun x' y' H9 e1 e2 _ _ _ fr hE9 => ⟨true, true, rfl, rfl, ?_⟩⟩
    cases e1
    cases e2
    have nle : lw ≠ e := fun z => by
      obtain ⟨⟨dx, v, h1, _⟩, _⟩ := hE8
      rw [← z, hl8] at h1; cases h1
    have nte : t ≠ e := fun z => by
      obtain ⟨⟨dx, v, h1, _⟩, _⟩ := hE
      rw [← z, n7] at h1; cases h1
    exact q (some (x, y)) H9 (fun b o h1 h2 z => fr b o h1 (off b o h2 (back (s6.trans s7) b o h1 h2 z))) hE9 ⟨t, fr _ _ nle hl8, fr _ _ nte (off _ _ htl e7)⟩ (fun z hz => by cases hz; exact hx)
theorem G__law_fail (T : Tx K mg) {k : Nat} (h : 3 ≤ k := by decide) : FnOk P w K mg base CX0 k T.d__law_fail.f T.d__law_fail.fd ["_law_eyes", "_law_names_here", "_law_cell", "_law_wrong"] (spLFail T) := (ok__law_fail T).mono h
/-! ### what eyes tell -/
def HeldAt (H : Hp) (lh : Addr) (n : Nat) : Prop := ∃ ps : List Addr, H lh = some (.lst (ps.map V.ref)) ∧ ps.length ≤ n ∧ ∀ p ∈ ps, ∃ f g L, H p = some (.tup [.ref f, .ref g]) ∧ (L.map Prod.fst).Nodup ∧ H f = some (.dK (encG V.bl L)) ∧ H g = some (.dK (encG V.bl L))
theorem HeldAt.off {H H' : Hp} {lh : Addr} {n : Nat} (h : HeldAt H lh n) (k : ∀ b o, H b = some o → ((∃ xs, o = .lst xs ∧ b = lh) ∨ (∃ xs, o = .tup xs) ∨ ∃ kvs, o = .dK kvs) → H' b = some o) : HeldAt H' lh n := by
  obtain ⟨ps, h1, h2, h3⟩ := h
  refine ⟨ps, k _ _ h1 (.inl ⟨_, rfl, rfl⟩), h2, fun p hp => ?_⟩
  obtain ⟨f, g, L, a1, a2, a3, a4⟩ := h3 p hp
  exact ⟨f, g, L, k _ _ a1 (.inr (.inl ⟨_, rfl⟩)), a2, k _ _ a3 (.inr (.inr ⟨_, rfl⟩)), k _ _ a4 (.inr (.inr ⟨_, rfl⟩))⟩
theorem HeldAt.mono {H H' : Hp} {lh : Addr} {n : Nat} (s : Same H H') (h : HeldAt H lh n) : HeldAt H' lh n := h.off fun _ _ z _ => s.at z
theorem tells_nd {ws : List Str} {tk : List (Str × Bool)} {a : Option (Str × Str)} (h : ws.Nodup) : ((tellsL ws tk a).map Prod.fst).Nodup := by
  have hb : ((baseL ws tk).map Prod.fst).Nodup := by rw [baseL_fst]; exact h
  cases a with
  | none => exact hb
  | some z => exact putA_nd hb
theorem tells_fst {ws : List Str} {tk : List (Str × Bool)} {a : Option (Str × Str)} (h : ∀ z, a = some z → z.1 ∈ ws) : (tellsL ws tk a).map Prod.fst = ws := by
  cases a with
  | none => exact baseL_fst _ _
  | some z =>
    show (putA _ _ _).map Prod.fst = ws
    rw [putA_fst, baseL_fst, if_pos (h z rfl)]
theorem same_self {H : Hp} {L : List (Str × Bool)} (nd : (L.map Prod.fst).Nodup) : ∀ kv ∈ encG V.bl L, ∃ v, valV (encG V.bl L) kv.1 = some v ∧ SameV K H kv.2 v := fun kv hkv => by
  obtain ⟨e, he, rfl⟩ := List.mem_map.mp hkv
  exact ⟨V.bl e.2, get_encG nd he, .inl ⟨rfl, rfl, by show (e.2 == e.2) = true; simp⟩⟩
theorem comp_keys {d : Addr} {o : Obj} {kvs : List (Key × V)} {fr : St → St} {g : TG} {tf : TT} {te : TE} {Q : VK} {σ : St} {H1 : Hp} {D : Addr} (Pv : Nat → List V → Hp → Prop) (h0 : Pv 0 [] (upd H1 D (.lst []))) (hl : ∀ i ys H, i ≤ kvs.length → Pv i ys H → H d = some (.frz o (.dK kvs)))
    (hs : ∀ i kv ys H, kvs[i]? = some kv → Pv i ys H → CompT fr g tf te σ D (kV kv.1) ys H (Pv (i + 1))) (hd : ∀ ys H, Pv kvs.length ys H → Q (.ref D) H) : CompW (Itd d o kvs) fr g tf te Q σ H1 D := by
  refine ⟨fun i m ys H => m = kvs.length - i ∧ i ≤ kvs.length ∧ Pv i ys H, ⟨kvs.length, by simp, Nat.zero_le _, h0⟩, ?_⟩
  rintro i m ys H ⟨rfl, hi, p⟩
  have q := hl i ys H hi p
  by_cases hlt : i < kvs.length
  · refine .inr ⟨⟨q, hlt⟩, Pv (i + 1), fun ys' H' p' => ⟨kvs.length - (i + 1), by omega, rfl, hlt, p'⟩, fun x H' y => ?_⟩
    obtain ⟨e, kv, hkv, ex⟩ := y
    subst e ex
    exact hs i kv ys _ hkv p
  · have e : i = kvs.length := by omega
    subst e
    exact .inl ⟨⟨q, Nat.le_refl _⟩, hd ys H p⟩
theorem kit_self {n : String} : PySem.W.kitOne K (.type n) (.type n) = some true := by
  unfold PySem.W.kitOne
  simp
theorem sames_bl {H : Hp} : ∀ L : List (Str × Bool), Paired (SameD K H) (L.map fun e => V.bl e.2) (L.map fun e => V.bl e.2)
  | [] => .nil
  | x :: L => .cons (.inl (.inl ⟨rfl, rfl, by show (x.2 == x.2) = true; simp⟩)) (sames_bl L)
def spTold (T : Tx K mg) : Sp := fun vs H Q _ => ∃ (e wd pn lw lh : Addr) (c : Int) (ws names : List Str) (a : Option (Str × Str)) (n : Nat), vs = [.ref e, .ref pn, .int c, .ref lw, .ref lh] ∧ EyesAt T H e wd ws a ∧ (∀ z, a = some z → z.1 ∈ ws) ∧ H pn = some (.lst (names.map V.str)) ∧ names.length ≤ 12 ∧ ws.Perm names ∧ ws.Nodup ∧ PyProof.Rows.sortedS ws = true ∧ WrongAt H lw a ∧ HeldAt H lh n ∧ n ≤ 50 ∧ lh ≠ pn ∧ lh ≠ lw ∧ lh ≠ wd ∧
  ∀ H', (∀ b o, b ≠ lh → H b = some o → H' b = some o) → HeldAt H' lh (n + 1) → Q (.bl true) H'
theorem ok__law_told (T : Tx K mg) : FnOk P w K mg base CX0 3 T.d__law_told.f T.d__law_told.fd ["_law_eyes", "_law_names_here", "_law_cell", "_law_wrong", "_law_held"] (spTold T) := by
  refine T.d__law_told.F.okW sc__law_told (fun vs H Q E h => ?_) (fun cdv A outer s H vs Q E hr h => ?_)
  · obtain ⟨e, wd, pn, lw, lh, c, ws, names, a, n, rfl, _⟩ := h
    rfl
  · obtain ⟨e, wd, pn, lw, lh, c, ws, names, a, n, rfl, hE, haw, hpn, hnl, hperm, hnd, hsort, hW, hH, hn, x1, x2, x3, q⟩ := h
    have hwl : ws.length ≤ 12 := by rw [hperm.length_eq]; exact hnl
    refine WSs.step (ps_set (i := 5) sc__law_told.nd rfl (by first | exact Or.inl rfl | exact Or.inr rfl) pe_dnewKS) fun dk H1 s1 n1 e1 => ?_
    refine WSs.step (ps_for PassesOwn.never rfl (pi_enum rfl T.n_enumerate (pa_c (pe_op oAdd (pv 1) (pe_lstS (pa_c pe_str pa_nil))) pa_nil)) (pg_tup rfl (pgs_cons (pg_name (i := 6) sc__law_told.nd rfl (by first | exact Or.inl rfl | exact Or.inr rfl)) (pgs_cons (pg_name (i := 7) sc__law_told.nd rfl (by first | exact Or.inl rfl | exact Or.inr rfl)) pgs_nil))) pss_w) ⟨_, rfl, sz (by simp), fun lz H2 s2 n2 e2 => .inr (.inr ⟨pn, lz, _, _, rfl, rfl, s2.at (s1.at hpn), e2, by rw [List.length_map]; exact sz (by simp; omega), fun lc H3 s3 n3 e3 => ⟨lc, rfl, ⟨_, SqL.of e3⟩, ?_⟩⟩)⟩
    have e1 := s3.at (s2.at e1)
    have s03 := s1.trans (s2.trans s3)
    have hdl : lc ≠ dk := fun z => by rw [z, s2.at ‹H1 dk = _›] at n3; cases n3
    refine for_enum (xs := names.map V.str ++ [V.str "zz"]) (fun i σ H' => (∃ o6 o7 o8, σ = [some (.ref e), some (.ref pn), some (.int c), some (.ref lw), some (.ref lh), some (.ref dk), o6, o7, o8, none, none, none]) ∧ Same H H' ∧ H' lc = some (.lst (names.map V.str ++ [V.str "zz"])) ∧ ∃ tk : List (Str × Bool), H' dk = some (.dK (encG V.bl tk)) ∧ (tk.map Prod.fst).Nodup ∧ tk.length ≤ i) ⟨⟨none, none, none, rfl⟩, s03, e3, [], e1, List.nodup_nil, Nat.zero_le _⟩ ?_ ?_ ?_
    · rintro i σ H' _ ⟨_, _, e, _⟩
      exact SqL.of e
    · rintro i x' σ H4 hi ⟨⟨o6, o7, o8, rfl⟩, s4, el4, tk, htk, hkn, hkl⟩ p H5 s5 n5 e5
      obtain ⟨y, rfl⟩ : ∃ y, x' = V.str y := by
        have := List.mem_of_getElem? hi
        rw [List.mem_append] at this
        rcases this with z | z
        · obtain ⟨y, _, rfl⟩ := List.mem_map.mp z; exact ⟨y, rfl⟩
        · rw [List.mem_singleton] at z; exact ⟨_, z⟩
      have hil : i < (names.map V.str ++ [V.str "zz"]).length := (List.getElem?_eq_some_iff.mp hi).1
      rw [List.length_append, List.length_map] at hil
      have hil : i < 13 := by simp at hil; omega
      refine ⟨p, _, rfl, SqT.of e5, rfl, _, _, rfl, _, _, rfl, rfl, ?_⟩
      have s45 := s4.trans s5
      have htk5 := s5.at htk
      refine WSs.step (ps_set (i := 8) sc__law_told.nd rfl (by first | exact Or.inl rfl | exact Or.inr rfl) (pe_call (G__law_mixed T) hr rfl T.m__law_mixed T.d__law_mixed.F.kp T.d__law_mixed.b .nil pass0 (pa_c (pv 2) (pa_c (pv 6) pa_nil)))) ⟨_, rfl, _, rfl, c, _, rfl, fun dr => ?_⟩
      refine WSs.last (ps_if (pt_cmpR op_gt (pe_op op_mod (pv 8) pe_int) pe_int (nomark _)) pss_w pss_nil) ⟨_, rfl, _, _, rfl, rfl, (by show (0 : Int) < 3; decide), _, _, rfl, rfl, _, rfl, ite2 (fun _ => ?_) (fun _ => ⟨⟨_, _, _, rfl⟩, s45, s5.at el4, tk, htk5, hkn, by omega⟩)⟩
      refine WSs.last (ps_dput (hu_of hr) (pv 5) (pv 7) (pe_cmpR (r := rEqX K) (oEqX hr) (pe_op op_mod (pe_op op_fdiv (pv 8) pe_int) pe_int) pe_int (nomark _)) rfl) ⟨_, rfl, _, _, rfl, rfl, ⟨by decide, by decide⟩, _, _, rfl, rfl, (by show (0 : Int) < 2; decide), .inl ⟨rfl, _, rfl, _, rfl, dk, _, rfl, DPut.k (k := Sum.inr y) htk5 ?_, ⟨_, _, _, rfl⟩, ?_, ?_, putA tk y (decide (V.int (dr / 3 % 2) = V.int 1)), ?_, putA_nd hkn, ?_⟩⟩
      · rw [show (encG V.bl tk).length = tk.length from List.length_map ..]; exact small1000 (by omega)
      · intro b o z
        rw [upd_ne (ne_of_none z n1)]; exact s45.at z
      · rw [upd_ne hdl]; exact s5.at el4
      · rw [upd_same]; exact congrArg (fun z => some (HO.dK z)) (putA_enc (f := V.bl) tk y _)
      · have := putA_len tk y (decide (V.int (dr / 3 % 2) = V.int 1)); omega
    · rintro σ H4 ⟨⟨o6, o7, o8, rfl⟩, s4, el4, tk, htk, hkn, hkl⟩
      have hkl : tk.length ≤ 20 := by rw [List.length_append, List.length_map] at hkl; simp at hkl; omega
      refine WSs.step (ps_set (i := 9) sc__law_told.nd rfl (by first | exact Or.inl rfl | exact Or.inr rfl) pe_dnewKS) fun dd H5 s5 n5 e5 => ?_
      have s05 := s4.trans s5
      have hdd0 : H dd = none := s4.free n5
      refine WSs.step (ps_for PassesOwn.never rfl (pi_list (pe_callB (r := rSortS K) call_sortS (by rfl) T.n_sorted PyProof.Rows.boot_sorted (pa_c (pv 1) pa_nil))) (pg_name (i := 7) sc__law_told.nd rfl (by first | exact Or.inl rfl | exact Or.inr rfl)) pss_w) ⟨_, rfl, pn, names, rfl, SqL.of (s05.at hpn), by omega, fun ss' p1 p2 ls H6 s6 n6 e6 => ⟨ls, rfl, ⟨_, SqL.of e6⟩, ?_⟩⟩
      obtain rfl : ss' = ws := sorted_one p2 hsort (p1.trans hperm.symm)
      have hlsd : ls ≠ dd := Ne.symm (ne_of_none e5 n6)
      have hdkd : dk ≠ dd := ne_of_none htk n5
      refine for_list (xs := ss'.map V.str) (fun i σ H' => (∃ o7, σ = [some (.ref e), some (.ref pn), some (.int c), some (.ref lw), some (.ref lh), some (.ref dk), o6, o7, o8, some (.ref dd), none, none]) ∧ Same H H' ∧ H' ls = some (.lst (ss'.map V.str)) ∧ H' dk = some (.dK (encG V.bl tk)) ∧ H' dd = some (.dK (encG V.bl (baseL (ss'.take i) tk)))) ⟨⟨_, rfl⟩, s05.trans s6, e6, s6.at (s5.at htk), s6.at e5⟩ ?_ ?_ ?_
      · rintro i σ H' _ ⟨_, _, z, _⟩
        exact SqL.of z
      · rintro i x' σ H7 hi ⟨⟨o7', rfl⟩, s7, l7, k7, d7⟩
        rw [List.getElem?_map] at hi
        obtain ⟨y, hy, rfl⟩ := Option.map_eq_some_iff.mp hi
        have hno : y ∉ (baseL (ss'.take i) tk).map Prod.fst := by
          rw [baseL_fst]
          have h2 : (ss'.take (i + 1)).Nodup := List.Pairwise.sublist (List.take_sublist (i + 1) ss') hnd
          rw [List.take_add_one, hy, List.nodup_append] at h2
          exact fun hm => h2.2.2 y hm y (by simp) rfl
        refine WSs.last (ps_dput (hu_of hr) (pv 9) (pv 7) (pe_dget2 (hu_of hr) (pv 5) (pv 7) pe_bl ⟨rfl, rfl, rfl, rfl⟩) rfl) ⟨_, rfl, dk, rfl, .inl ⟨_, .inl k7⟩, _, rfl, _, DGet.k (k := Sum.inr y) k7, ?_⟩
        rw [getD_encB]
        refine ⟨_, rfl, _, rfl, dd, _, rfl, DPut.k (k := Sum.inr y) d7 ?_, ⟨_, rfl⟩, fun b o z => ?_, ?_, ?_, ?_⟩
        · rw [show (encG V.bl (baseL (ss'.take i) tk)).length = (ss'.take i).length by unfold encG baseL; rw [List.length_map, List.length_map], List.length_take]; exact small1000 (by omega)
        · rw [upd_ne (ne_of_none z hdd0)]; exact s7.at z
        · rw [upd_ne hlsd]; exact l7
        · rw [upd_ne hdkd]; exact k7
        · rw [upd_same, put_encG hno, List.take_add_one, hy]
          unfold baseL
          rw [List.map_append]
          rfl
      rintro σ H7 ⟨⟨o7', rfl⟩, s7, _, k7, d7⟩
      rw [List.length_map, List.take_length] at d7
      have hbl : (encG V.bl (baseL ss' tk)).length ≤ 20 := by unfold encG baseL; rw [List.length_map, List.length_map]; omega
      refine WSs.cut (fun σ H' => σ = [some (.ref e), some (.ref pn), some (.int c), some (.ref lw), some (.ref lh), some (.ref dk), o6, o7', o8, some (.ref dd), none, none] ∧ Same H H' ∧ H' dk = some (.dK (encG V.bl tk)) ∧ H' dd = some (.dK (encG V.bl (tellsL ss' tk a)))) ?_ ?_
      · refine WS.of (ps_if (pt_cmpR (r := rNeY K) (oNeY hr) (pv 3) (pe_lstS pa_nil) (nomark _)) pss_w pss_nil) ⟨_, rfl, sz (by simp), fun l0 H8 s8 n8 e8 => ?_⟩
        cases a with
        | none =>
          have hW : H lw = some (.lst []) := hW
          exact .inr (.inl ⟨1, .lst [], .lst [], by decide, .inr ⟨_, _, rfl, rfl⟩, Im.lst (SqL.of (s8.at (s7.at hW))) .nil, Im.lst (SqL.of e8) .nil, _, rfl, ite2 (fun h => absurd h (by simp)) (fun _ => ⟨rfl, s7.trans s8, s8.at k7, s8.at d7⟩)⟩)
        | some z =>
          obtain ⟨t, w1, w2⟩ := hW
          have w1 := s8.at (s7.at w1)
          have w2 := s8.at (s7.at w2)
          refine .inr (.inl ⟨2, .lst [.tup [.str z.1, .str z.2]], .lst [], by decide, .inr ⟨_, _, rfl, rfl⟩, Im.lst (SqL.of w1) (.cons (Im.tup (SqT.of w2) (.cons (.str _) (.cons (.str _) .nil))) .nil), Im.lst (SqL.of e8) .nil, _, rfl, ite2 (fun _ => ?_) (fun h => absurd (by simp) h)⟩)
          refine WSs.last (ps_dput (hu_of hr) (pv 9) (pe_ix (r := rIx K) ix_seq (pe_ix (r := rIx K) ix_seq (pv 3) pe_int (fun _ _ => rfl)) pe_int (fun _ _ => rfl)) (pe_cmpR (r := rEqX K) (oEqX hr) (pe_ix (r := rIx K) ix_seq (pe_ix (r := rIx K) ix_seq (pv 3) pe_int (fun _ _ => rfl)) pe_int (fun _ _ => rfl)) pe_str (nomark _)) rfl) ⟨_, rfl, .inl ⟨lw, _, _, .ref t, rfl, rfl, SqL.of w1, rfl, .inr (.inl ⟨t, _, _, .str z.2, rfl, rfl, SqT.of w2, rfl, .inl ⟨rfl, _, rfl, _, rfl, .inl ⟨lw, _, _, .ref t, rfl, rfl, SqL.of w1, rfl, .inr (.inl ⟨t, _, _, .str z.1, rfl, rfl, SqT.of w2, rfl, dd, _, rfl, DPut.k (k := Sum.inr z.1) (s8.at d7) (small1000 (by omega)), rfl, fun b o y => ?_, ?_, ?_⟩)⟩⟩⟩)⟩⟩
          · rw [upd_ne (ne_of_none y hdd0)]; exact s8.at (s7.at y)
          · rw [upd_ne hdkd]; exact s8.at k7
          · rw [upd_same]
            have := putA_enc (f := V.bl) (baseL ss' tk) z.1 (decide (z.2 = "stuck"))
            show some (HO.dK (putK (encG V.bl (baseL ss' tk)) (Sum.inr z.1) (.bl (decide (V.str z.2 = V.str "stuck"))))) = some (HO.dK (encG V.bl (putA (baseL ss' tk) z.1 (decide (z.2 = "stuck")))))
            rw [← this, show decide (V.str z.2 = V.str "stuck") = decide (z.2 = "stuck") from decide_eq_decide.mpr ⟨fun y => V.str.inj y, fun y => by rw [y]⟩]
      rintro σ H8 ⟨rfl, s8, k8, d8⟩
      clear s1 s2 s3 s03 s4 s5 s05 s6 s7 n2 n3 n6 el4 e6 e5 htk k7 d7 e3 e2
      obtain ⟨L, hL⟩ : ∃ L, L = tellsL ss' tk a := ⟨_, rfl⟩
      have hLn : (L.map Prod.fst).Nodup := hL ▸ tells_nd hnd
      have hLf : L.map Prod.fst = ss' := hL ▸ tells_fst haw
      have hLl : L.length ≤ 12 := by rw [← List.length_map (f := Prod.fst), hLf]; exact hwl
      rw [← hL] at d8
      refine WSs.step (ps_set (i := 10) sc__law_told.nd rfl (by first | exact Or.inl rfl | exact Or.inr rfl) (pe_callTy (r := rDict) call_dictS (by rfl) T.n_dict PyProof.Rows.boot_dict (pa_c (pv 5) pa_nil))) ⟨_, rfl, dk, _, rfl, .inl k8, fun dh H9 s9 n9 e9 => ?_⟩
      have hE9 := hE.mono (s8.trans s9)
      obtain ⟨⟨dx, v, h1, h2⟩, h3⟩ := id hE9
      refine WSs.step (ps_set (i := 11) sc__law_told.nd rfl (by first | exact Or.inl rfl | exact Or.inr rfl) (pe_meth (pv 0) T.clEyes T.mtEyes_tells (G_Eyes_tells T) hr T.d_Eyes_tells.b .nil pass0 (pa_c (pv 10) pa_nil))) ⟨_, rfl, e, dx, _, rfl, h1, rfl, _, rfl, e, wd, dh, ss', a, tk, rfl, hE9, hnd, by omega, e9, fun f H10 s10 n10 e10 => ?_⟩
      rw [← hL] at e10
      have s09 := s8.trans (s9.trans s10)
      obtain ⟨ps, l1, l2, l3⟩ := hH.mono s09
      refine WSs.step (ps_expr (pe_bm PySem.F.plainAttrs_list PySem.F.slot_list_append PySem.F.type_list_append mt_append (pv 4) (pa_c (pe_tupS (pa_c (pv 11) (pa_c (pe_callTy (r := rDict) call_dictS (by rfl) T.n_dict PyProof.Rows.boot_dict (pa_c (pv 9) pa_nil)) pa_nil))) pa_nil))) ⟨_, rfl, .inl ⟨rfl, _, SqL.of l1⟩, _, rfl, _, rfl, dd, _, rfl, .inl (s10.at (s9.at d8)), fun de H11 s11 n11 e11 => ⟨sz (by simp), fun tp H12 s12 n12 e12 => ⟨lh, _, _, rfl, rfl, s12.at (s11.at l1), by rw [List.length_map]; exact small1000 (by omega), ?_⟩⟩⟩
      obtain ⟨H13, hH13⟩ : ∃ H13, H13 = upd H12 lh (.lst (ps.map V.ref ++ [.ref tp])) := ⟨_, rfl⟩
      rw [← hH13]
      have off : ∀ b o, b ≠ lh → H12 b = some o → H13 b = some o := fun b o hb z => by rw [hH13, upd_ne hb]; exact z
      have notL : ∀ {b o}, H12 b = some o → (∀ xs, o ≠ .lst xs) → H13 b = some o := fun {b o} z h => off b o (fun y => by rw [y, s12.at (s11.at l1)] at z; exact h _ (Option.some.inj z).symm) z
      have s012 := s09.trans (s11.trans s12)
      have hh13 : HeldAt H13 lh (n + 1) := by
        refine ⟨ps ++ [tp], by rw [hH13, upd_same, List.map_append]; rfl, by rw [List.length_append]; simp; omega, fun p hp => ?_⟩
        rcases List.mem_append.mp hp with z | z
        · obtain ⟨f', g', L', a1, a2, a3, a4⟩ := l3 p z
          exact ⟨f', g', L', notL (s12.at (s11.at a1)) (fun _ z => nomatch z), a2, notL (s12.at (s11.at a3)) (fun _ z => nomatch z), notL (s12.at (s11.at a4)) (fun _ z => nomatch z)⟩
        · rw [List.mem_singleton] at z
          exact ⟨f, de, L, z ▸ notL e12 (fun _ z => nomatch z), hLn, notL (s12.at (s11.at e10)) (fun _ z => nomatch z), notL (s12.at e11) (fun _ z => nomatch z)⟩
      have hf13 : H13 f = some (.dK (encG V.bl L)) := notL (s12.at (s11.at e10)) (fun _ z => nomatch z)
      have hd13 : H13 dd = some (.dK (encG V.bl L)) := notL (s12.at (s11.at (s10.at (s9.at d8)))) (fun _ z => nomatch z)
      have hk13 : H13 dk = some (.dK (encG V.bl tk)) := notL (s12.at (s11.at (s10.at (s9.at k8)))) (fun _ z => nomatch z)
      have hh : H13 dh = some (.dK (encG V.bl tk)) := notL (s12.at (s11.at (s10.at e9))) (fun _ z => nomatch z)
      have hp13 : H13 pn = some (.lst (names.map V.str)) := off _ _ (Ne.symm x1) (s012.at hpn)
      have hE13 : EyesAt T H13 e wd ss' a := by
        obtain ⟨⟨dx, v, h1, h2⟩, h3⟩ := hE.mono s012
        exact ⟨⟨dx, v, notL h1 (fun _ z => nomatch z), h2.mono fun b xs z => notL z (fun _ z => nomatch z)⟩, off _ _ (Ne.symm x3) h3⟩
      have fr13 : ∀ b o, b ≠ lh → H b = some o → H13 b = some o := fun b o hb z => off b o hb (s012.at z)
      have hfd : f ≠ dd := Ne.symm (ne_of_none (s9.at d8) n10)
      clear s8 s9 s10 s11 s12 s09 s012 n9 n10 n11 n12 off notL hH13 l1 l2 l3 e9 e10 e11 e12 h1 h2 h3 hE9 k8 d8
      refine WSs.cut (fun σ H' => σ = [some (.ref e), some (.ref pn), some (.int c), some (.ref lw), some (.ref lh), some (.ref dk), o6, o7', o8, some (.ref dd), some (.ref dh), some (.ref f)] ∧ Same H13 H') ?_ ?_
      · refine WS.of (ps_if (PW.pt (pw_or (pt_not (pt_val (pe_callB (r := rIsi K) call_isiX (by rfl) T.n_isinstance PyProof.Rows.boot_isinstance (pa_c (pv 11) (pa_c (pe_bltn (v := .ty "dict") (by rfl) T.n_dict PyProof.Rows.boot_dict rfl) pa_nil))))) (pw_or (pt_cmpR (r := rNeY K) (oNeY hr) (pe_callTy (r := rListK) (call_listK rfl) (by rfl) T.n_list PyProof.Rows.boot_list (pa_c (pv 11) pa_nil)) (pe_callB (r := rSortS K) call_sortS (by rfl) T.n_sorted PyProof.Rows.boot_sorted (pa_c (pv 1) pa_nil)) (nomark _)) (pw_or1 (pt_cmpR (r := rNeY K) (oNeY hr) (pv 10) (pv 5) (nomark _)))))) pss_w pss_nil) ⟨_, rfl, _, _, true, _, rfl, TyOf.dK hf13, .inl ⟨_, rfl, kit_self⟩, _, rfl, ite2 (fun h => absurd h (by decide)) (fun _ => ?_)⟩
        refine ⟨_, rfl, f, _, rfl, .inl hf13, fun ll H14 s14 n14 e14 => ⟨_, rfl, pn, names, rfl, SqL.of (s14.at hp13), by omega, fun ss2 p1 p2 lm H15 s15 n15 e15 => ?_⟩⟩
        have hs2 : ss2 = ss' := sorted_one p2 hsort (p1.trans hperm.symm)
        rw [hs2] at e15
        rw [show (encG V.bl L).map (fun kv => kV kv.1) = (L.map Prod.fst).map V.str by unfold encG; rw [List.map_map, List.map_map]; rfl, hLf] at e14
        have im : ∀ {H' : Hp} {l : Addr} {ws : List Str}, H' l = some (.lst (ws.map V.str)) → Im K H' 1 (.lst (ws.map Tr.str)) (.ref l) := fun {H' l ws} h => by
          refine Im.lst (SqL.of h) ?_
          clear h
          induction ws with
          | nil => exact .nil
          | cons x ws ih => exact .cons (.str _) ih
        refine .inr (.inl ⟨1, .lst (ss'.map Tr.str), .lst (ss'.map Tr.str), by decide, .inr ⟨_, _, rfl, rfl⟩, im (s15.at e14), im e15, _, rfl, ite2 (fun h => absurd h (by simp)) (fun _ => ?_)⟩)
        exact ⟨_, rfl, _, rfl, .inr (.inr ⟨dh, dk, _, _, rfl, rfl, .inl (s15.at (s14.at hh)), .inl (s15.at (s14.at hk13)), rfl, same_self hkn, _, rfl, ite2 (fun h => absurd h (by decide)) (fun _ => ⟨rfl, s14.trans s15⟩)⟩)⟩
      rintro σ H14 ⟨rfl, s14⟩
      have hf := s14.at hf13
      have hd := s14.at hd13
      refine WSs.last (ps_ret (pe_and (pe_cmpR (r := rEqLD K false) (op_eqLD hr.units) (pe_thaw (pe_comp (N' := ["_law_name", "_law_found"]) rfl (CompScope.std 1 [11] rfl (by decide +kernel) (by decide +kernel) rfl ⟨rfl, trivial⟩ rfl rfl ⟨⟨_, rfl, rfl, rfl⟩, trivial⟩) (pi_keys (pv 11)) (fun _ _ _ _ => (pg_name (i := 0) (by show (["_law_name", "_law_found"] : List Str).Nodup; decide +kernel) rfl (Or.inl (lookup_relabel_local rfl)) (Or.inr (lookup_relabel_local rfl)))) (fun _ _ _ _ => pf_nil) (fun _ _ _ _ => (pe_dget (hu_of hr) (pv 1) (pv 0) (fun _ _ => rfl))))) (pe_thaw (pe_comp (N' := ["_law_name", "_law_due"]) rfl (CompScope.std 1 [9] rfl (by decide +kernel) (by decide +kernel) rfl ⟨rfl, trivial⟩ rfl rfl ⟨⟨_, rfl, rfl, rfl⟩, trivial⟩) (pi_keys (pv 11)) (fun _ _ _ _ => (pg_name (i := 0) (by show (["_law_name", "_law_due"] : List Str).Nodup; decide +kernel) rfl (Or.inl (lookup_relabel_local rfl)) (Or.inr (lookup_relabel_local rfl)))) (fun _ _ _ _ => pf_nil) (fun _ _ _ _ => (pe_dget (hu_of hr) (pv 1) (pv 0) (fun _ _ => rfl))))) (nomark _)) (pe_one (pe_cmpR (r := rEqX K) (oEqX hr) (pe_meth (pv 0) T.clEyes T.mtEyes_tells (G_Eyes_tells T) hr T.d_Eyes_tells.b .nil pass0 (pa_c (pv 5) pa_nil)) (pv 9) (nomark _))))) ⟨_, rfl, f, _, rfl, hf, fun o nf D hD => ?_⟩
      refine comp_keys (fun i ys H' => ys = (L.take i).map (fun e => V.bl e.2) ∧ H' D = some (.lst ys) ∧ Same (upd H14 f (.frz o (.dK (encG V.bl L)))) H') ⟨rfl, upd_same, Same.new hD⟩ ?_ ?_ ?_
      · rintro i ys H' _ ⟨_, _, sm⟩
        exact sm.at upd_same
      · rintro i kv ys H' hi ⟨rfl, hD', sm⟩
        rw [show encG V.bl L = L.map fun q => (Sum.inr q.1, V.bl q.2) from rfl, List.getElem?_map] at hi
        obtain ⟨⟨x, u⟩, he, rfl⟩ := Option.map_eq_some_iff.mp hi
        have hm := List.mem_of_getElem? he
        have hil : i < L.length := (List.getElem?_eq_some_iff.mp he).1
        have g2 : DGet H' f (.str x) (some (.bl u)) := by
          rw [← get_encG (f := V.bl) hLn hm]
          exact .inl ⟨_, Sum.inr x, .inr ⟨o, sm.at upd_same⟩, rfl, rfl⟩
        unfold CompT
        refine ⟨Keep.set rfl, _, rfl, _, rfl, f, .bl u, rfl, g2, hD', ?_, ?_, upd_same, fun b o z => ?_⟩
        · rw [List.length_map, List.length_take]; exact small1000 (by omega)
        · rw [List.take_add_one, he, List.map_append]; rfl
        · rw [upd_ne (ne_of_none z hD)]; exact sm.at z
      rintro ys H15 ⟨rfl, hD15, sm⟩
      refine ⟨f, o, _, sm.at upd_same, nf, ?_⟩
      have s16 : Same H14 (upd H15 f (.dK (encG V.bl L))) := Same.thaw hf sm
      have hDf : D ≠ f := fun z => by rw [z, upd_same] at hD; cases hD
      have eD : (upd H15 f (.dK (encG V.bl L))) D = some (.lst (L.map fun e => V.bl e.2)) := by
        rw [upd_ne hDf, hD15, show (encG V.bl L).length = L.length from List.length_map .., List.take_length]
      generalize upd H15 f (.dK (encG V.bl L)) = H16 at s16 eD
      clear hD15 sm
      have hf := s16.at hf
      have hd := s16.at hd
      refine ⟨_, rfl, f, _, rfl, hf, fun o2 nf2 D2 hD2 => ?_⟩
      refine comp_keys (fun i ys H' => ys = (L.take i).map (fun e => V.bl e.2) ∧ H' D2 = some (.lst ys) ∧ Same (upd H16 f (.frz o2 (.dK (encG V.bl L)))) H') ⟨rfl, upd_same, Same.new hD2⟩ ?_ ?_ ?_
      · rintro i ys H' _ ⟨_, _, sm⟩
        exact sm.at upd_same
      · rintro i kv ys H' hi ⟨rfl, hD', sm⟩
        rw [show encG V.bl L = L.map fun q => (Sum.inr q.1, V.bl q.2) from rfl, List.getElem?_map] at hi
        obtain ⟨⟨x, u⟩, he, rfl⟩ := Option.map_eq_some_iff.mp hi
        have hm := List.mem_of_getElem? he
        have hil : i < L.length := (List.getElem?_eq_some_iff.mp he).1
        have g2 : DGet H' dd (.str x) (some (.bl u)) := by
          rw [← get_encG (f := V.bl) hLn hm]
          exact DGet.k (k := Sum.inr x) (sm.at (by rw [upd_ne (Ne.symm hfd)]; exact hd))
        unfold CompT
        refine ⟨Keep.set rfl, _, rfl, _, rfl, dd, .bl u, rfl, g2, hD', ?_, ?_, upd_same, fun b o z => ?_⟩
        · rw [List.length_map, List.length_take]; exact small1000 (by omega)
        · rw [List.take_add_one, he, List.map_append]; rfl
        · rw [upd_ne (ne_of_none z hD2)]; exact sm.at z
      rintro ys H17 ⟨rfl, hD17, sm⟩
      refine ⟨f, o2, _, sm.at upd_same, nf2, ?_⟩
      have s18 : Same H16 (upd H17 f (.dK (encG V.bl L))) := Same.thaw hf sm
      have hDf2 : D2 ≠ f := fun z => by rw [z, upd_same] at hD2; cases hD2
      have eD2 : (upd H17 f (.dK (encG V.bl L))) D2 = some (.lst (L.map fun e => V.bl e.2)) := by
        rw [upd_ne hDf2, hD17, show (encG V.bl L).length = L.length from List.length_map .., List.take_length]
      generalize upd H17 f (.dK (encG V.bl L)) = H18 at s18 eD2
      clear hD17 sm
      have s1318 := s14.trans (s16.trans s18)
      have pr : Paired (SameD K H18) (L.map fun e => V.bl e.2) (L.map fun e => V.bl e.2) := sames_bl L
      refine ⟨D, D2, _, _, rfl, rfl, SqL.of (s18.at eD), SqL.of eD2, pr, _, rfl, ite2 (fun _ => ?_) (fun h => absurd rfl h)⟩
      have hE18 := hE13.mono s1318
      obtain ⟨⟨dx, v, h1, h2⟩, h3⟩ := id hE18
      refine ⟨_, rfl, e, dx, _, rfl, h1, rfl, _, rfl, e, wd, dk, ss', a, tk, rfl, hE18, hnd, by omega, s1318.at hk13, fun f2 H19 s19 n19 e19 => ⟨_, rfl, .inr (.inr ⟨f2, dd, _, _, rfl, rfl, .inl e19, .inl (s19.at (s1318.at hd13)), ?_, ?_, ?_⟩)⟩⟩
      · rw [← hL]
      · rw [← hL]; exact same_self hLn
      · exact q H19 (fun b o hb z => s19.at (s1318.at (fr13 b o hb z))) (hh13.mono (s1318.trans s19))
theorem G__law_told (T : Tx K mg) {k : Nat} (h : 3 ≤ k := by decide) : FnOk P w K mg base CX0 k T.d__law_told.f T.d__law_told.fd ["_law_eyes", "_law_names_here", "_law_cell", "_law_wrong", "_law_held"] (spTold T) := (ok__law_told T).mono h
/-! ### the law -/
def spLaw (K : PySem.W.Frag) : Sp := fun vs H Q _ => ∃ (a : Addr) (ns : List Int), vs = [.ref a] ∧ SqL K H a (ns.map V.int) ∧ ns.length ≤ 63 ∧ ∀ H', Q (.bl true) H'
theorem EyesAt.off {T : Tx K mg} {H H' : Hp} {e wd c : Addr} {ws : List Str} {a : Option (Str × Str)} (h : EyesAt T H e wd ws a) (hc : ∃ xs, H c = some (.lst xs)) (ne : c ≠ wd) (k : ∀ b o, b ≠ c → H b = some o → H' b = some o) : EyesAt T H' e wd ws a := by
  obtain ⟨xs, hc⟩ := hc
  obtain ⟨⟨dx, v, h1, h2⟩, h3⟩ := h
  exact ⟨⟨dx, v, k _ _ (fun z => by rw [z, hc] at h1; cases h1) h1, h2.mono fun b ys z => k _ _ (fun y => by rw [y, hc] at z; cases z) z⟩, k _ _ (Ne.symm ne) h3⟩
theorem WrongAt.off {H H' : Hp} {lw c : Addr} {a : Option (Str × Str)} (h : WrongAt H lw a) (hc : ∃ xs, H c = some (.lst xs)) (ne : c ≠ lw) (k : ∀ b o, b ≠ c → H b = some o → H' b = some o) : WrongAt H' lw a := by
  obtain ⟨xs, hc⟩ := hc
  cases a with
  | none => exact k _ _ (Ne.symm ne) h
  | some z => obtain ⟨t, h1, h2⟩ := h; exact ⟨t, k _ _ (Ne.symm ne) h1, k _ _ (fun y => by rw [y, hc] at h2; cases h2) h2⟩
structure LI (T : Tx K mg) (H0 H : Hp) (e wd lw lh : Addr) (ws : List Str) (n : Nat) : Prop where
  same : Same H0 H
  ex : ∃ a, EyesAt T H e wd ws a ∧ WrongAt H lw a ∧ ∀ z, a = some z → z.1 ∈ ws
  held : HeldAt H lh n
theorem LI.mono {T : Tx K mg} {H0 H H' : Hp} {e wd lw lh : Addr} {ws : List Str} {n : Nat} (s : Same H H') (h : LI T H0 H e wd lw lh ws n) : LI T H0 H' e wd lw lh ws n := by
  obtain ⟨h1, ⟨a, h2, h3, h4⟩, h5⟩ := h
  exact ⟨h1.trans s, ⟨a, h2.mono s, h3.mono s, h4⟩, h5.mono s⟩
theorem ok_law {fa : Addr} {fd : FuncData} (F : Fun K "law" "law" s_law fa fd) (T : Tx K mg) : FnOk P w K mg base CX0 8 fa fd ["_law_script"] (spLaw K) := by
  refine F.okW sc_law (fun vs H Q E h => ?_) (fun cdv A outer s H vs Q E hr h => ?_)
  · obtain ⟨a, ns, rfl, _⟩ := h
    rfl
  · obtain ⟨a, ns, rfl, hS, hn, q⟩ := h
    refine WSs.step (ps_set (i := 1) sc_law.nd rfl (by first | exact Or.inl rfl | exact Or.inr rfl) (pe_call (G__law_names T) hr rfl T.m__law_names T.d__law_names.F.kp T.d__law_names.b .nil pass0 (pa_c (pe_call (G__law_cell_at T) hr rfl T.m__law_cell_at T.d__law_cell_at.F.kp T.d__law_cell_at.b .nil pass0 (pa_c (pv 0) (pa_c pe_int pa_nil))) (pa_c (pe_op oAdd pe_int (pe_op op_mod (pe_call (G__law_cell_at T) hr rfl T.m__law_cell_at T.d__law_cell_at.F.kp T.d__law_cell_at.b .nil pass0 (pa_c (pv 0) (pa_c pe_int pa_nil))) pe_int)) pa_nil)))) ⟨_, rfl, a, ns, 0, rfl, hS, fun m0 => ⟨_, rfl, a, ns, 1, rfl, hS, fun m1 => ?_⟩⟩
    have k0 := Int.emod_nonneg m1 (show (12 : Int) ≠ 0 by decide)
    have k1 := Int.emod_lt_of_pos m1 (show (0 : Int) < 12 by decide)
    obtain ⟨nn, hnn⟩ : ∃ nn : Nat, 1 + m1 % 12 = (nn : Int) := ⟨(1 + m1 % 12).toNat, by omega⟩
    refine ⟨_, _, rfl, rfl, (by show (0 : Int) < 12; decide), .inl ⟨_, _, rfl, rfl, m0, nn, ?_, by omega, fun pn names H1 s1 n1 e1 hnd hnl => ?_⟩⟩
    · rw [← hnn]; rfl
    refine WSs.step (ps_set (i := 2) sc_law.nd rfl (by first | exact Or.inl rfl | exact Or.inr rfl) (pe_callTy (r := rList K) call_listS (by rfl) T.n_list PyProof.Rows.boot_list (pa_c (pv 1) pa_nil))) ⟨_, rfl, pn, _, rfl, .inl (SqL.of e1), fun l2 H2 s2 n2 e2 => ?_⟩
    refine WSs.step (ps_set (i := 3) sc_law.nd rfl (by first | exact Or.inl rfl | exact Or.inr rfl) (pe_makeR (mr_Eyes T) T.mkEyes (G_Eyes___init__ T) hr rfl T.mEyes T.d_Eyes___init__.b .nil pass0 (mk_Eyes T) (pa_c (pv 2) pa_nil))) ⟨_, rfl, l2, names, rfl, SqL.of e2, by omega, fun e wd ws H3 p1 p2 s3 n3 n3' hE3 => ?_⟩
    have hl2 := s3.at e2
    refine WSs.step (ps_expr (pe_bm0 PySem.F.plainAttrs_list PySem.F.slot_list_clear PySem.F.type_list_clear mt_clear (pv 2))) ⟨_, rfl, .inl ⟨rfl, _, SqL.of hl2⟩, l2, _, rfl, rfl, hl2, ?_⟩
    have hE4 : EyesAt T (upd H3 l2 (.lst [])) e wd ws none := hE3.off ⟨_, hl2⟩ (fun z => by rw [← z, e2] at n3'; cases n3') fun b o hb z => by rw [upd_ne hb]; exact z
    have s14 : Same H1 (upd H3 l2 (.lst [])) := fun b o z => by rw [upd_ne (ne_of_none z n2)]; exact s3.at (s2.at z)
    have f4 : ∀ b, (upd H3 l2 (.lst [])) b = none → H3 b = none := fun b z => by
      by_cases y : b = l2
      · rw [y, upd_same] at z; cases z
      · rw [upd_ne y] at z; exact z
    generalize upd H3 l2 (.lst []) = H4 at hE4 s14 f4
    refine WSs.step (ps_set (i := 4) sc_law.nd rfl (by first | exact Or.inl rfl | exact Or.inr rfl) (pe_lstS pa_nil)) ⟨sz (by simp), fun lw H5 s5 n5 e5 => ?_⟩
    refine WSs.step (ps_set (i := 5) sc_law.nd rfl (by first | exact Or.inl rfl | exact Or.inr rfl) (pe_lstS pa_nil)) ⟨sz (by simp), fun lh H6 s6 n6 e6 => ?_⟩
    have hE6 := (hE4.mono s5).mono s6
    have hW6 := s6.at e5
    have i0 : LI T H1 H6 e wd lw lh ws 0 := ⟨s14.trans (s5.trans s6), ⟨none, hE6, hW6, fun z y => nomatch y⟩, ⟨[], e6, Nat.le_refl _, fun _ z => nomatch z⟩⟩
    have z1 : H1 e = none := s2.free n3
    have z2 : H1 lw = none := s14.free n5
    have z3 : H1 lh = none := s14.free (s5.free n6)
    have x1 : lh ≠ pn := Ne.symm (ne_of_none e1 z3)
    have x2 : lh ≠ lw := Ne.symm (ne_of_none e5 n6)
    have x3 : lh ≠ wd := Ne.symm (ne_of_none (s5.at hE4.lst) n6)
    have x4 : lw ≠ wd := Ne.symm (ne_of_none hE4.lst n5)
    have hws : ws.Nodup := p1.nodup_iff.mpr hnd
    clear s5 s6 n5 n6 hE4 hE6 hW6 e5 e6 s14 f4 hE3 hl2 s3 n3 n3'
    have hS := s1.seq hS
    obtain ⟨up, hup, hup14⟩ : ∃ up : Int, (if (14 : Int) < ((ns.map V.int).length : Int) then (14 : Int) else ((ns.map V.int).length : Int)) = up ∧ 0 ≤ up ∧ up ≤ 14 := by
      refine ⟨_, rfl, ?_⟩
      split <;> constructor <;> omega
    refine WSs.step (ps_for PassesOwn.never rfl (pi_range2 rfl T.n_range (pa_c pe_int (pa_c (pe_callB (call_min2 rfl) (by rfl) T.n_min PyProof.Rows.boot_min (pa_c (pe_callB (r := rLenX K) oLenX (by rfl) T.n_len PySem.boot_len (pa_c (pv 0) pa_nil)) (pa_c pe_int pa_nil))) pa_nil))) (pg_name (i := 6) sc_law.nd rfl (by first | exact Or.inl rfl | exact Or.inr rfl)) pss_w) ⟨_, rfl, .inl ⟨a, _, rfl, .inl (i0.same.seq hS), _, _, rfl, ?_⟩⟩
    refine ⟨2, up, ?_, ⟨by omega, by omega, by omega, by omega⟩, for_range (lo := 2) (n := (up - 2).toNat) (fun i σ H' => (∃ o6 o7, σ = [some (.ref a), some (.ref pn), some (.ref l2), some (.ref e), some (.ref lw), some (.ref lh), o6, o7]) ∧ LI T H1 H' e wd lw lh ws i) ⟨⟨none, none, rfl⟩, i0⟩ ?_ ?_⟩
    · rw [← hup]
    · rintro i σ H7 hi ⟨⟨o6, o7, rfl⟩, I7⟩
      have hi12 : i < 12 := by omega
      refine WSs.step (ps_set (i := 7) sc_law.nd rfl (by first | exact Or.inl rfl | exact Or.inr rfl) (pe_call (G__law_cell_at T) hr rfl T.m__law_cell_at T.d__law_cell_at.F.kp T.d__law_cell_at.b .nil pass0 (pa_c (pv 0) (pa_c (pv 6) pa_nil)))) ⟨_, rfl, _, rfl, a, ns, 2 + i, ?_, I7.same.seq hS, fun c => ?_⟩
      · show [V.ref a, V.int (2 + (i : Int))] = [V.ref a, V.int ((2 + i : Nat) : Int)]
        rw [show (2 : Int) + (i : Int) = ((2 + i : Nat) : Int) by omega]
      refine WSs.cut (fun σ H' => σ = [some (.ref a), some (.ref pn), some (.ref l2), some (.ref e), some (.ref lw), some (.ref lh), some (.int (2 + (i : Int))), some (.int c)] ∧ LI T H1 H' e wd lw lh ws i) ?_ ?_
      · refine WS.of (ps_if (PW.pt (pw_and (pt_cmpR op_lt (pe_op op_mod (pv 7) pe_int) pe_int (nomark _)) (pw_and1 (pt_not (pt_val (pe_call (G__law_fail T) hr rfl T.m__law_fail T.d__law_fail.F.kp T.d__law_fail.b .nil pass0 (pa_c (pv 3) (pa_c (pv 1) (pa_c (pv 7) (pa_c (pv 4) pa_nil)))))))))) pss_w pss_nil) ⟨_, rfl, _, _, rfl, rfl, (by show (0 : Int) < 5; decide), _, _, rfl, rfl, _, rfl, ite2 (fun _ => ?_) (fun _ => ⟨rfl, I7⟩)⟩
        obtain ⟨sm, ⟨fa', hE, hW, haw⟩, hH⟩ := I7
        refine ⟨_, rfl, _, rfl, _, rfl, _, rfl, e, wd, pn, lw, c, ws, names, fa', rfl, hE, sm.at e1, by omega, p1, hW, x4, haw, fun a2 H8 fr hE8 hW8 haw8 => ⟨_, rfl, ite2 (fun h => absurd h (by decide)) (fun _ => ⟨rfl, fun b o z => fr b o (ne_of_none z z1) (ne_of_none z z2) (sm.at z), ⟨a2, hE8, hW8, haw8⟩, hH.off fun b o z y => ?_⟩)⟩⟩
        obtain ⟨⟨dx, v0, f1, _⟩, _⟩ := hE
        obtain ⟨xs, hl⟩ := hW.ex
        refine fr b o (fun w => ?_) (fun w => ?_) z
        · rw [w, f1] at z
          cases z
          rcases y with ⟨_, y, _⟩ | ⟨_, y⟩ | ⟨_, y⟩ <;> cases y
        · rcases y with ⟨_, y1, y2⟩ | ⟨_, y⟩ | ⟨_, y⟩
          · exact x2 (y2.symm.trans w)
          · rw [w, hl, y] at z; cases z
          · rw [w, hl, y] at z; cases z
      rintro σ H8 ⟨rfl, I8⟩
      refine WSs.cut (fun σ H' => σ = [some (.ref a), some (.ref pn), some (.ref l2), some (.ref e), some (.ref lw), some (.ref lh), some (.int (2 + (i : Int))), some (.int c)] ∧ LI T H1 H' e wd lw lh ws i) ?_ ?_
      · refine WS.of (ps_if (pt_cmpR (r := rEqX K) (oEqX hr) (pe_op op_mod (pv 7) pe_int) pe_int (nomark _)) pss_w pss_nil) ⟨_, rfl, _, _, rfl, rfl, (by show (0 : Int) < 5; decide), .inl ⟨rfl, _, rfl, ite2 (fun _ => ?_) (fun _ => ⟨rfl, I8⟩)⟩⟩
        obtain ⟨sm, ⟨fa', hE, hW, haw⟩, hH⟩ := I8
        obtain ⟨xs, hl⟩ := hW.ex
        refine WSs.step (ps_expr (pe_bm0 PySem.F.plainAttrs_list PySem.F.slot_list_clear PySem.F.type_list_clear mt_clear (pv 4))) ⟨_, rfl, .inl ⟨rfl, _, SqL.of hl⟩, lw, _, rfl, rfl, hl, ?_⟩
        have k9 : ∀ b o, b ≠ lw → H8 b = some o → (upd H8 lw (.lst [])) b = some o := fun b o hb z => by rw [upd_ne hb]; exact z
        have hE9 := hE.off ⟨_, hl⟩ x4 k9
        have l9 : (upd H8 lw (.lst [])) lw = some (.lst []) := upd_same
        generalize upd H8 lw (.lst []) = H9 at k9 hE9 l9
        obtain ⟨⟨dx, v0, f1, f2⟩, f3⟩ := id hE9
        refine WSs.last (ps_if (pt_cmpR op_notN (pe_meth0 (pv 3) T.clEyes T.mtEyes_mend (G_Eyes_mend T) hr T.d_Eyes_mend.b .nil pass0) pe_non (nomark _)) pss_w pss_nil) ⟨_, rfl, e, dx, _, rfl, f1, rfl, e, wd, ws, fa', rfl, hE9, fun H10 fr hE10 => ⟨rfl, _, rfl, ite2 (fun h => absurd h (by decide)) (fun _ => ⟨rfl, fun b o z => fr b o (ne_of_none z z1) (k9 b o (ne_of_none z z2) (sm.at z)), ⟨none, hE10, fr _ _ (fun w => by rw [← w, l9] at f1; cases f1) l9, fun z y => nomatch y⟩, hH.off fun b o z y => ?_⟩)⟩⟩
        have hb : b ≠ lw := fun w => by
          rcases y with ⟨_, y1, y2⟩ | ⟨_, y⟩ | ⟨_, y⟩
          · exact x2 (y2.symm.trans w)
          · rw [w, hl, y] at z; cases z
          · rw [w, hl, y] at z; cases z
        have z9 := k9 b o hb z
        refine fr b o (fun w => ?_) z9
        rw [w, f1] at z9
        cases z9
        rcases y with ⟨_, y, _⟩ | ⟨_, y⟩ | ⟨_, y⟩ <;> cases y
      rintro σ H9 ⟨rfl, I9⟩
      refine WSs.cut (fun σ H' => σ = [some (.ref a), some (.ref pn), some (.ref l2), some (.ref e), some (.ref lw), some (.ref lh), some (.int (2 + (i : Int))), some (.int c)] ∧ LI T H1 H' e wd lw lh ws i) ?_ ?_
      · refine WS.of (ps_if (PW.pt (pw_and (pt_cmpR (r := rEqX K) (oEqX hr) (pe_op op_mod (pe_op op_fdiv (pv 7) pe_int) pe_int) pe_int (nomark _)) (pw_and1 (pt_cmpR (r := rNeY K) (oNeY hr) (pe_meth0 (pv 3) T.clEyes T.mtEyes_fault (G_Eyes_fault T) hr T.d_Eyes_fault.b .nil pass0) (pe_ix (r := rIx K) ix_seq (pe_op oAdd (pv 4) (pe_lstS (pa_c pe_non pa_nil))) pe_int (fun _ _ => rfl)) (nomark _))))) pss_w pss_nil) ⟨_, rfl, _, _, rfl, rfl, ⟨by decide, by decide⟩, _, _, rfl, rfl, (by show (0 : Int) < 2; decide), .inl ⟨rfl, _, rfl, ite2 (fun _ => ?_) (fun _ => ⟨rfl, I9⟩)⟩⟩
        obtain ⟨sm, ⟨fa', hE, hW, haw⟩, hH⟩ := id I9
        obtain ⟨⟨dx, v0, f1, f2⟩, f3⟩ := id hE
        refine ⟨_, rfl, e, dx, _, rfl, f1, rfl, e, wd, ws, fa', rfl, hE, fun v hv => ⟨_, rfl, sz (by simp), fun l0 Hx sx nx ex => ?_⟩⟩
        cases fa' with
        | none =>
          cases (show v = .non from hv)
          have hW0 : _ = some (HO.lst []) := hW
          refine .inr (.inr ⟨lw, l0, _, _, rfl, rfl, sx.at hW0, ex, sz (by simp), fun lc Hc sc nc ec => .inl ⟨lc, _, _, .non, rfl, rfl, SqL.of ec, rfl, .inl ⟨rfl, ?_⟩⟩⟩)
          exact ⟨_, rfl, ite2 (fun h => absurd h (by simp)) (fun _ => ⟨rfl, I9.mono (sx.trans sc)⟩)⟩
        | some z =>
          obtain ⟨p, rfl, ep⟩ := hv
          obtain ⟨t, w1, w2⟩ := id hW
          refine .inr (.inr ⟨lw, l0, _, _, rfl, rfl, sx.at w1, ex, sz (by simp), fun lc Hc sc nc ec => .inl ⟨lc, _, _, .ref t, rfl, rfl, SqL.of ec, rfl, .inr (.inl ⟨1, .tup [.str z.1, .str z.2], .tup [.str z.1, .str z.2], by decide, .inl ⟨_, _, rfl, rfl⟩, Im.tup (SqT.of (sc.at (sx.at ep))) (.cons (.str _) (.cons (.str _) .nil)), Im.tup (SqT.of (sc.at (sx.at w2))) (.cons (.str _) (.cons (.str _) .nil)), ?_⟩)⟩⟩)
          exact ⟨_, rfl, ite2 (fun h => absurd h (by simp)) (fun _ => ⟨rfl, I9.mono (sx.trans sc)⟩)⟩

      rintro σ H10 ⟨rfl, I10⟩
      obtain ⟨sm, ⟨fa', hE, hW, haw⟩, hH⟩ := id I10
      refine WSs.last (ps_if (PW.pt (pw_or (pt_not (pt_val (pe_call (G__law_told T) hr rfl T.m__law_told T.d__law_told.F.kp T.d__law_told.b .nil pass0 (pa_c (pv 3) (pa_c (pv 1) (pa_c (pe_op op_fdiv (pv 7) pe_int) (pa_c (pv 4) (pa_c (pv 5) pa_nil)))))))) (pw_or1 (pt_cmpR (r := rNeY K) (oNeY hr) (pe_meth0 (pv 3) T.clEyes T.mtEyes_fault (G_Eyes_fault T) hr T.d_Eyes_fault.b .nil pass0) (pe_ix (r := rIx K) ix_seq (pe_op oAdd (pv 4) (pe_lstS (pa_c pe_non pa_nil))) pe_int (fun _ _ => rfl)) (nomark _))))) pss_w pss_nil) ⟨_, rfl, _, rfl, _, rfl, _, _, rfl, rfl, ⟨by decide, by decide⟩, _, rfl, _, rfl, e, wd, pn, lw, lh, c / 7, ws, names, fa', i, rfl, hE, haw, sm.at e1, by omega, p1, hws, p2, hW, hH, by omega, x1, x2, x3, fun H11 fr hH11 => ⟨_, rfl, ite2 (fun h => absurd h (by decide)) (fun _ => ?_)⟩⟩
      have lx : ∃ xs, H10 lh = some (.lst xs) := ⟨_, hH.choose_spec.1⟩
      have I11 : LI T H1 H11 e wd lw lh ws (i + 1) := ⟨fun b o z => fr b o (ne_of_none z z3) (sm.at z), ⟨fa', hE.off lx x3 fr, hW.off lx x2 fr, haw⟩, hH11⟩
      have hE11 := hE.off lx x3 fr
      have hW11 := hW.off lx x2 fr
      · obtain ⟨⟨dx, v0, f1, f2⟩, f3⟩ := id hE11
        refine ⟨_, rfl, e, dx, _, rfl, f1, rfl, e, wd, ws, fa', rfl, hE11, fun v hv => ⟨_, rfl, sz (by simp), fun l0 Hx sx nx ex => ?_⟩⟩
        cases fa' with
        | none =>
          cases (show v = .non from hv)
          have hW0 : _ = some (HO.lst []) := hW11
          refine .inr (.inr ⟨lw, l0, _, _, rfl, rfl, sx.at hW0, ex, sz (by simp), fun lc Hc sc nc ec => .inl ⟨lc, _, _, .non, rfl, rfl, SqL.of ec, rfl, .inl ⟨rfl, ?_⟩⟩⟩)
          exact ⟨_, rfl, ite2 (fun h => absurd h (by simp)) (fun _ => ⟨⟨_, _, rfl⟩, I11.mono (sx.trans sc)⟩)⟩
        | some z =>
          obtain ⟨p, rfl, ep⟩ := hv
          obtain ⟨t, w1, w2⟩ := id hW11
          refine .inr (.inr ⟨lw, l0, _, _, rfl, rfl, sx.at w1, ex, sz (by simp), fun lc Hc sc nc ec => .inl ⟨lc, _, _, .ref t, rfl, rfl, SqL.of ec, rfl, .inr (.inl ⟨1, .tup [.str z.1, .str z.2], .tup [.str z.1, .str z.2], by decide, .inl ⟨_, _, rfl, rfl⟩, Im.tup (SqT.of (sc.at (sx.at ep))) (.cons (.str _) (.cons (.str _) .nil)), Im.tup (SqT.of (sc.at (sx.at w2))) (.cons (.str _) (.cons (.str _) .nil)), ?_⟩)⟩⟩)
          exact ⟨_, rfl, ite2 (fun h => absurd h (by simp)) (fun _ => ⟨⟨_, _, rfl⟩, I11.mono (sx.trans sc)⟩)⟩

    · rintro σ H7 ⟨⟨o6, o7, rfl⟩, sm, ⟨fa', hE, hW, haw⟩, ps, l1, l2', l3⟩
      refine WSs.last (ps_ret (pe_and (pe_cmpR (r := rEqX K) (oEqX hr) (pe_comp (N' := ["_law_pair"]) rfl (CompScope.std 1 [] rfl (by decide +kernel) (by decide +kernel) rfl trivial rfl rfl trivial) (pi_list (pv 5)) (fun _ _ _ _ => (pg_name (i := 0) (by show (["_law_pair"] : List Str).Nodup; decide +kernel) rfl (Or.inl (lookup_relabel_local rfl)) (Or.inr (lookup_relabel_local rfl)))) (fun _ _ _ _ => (pf_one (pt_cmpR (r := rNeY K) (oNeY hr) (pe_ix (r := rIx K) ix_seq (pv 0) pe_int (fun _ _ => rfl)) (pe_ix (r := rIx K) ix_seq (pv 0) pe_int (fun _ _ => rfl)) (nomark _)))) (fun _ _ _ _ => (pv 0))) (pe_lstS pa_nil) (nomark _)) (pe_one (pe_cmpR (r := rEqX K) (oEqX hr) (pe_meth0 (pv 3) T.clEyes T.mtEyes_fault (G_Eyes_fault T) hr T.d_Eyes_fault.b .nil pass0) (pe_ix (r := rIx K) ix_seq (pe_op oAdd (pv 4) (pe_lstS (pa_c pe_non pa_nil))) pe_int (fun _ _ => rfl)) (nomark _))))) ⟨_, rfl, lh, rfl, ⟨_, SqL.of l1⟩, fun D hD => ?_⟩
      refine comp_list (K := K) (xs := ps.map V.ref) (fun i ys H' => ys = [] ∧ Same H7 H' ∧ H' D = some (.lst [])) ⟨rfl, Same.new hD, upd_same⟩ ?_ ?_ ?_
      · rintro i ys H' _ ⟨_, sm', _⟩
        exact SqL.of (sm'.at l1)
      · rintro i x' ys H' hi ⟨rfl, sm', hD'⟩
        rw [List.getElem?_map] at hi
        obtain ⟨p, hp, rfl⟩ := Option.map_eq_some_iff.mp hi
        obtain ⟨f, g, L, a1, a2, a3, a4⟩ := l3 p (List.mem_of_getElem? hp)
        unfold CompT
        exact ⟨Keep.set rfl, _, rfl, .inr (.inl ⟨p, _, _, .ref f, rfl, rfl, SqT.of (sm'.at a1), rfl, _, rfl, .inr (.inl ⟨p, _, _, .ref g, rfl, rfl, SqT.of (sm'.at a1), rfl, .inr (.inr ⟨f, g, _, _, rfl, rfl, .inl (sm'.at a3), .inl (sm'.at a4), rfl, same_self a2, _, rfl, ite2 (fun h => absurd h (by decide)) (fun _ => ⟨rfl, sm', hD'⟩)⟩)⟩)⟩)⟩
      · rintro ys H8 ⟨rfl, sm', hD'⟩
        refine ⟨sz (by simp), fun le H9 s9 n9 e9 => ?_⟩
        refine .inr (.inl ⟨1, .lst [], .lst [], by decide, .inr ⟨_, _, rfl, rfl⟩, Im.lst (SqL.of (s9.at hD')) .nil, Im.lst (SqL.of e9) .nil, _, rfl, ite2 (fun _ => ?_) (fun h => absurd (by simp) h)⟩)
        have hE9 := (hE.mono sm').mono s9
        have hW9 := (hW.mono sm').mono s9
        obtain ⟨⟨dx, v0, f1, f2⟩, f3⟩ := id hE9
        refine ⟨_, rfl, e, dx, _, rfl, f1, rfl, e, wd, ws, fa', rfl, hE9, fun v hv => ⟨_, rfl, sz (by simp), fun l0 Hx sx nx ex => ?_⟩⟩
        cases fa' with
        | none =>
          cases (show v = .non from hv)
          have hW0 : _ = some (HO.lst []) := hW9
          refine .inr (.inr ⟨lw, l0, _, _, rfl, rfl, sx.at hW0, ex, sz (by simp), fun lc Hc sc nc ec => .inl ⟨lc, _, _, .non, rfl, rfl, SqL.of ec, rfl, .inl ⟨rfl, ?_⟩⟩⟩)
          first | exact q _ | (rw [if_neg Bool.false_ne_true, decide_eq_true rfl]; exact q _) | (rw [decide_eq_true rfl]; exact q _)
        | some z =>
          obtain ⟨p, rfl, ep⟩ := hv
          obtain ⟨t, w1, w2⟩ := id hW9
          refine .inr (.inr ⟨lw, l0, _, _, rfl, rfl, sx.at w1, ex, sz (by simp), fun lc Hc sc nc ec => .inl ⟨lc, _, _, .ref t, rfl, rfl, SqL.of ec, rfl, .inr (.inl ⟨1, .tup [.str z.1, .str z.2], .tup [.str z.1, .str z.2], by decide, .inl ⟨_, _, rfl, rfl⟩, Im.tup (SqT.of (sc.at (sx.at ep))) (.cons (.str _) (.cons (.str _) .nil)), Im.tup (SqT.of (sc.at (sx.at w2))) (.cons (.str _) (.cons (.str _) .nil)), ?_⟩)⟩⟩)
          first | exact q _ | (rw [if_neg Bool.false_ne_true, decide_eq_true rfl]; exact q _) | (rw [decide_eq_true rfl]; exact q _)


end
theorem all_mk {l : PySem.W.OpenLaw} {w : World} {K : PySem.W.Frag} {h : Heap} {mg : Str → Option Value} {fa f0 f1 f2 f3 f4 f5 f6 f7 f8 f9 f10 f11 f12 cEyes cYardError cBadName cOneFault : Addr} (X : K.In h) (G : h.Ns mainGlobals mg) (hfa : mg "law" = some (.ref fa))
    {tk_BLIND : Tok} {tk_STUCK : Tok}
    {od0 an0 od1 an1 od2 an2 od3 an3 od4 an4 od5 an5 od6 an6 od7 an7 od8 an8 od9 an9 od10 an10 od11 an11 od12 an12 : Option Addr} {sl0 sl1 sl2 sl3 sl4 sl5 sl6 sl7 sl8 sl9 sl10 sl11 sl12 : Array (Option Value)} {oc0 kV0 dc0 pm0 cd0 ct0 oc1 kV1 dc1 pm1 cd1 ct1 oc2 kV2 dc2 pm2 cd2 ct2 oc3 kV3 dc3 pm3 cd3 ct3 oc4 kV4 dc4 pm4 cd4 ct4 oc5 kV5 dc5 pm5 cd5 ct5 oc6 kV6 dc6 pm6 cd6 ct6 oc7 kV7 dc7 pm7 cd7 ct7 oc8 kV8 dc8 pm8 cd8 ct8 oc9 kV9 dc9 pm9 cd9 ct9 oc10 kV10 dc10 pm10 cd10 ct10 oc11 kV11 dc11 pm11 cd11 ct11 oc12 kV12 dc12 pm12 cd12 ct12 : Value}
    (cx_Eyes : PySem.W.nsIn K mainGlobals "Eyes" = some (some (.ref cEyes)))
    (cx_YardError : PySem.W.nsIn K mainGlobals "YardError" = some (some (.ref cYardError)))
    (cx_BadName : PySem.W.nsIn K mainGlobals "BadName" = some (some (.ref cBadName)))
    (cx_OneFault : PySem.W.nsIn K mainGlobals "OneFault" = some (some (.ref cOneFault)))
    (a0 : PySem.W.findIn K (.ref cEyes) "__init__" = some (some (.ref f0)))
    (l0 : K.lookup f0 = some ⟨oc0, od0, .func (PySem.W.fnOf "__init__" "Eyes.__init__" (defArgs s_Eyes___init__) (defBody s_Eyes___init__) (defScope s_Eyes___init__) .none kV0 dc0 pm0 an0 cd0 ct0), sl0⟩)
    (e0 : PySem.W.codeIn K cd0 "Eyes.__init__" = true)
    (k0 : PySem.W.keepIn K (.ref f0) = true)
    (a1 : PySem.W.findIn K (.ref cEyes) "fail" = some (some (.ref f1)))
    (l1 : K.lookup f1 = some ⟨oc1, od1, .func (PySem.W.fnOf "fail" "Eyes.fail" (defArgs s_Eyes_fail) (defBody s_Eyes_fail) (defScope s_Eyes_fail) .none kV1 dc1 pm1 an1 cd1 ct1), sl1⟩)
    (e1 : PySem.W.codeIn K cd1 "Eyes.fail" = true)
    (k1 : PySem.W.keepIn K (.ref f1) = true)
    (a2 : PySem.W.findIn K (.ref cEyes) "mend" = some (some (.ref f2)))
    (l2 : K.lookup f2 = some ⟨oc2, od2, .func (PySem.W.fnOf "mend" "Eyes.mend" (defArgs s_Eyes_mend) (defBody s_Eyes_mend) (defScope s_Eyes_mend) .none kV2 dc2 pm2 an2 cd2 ct2), sl2⟩)
    (e2 : PySem.W.codeIn K cd2 "Eyes.mend" = true)
    (k2 : PySem.W.keepIn K (.ref f2) = true)
    (a3 : PySem.W.findIn K (.ref cEyes) "fault" = some (some (.ref f3)))
    (l3 : K.lookup f3 = some ⟨oc3, od3, .func (PySem.W.fnOf "fault" "Eyes.fault" (defArgs s_Eyes_fault) (defBody s_Eyes_fault) (defScope s_Eyes_fault) .none kV3 dc3 pm3 an3 cd3 ct3), sl3⟩)
    (e3 : PySem.W.codeIn K cd3 "Eyes.fault" = true)
    (k3 : PySem.W.keepIn K (.ref f3) = true)
    (a4 : PySem.W.findIn K (.ref cEyes) "tells" = some (some (.ref f4)))
    (l4 : K.lookup f4 = some ⟨oc4, od4, .func (PySem.W.fnOf "tells" "Eyes.tells" (defArgs s_Eyes_tells) (defBody s_Eyes_tells) (defScope s_Eyes_tells) .none kV4 dc4 pm4 an4 cd4 ct4), sl4⟩)
    (e4 : PySem.W.codeIn K cd4 "Eyes.tells" = true)
    (k4 : PySem.W.keepIn K (.ref f4) = true)
    (a5 : PySem.W.nsIn K mainGlobals "_law_mixed" = some (some (.ref f5)))
    (l5 : K.lookup f5 = some ⟨oc5, od5, .func (PySem.W.fnOf "_law_mixed" "_law_mixed" (defArgs s__law_mixed) (defBody s__law_mixed) (defScope s__law_mixed) .none kV5 dc5 pm5 an5 cd5 ct5), sl5⟩)
    (e5 : PySem.W.codeIn K cd5 "_law_mixed" = true)
    (k5 : PySem.W.keepIn K (.ref f5) = true)
    (a6 : PySem.W.nsIn K mainGlobals "_law_cell_at" = some (some (.ref f6)))
    (l6 : K.lookup f6 = some ⟨oc6, od6, .func (PySem.W.fnOf "_law_cell_at" "_law_cell_at" (defArgs s__law_cell_at) (defBody s__law_cell_at) (defScope s__law_cell_at) .none kV6 dc6 pm6 an6 cd6 ct6), sl6⟩)
    (e6 : PySem.W.codeIn K cd6 "_law_cell_at" = true)
    (k6 : PySem.W.keepIn K (.ref f6) = true)
    (a7 : PySem.W.nsIn K mainGlobals "_law_names" = some (some (.ref f7)))
    (l7 : K.lookup f7 = some ⟨oc7, od7, .func (PySem.W.fnOf "_law_names" "_law_names" (defArgs s__law_names) (defBody s__law_names) (defScope s__law_names) .none kV7 dc7 pm7 an7 cd7 ct7), sl7⟩)
    (e7 : PySem.W.codeIn K cd7 "_law_names" = true)
    (k7 : PySem.W.keepIn K (.ref f7) = true)
    (a8 : PySem.W.nsIn K mainGlobals "_law_failed" = some (some (.ref f8)))
    (l8 : K.lookup f8 = some ⟨oc8, od8, .func (PySem.W.fnOf "_law_failed" "_law_failed" (defArgs s__law_failed) (defBody s__law_failed) (defScope s__law_failed) .none kV8 dc8 pm8 an8 cd8 ct8), sl8⟩)
    (e8 : PySem.W.codeIn K cd8 "_law_failed" = true)
    (k8 : PySem.W.keepIn K (.ref f8) = true)
    (a9 : PySem.W.nsIn K mainGlobals "_law_failed_by_any" = some (some (.ref f9)))
    (l9 : K.lookup f9 = some ⟨oc9, od9, .func (PySem.W.fnOf "_law_failed_by_any" "_law_failed_by_any" (defArgs s__law_failed_by_any) (defBody s__law_failed_by_any) (defScope s__law_failed_by_any) .none kV9 dc9 pm9 an9 cd9 ct9), sl9⟩)
    (e9 : PySem.W.codeIn K cd9 "_law_failed_by_any" = true)
    (k9 : PySem.W.keepIn K (.ref f9) = true)
    (a10 : PySem.W.nsIn K mainGlobals "_law_fail" = some (some (.ref f10)))
    (l10 : K.lookup f10 = some ⟨oc10, od10, .func (PySem.W.fnOf "_law_fail" "_law_fail" (defArgs s__law_fail) (defBody s__law_fail) (defScope s__law_fail) .none kV10 dc10 pm10 an10 cd10 ct10), sl10⟩)
    (e10 : PySem.W.codeIn K cd10 "_law_fail" = true)
    (k10 : PySem.W.keepIn K (.ref f10) = true)
    (a11 : PySem.W.nsIn K mainGlobals "_law_told" = some (some (.ref f11)))
    (l11 : K.lookup f11 = some ⟨oc11, od11, .func (PySem.W.fnOf "_law_told" "_law_told" (defArgs s__law_told) (defBody s__law_told) (defScope s__law_told) .none kV11 dc11 pm11 an11 cd11 ct11), sl11⟩)
    (e11 : PySem.W.codeIn K cd11 "_law_told" = true)
    (k11 : PySem.W.keepIn K (.ref f11) = true)
    (a12 : PySem.W.nsIn K mainGlobals "law" = some (some (.ref f12)))
    (l12 : K.lookup f12 = some ⟨oc12, od12, .func (PySem.W.fnOf "law" "law" (defArgs s_law) (defBody s_law) (defScope s_law) .none kV12 dc12 pm12 an12 cd12 ct12), sl12⟩)
    (e12 : PySem.W.codeIn K cd12 "law" = true)
    (k12 : PySem.W.keepIn K (.ref f12) = true)
    (pg_Eyes : PySem.W.plainGet K cEyes Str.empty = true)
    (hd_Eyes : PySem.W.hasDictIn K cEyes = true)
    (po_Eyes : PySem.W.plainOver K cEyes = true)
    (sa_Eyes : PySem.W.findIn K (.ref cEyes) "__setattr__" = some (some (.builtin "object.__setattr__")))
    (na_Eyes_watched : PySem.W.findIn K (.ref cEyes) "watched" = some none)
    (na_Eyes_faulty : PySem.W.findIn K (.ref cEyes) "faulty" = some none)
    (mk_Eyes : PySem.W.makesIn K cEyes = true)
    (mi_Eyes : PySem.W.findIn K (.ref cEyes) "__init__" = some (some (.ref f0)))
    (mf_Eyes : PySem.W.isFn K (.ref f0) = true)
    (mp_Eyes : PySem.W.keepIn K (.ref cEyes) = true)
    (ma_Eyes_fail : PySem.W.findIn K (.ref cEyes) "fail" = some (some (.ref f1)))
    (mn_Eyes_fail : PySem.W.isFn K (.ref f1) = true)
    (mq_Eyes_fail : PySem.W.keepIn K (.ref f1) = true)
    (ma_Eyes_mend : PySem.W.findIn K (.ref cEyes) "mend" = some (some (.ref f2)))
    (mn_Eyes_mend : PySem.W.isFn K (.ref f2) = true)
    (mq_Eyes_mend : PySem.W.keepIn K (.ref f2) = true)
    (ma_Eyes_fault : PySem.W.findIn K (.ref cEyes) "fault" = some (some (.ref f3)))
    (mn_Eyes_fault : PySem.W.isFn K (.ref f3) = true)
    (mq_Eyes_fault : PySem.W.keepIn K (.ref f3) = true)
    (ma_Eyes_tells : PySem.W.findIn K (.ref cEyes) "tells" = some (some (.ref f4)))
    (mn_Eyes_tells : PySem.W.isFn K (.ref f4) = true)
    (mq_Eyes_tells : PySem.W.keepIn K (.ref f4) = true)
    (z_len : PySem.W.nsIn K mainGlobals "len" = some none)
    (z_range : PySem.W.nsIn K mainGlobals "range" = some none)
    (z_isinstance : PySem.W.nsIn K mainGlobals "isinstance" = some none)
    (z_list : PySem.W.nsIn K mainGlobals "list" = some none)
    (z_dict : PySem.W.nsIn K mainGlobals "dict" = some none)
    (z_str : PySem.W.nsIn K mainGlobals "str" = some none)
    (z_min : PySem.W.nsIn K mainGlobals "min" = some none)
    (z_sorted : PySem.W.nsIn K mainGlobals "sorted" = some none)
    (z_enumerate : PySem.W.nsIn K mainGlobals "enumerate" = some none)
    (z_ValueError : PySem.W.nsIn K mainGlobals "ValueError" = some none)
    (y_kBB : PySem.W.kitOne K (.ref cBadName) (.type "BaseException") = some true)
    (y_kOB : PySem.W.kitOne K (.ref cOneFault) (.type "BaseException") = some true)
    (y_kYB : PySem.W.kitOne K (.ref cYardError) (.type "BaseException") = some true)
    (y_cBB : PySem.W.kitCls K (.ref cBadName) (.ref cBadName) = some true)
    (y_cOB : PySem.W.kitCls K (.ref cOneFault) (.ref cBadName) = some false)
    (y_cOO : PySem.W.kitCls K (.ref cOneFault) (.ref cOneFault) = some true)
    (y_cBY : PySem.W.kitCls K (.ref cBadName) (.ref cYardError) = some true)
    (y_cOY : PySem.W.kitCls K (.ref cOneFault) (.ref cYardError) = some true)
    (y_kBV : PySem.W.kitOne K (.ref cBadName) (.type "ValueError") = some true)
    (y_kOV : PySem.W.kitOne K (.ref cOneFault) (.type "ValueError") = some true)
    (y_iBB : PySem.W.kitOne K (.ref cBadName) (.ref cBadName) = some true)
    (y_iBO : PySem.W.kitOne K (.ref cBadName) (.ref cOneFault) = some false)
    (y_iOB : PySem.W.kitOne K (.ref cOneFault) (.ref cBadName) = some false)
    (y_iOO : PySem.W.kitOne K (.ref cOneFault) (.ref cOneFault) = some true)
    (qx_YardError : PySem.W.excIn K cYardError [.type "ValueError", .type "Exception", .type "BaseException", .type "object"] "ValueError.__new__" = true)
    (qx_BadName : PySem.W.excIn K cBadName [.type "ValueError", .type "Exception", .type "BaseException", .type "object"] "ValueError.__new__" = true)
    (qx_OneFault : PySem.W.excIn K cOneFault [.type "ValueError", .type "Exception", .type "BaseException", .type "object"] "ValueError.__new__" = true)
    (cc_BLIND : PySem.W.nsIn K mainGlobals "BLIND" = some (some (.str "blind" tk_BLIND)))
    (cc_STUCK : PySem.W.nsIn K mainGlobals "STUCK" = some (some (.str "stuck" tk_STUCK)))
    (ga_BadName : PySem.W.findIn K (.ref cBadName) "__getattribute__" = some (some (.builtin "BaseException.__getattribute__")))
    (gt_BadName : PySem.W.findIn K (.ref cBadName) "__getattr__" = some none)
    (be_BadName : PySem.W.mroIn K cBadName (.type "BaseException") = some true)
    (hd_BadName : PySem.W.isClsIn K cBadName = true)
    (cl_BadName : PySem.W.findIn K (.ref cBadName) "__class__" = some (some (.builtin "object.__class__")))
    (cg_BadName : PySem.W.specialIn K (.builtin "object.__class__") "__get__" = some (some (.builtin "getset_descriptor.__get__")))
    (ct_BadName : PySem.W.takesIn K (.builtin "object.__class__") = some true)
    (ob_BadName : PySem.W.mroIn K cBadName (.type "object") = some true)
    (ga_OneFault : PySem.W.findIn K (.ref cOneFault) "__getattribute__" = some (some (.builtin "BaseException.__getattribute__")))
    (gt_OneFault : PySem.W.findIn K (.ref cOneFault) "__getattr__" = some none)
    (be_OneFault : PySem.W.mroIn K cOneFault (.type "BaseException") = some true)
    (hd_OneFault : PySem.W.isClsIn K cOneFault = true)
    (cl_OneFault : PySem.W.findIn K (.ref cOneFault) "__class__" = some (some (.builtin "object.__class__")))
    (cg_OneFault : PySem.W.specialIn K (.builtin "object.__class__") "__get__" = some (some (.builtin "getset_descriptor.__get__")))
    (ct_OneFault : PySem.W.takesIn K (.builtin "object.__class__") = some true)
    (ob_OneFault : PySem.W.mroIn K cOneFault (.type "object") = some true)
    : ∃ fd : FuncData, (∀ (s : Shared) (v : Value), BindsTo s fd ⟨[v], []⟩ [("_law_script", v)]) ∧ ∀ base : Heap, K.In base → base.Ns mainGlobals mg → FnOk l.prog w K mg base CX0 8 fa fd ["_law_script"] (spLaw K) := by
  have e := hfa.symm.trans (PySem.W.mg_of X G a12)
  cases e
  have F0 := fun_mk (st := s_Eyes___init__) l0 e0 k0
  have b0 := F0.binds (ps := ["self", "names"]) fun _ _ _ _ _ _ us hl => match us, hl with | [_, _], _ => rfl
  have F1 := fun_mk (st := s_Eyes_fail) l1 e1 k1
  have b1 := F1.binds (ps := ["self", "part", "way"]) fun _ _ _ _ _ _ us hl => match us, hl with | [_, _, _], _ => rfl
  have F2 := fun_mk (st := s_Eyes_mend) l2 e2 k2
  have b2 := F2.binds (ps := ["self"]) fun _ _ _ _ _ _ us hl => match us, hl with | [_], _ => rfl
  have F3 := fun_mk (st := s_Eyes_fault) l3 e3 k3
  have b3 := F3.binds (ps := ["self"]) fun _ _ _ _ _ _ us hl => match us, hl with | [_], _ => rfl
  have F4 := fun_mk (st := s_Eyes_tells) l4 e4 k4
  have b4 := F4.binds (ps := ["self", "taken"]) fun _ _ _ _ _ _ us hl => match us, hl with | [_, _], _ => rfl
  have F5 := fun_mk (st := s__law_mixed) l5 e5 k5
  have b5 := F5.binds (ps := ["_law_cell", "_law_k"]) fun _ _ _ _ _ _ us hl => match us, hl with | [_, _], _ => rfl
  have F6 := fun_mk (st := s__law_cell_at) l6 e6 k6
  have b6 := F6.binds (ps := ["_law_script", "_law_k"]) fun _ _ _ _ _ _ us hl => match us, hl with | [_, _], _ => rfl
  have F7 := fun_mk (st := s__law_names) l7 e7 k7
  have b7 := F7.binds (ps := ["_law_cell", "_law_many"]) fun _ _ _ _ _ _ us hl => match us, hl with | [_, _], _ => rfl
  have F8 := fun_mk (st := s__law_failed) l8 e8 k8
  have b8 := F8.binds (ps := ["_law_eyes", "_law_part", "_law_way"]) fun _ _ _ _ _ _ us hl => match us, hl with | [_, _, _], _ => rfl
  have F9 := fun_mk (st := s__law_failed_by_any) l9 e9 k9
  have b9 := F9.binds (ps := ["_law_eyes", "_law_part", "_law_way"]) fun _ _ _ _ _ _ us hl => match us, hl with | [_, _, _], _ => rfl
  have F10 := fun_mk (st := s__law_fail) l10 e10 k10
  have b10 := F10.binds (ps := ["_law_eyes", "_law_names_here", "_law_cell", "_law_wrong"]) fun _ _ _ _ _ _ us hl => match us, hl with | [_, _, _, _], _ => rfl
  have F11 := fun_mk (st := s__law_told) l11 e11 k11
  have b11 := F11.binds (ps := ["_law_eyes", "_law_names_here", "_law_cell", "_law_wrong", "_law_held"]) fun _ _ _ _ _ _ us hl => match us, hl with | [_, _, _, _, _], _ => rfl
  have F12 := fun_mk (st := s_law) l12 e12 k12
  have T : Tx K mg := {
    d_Eyes___init__ := ⟨f0, _, F0, b0⟩
    d_Eyes_fail := ⟨f1, _, F1, b1⟩
    d_Eyes_mend := ⟨f2, _, F2, b2⟩
    d_Eyes_fault := ⟨f3, _, F3, b3⟩
    d_Eyes_tells := ⟨f4, _, F4, b4⟩
    d__law_mixed := ⟨f5, _, F5, b5⟩
    m__law_mixed := PySem.W.mg_of X G a5
    d__law_cell_at := ⟨f6, _, F6, b6⟩
    m__law_cell_at := PySem.W.mg_of X G a6
    d__law_names := ⟨f7, _, F7, b7⟩
    m__law_names := PySem.W.mg_of X G a7
    d__law_failed := ⟨f8, _, F8, b8⟩
    m__law_failed := PySem.W.mg_of X G a8
    d__law_failed_by_any := ⟨f9, _, F9, b9⟩
    m__law_failed_by_any := PySem.W.mg_of X G a9
    d__law_fail := ⟨f10, _, F10, b10⟩
    m__law_fail := PySem.W.mg_of X G a10
    d__law_told := ⟨f11, _, F11, b11⟩
    m__law_told := PySem.W.mg_of X G a11
    CEyes := cEyes
    mEyes := PySem.W.mg_of X G cx_Eyes
    clEyes := ⟨pg_Eyes, hd_Eyes, po_Eyes, sa_Eyes⟩
    nEyes_watched := na_Eyes_watched
    nEyes_faulty := na_Eyes_faulty
    mkEyes := ⟨mk_Eyes, mi_Eyes, mf_Eyes, mp_Eyes⟩
    mtEyes_fail := ⟨ma_Eyes_fail, mn_Eyes_fail, mq_Eyes_fail⟩
    mtEyes_mend := ⟨ma_Eyes_mend, mn_Eyes_mend, mq_Eyes_mend⟩
    mtEyes_fault := ⟨ma_Eyes_fault, mn_Eyes_fault, mq_Eyes_fault⟩
    mtEyes_tells := ⟨ma_Eyes_tells, mn_Eyes_tells, mq_Eyes_tells⟩
    CYardError := cYardError
    mYardError := PySem.W.mg_of X G cx_YardError
    CBadName := cBadName
    mBadName := PySem.W.mg_of X G cx_BadName
    COneFault := cOneFault
    mOneFault := PySem.W.mg_of X G cx_OneFault
    n_len := PySem.W.mg_none_of X G z_len
    n_range := PySem.W.mg_none_of X G z_range
    n_isinstance := PySem.W.mg_none_of X G z_isinstance
    n_list := PySem.W.mg_none_of X G z_list
    n_dict := PySem.W.mg_none_of X G z_dict
    n_str := PySem.W.mg_none_of X G z_str
    n_min := PySem.W.mg_none_of X G z_min
    n_sorted := PySem.W.mg_none_of X G z_sorted
    n_enumerate := PySem.W.mg_none_of X G z_enumerate
    n_ValueError := PySem.W.mg_none_of X G z_ValueError
    kBB := y_kBB
    kOB := y_kOB
    kYB := y_kYB
    cBB := y_cBB
    cOB := y_cOB
    cOO := y_cOO
    cBY := y_cBY
    cOY := y_cOY
    kBV := y_kBV
    kOV := y_kOV
    iBB := y_iBB
    iBO := y_iBO
    iOB := y_iOB
    iOO := y_iOO
    x_YardError := ownIn_of (PySem.W.mg_of X G cx_YardError) qx_YardError
    x_BadName := ownIn_of (PySem.W.mg_of X G cx_BadName) qx_BadName
    x_OneFault := ownIn_of (PySem.W.mg_of X G cx_OneFault) qx_OneFault
    c_BLIND := ⟨_, PySem.W.mg_of X G cc_BLIND⟩
    c_STUCK := ⟨_, PySem.W.mg_of X G cc_STUCK⟩
    g_BadName := ⟨⟨ga_BadName, gt_BadName, be_BadName⟩, hd_BadName, cl_BadName, cg_BadName, ct_BadName, ob_BadName⟩
    g_OneFault := ⟨⟨ga_OneFault, gt_OneFault, be_OneFault⟩, hd_OneFault, cl_OneFault, cg_OneFault, ct_OneFault, ob_OneFault⟩
  }
  exact ⟨PySem.W.fnOf "law" "law" (defArgs s_law) (defBody s_law) (defScope s_law) .none kV12 dc12 pm12 an12 cd12 ct12, fun s v => .of_eq rfl, fun base _ _ => ok_law F12 T⟩
theorem walk {l : PySem.W.OpenLaw} {q : Program} {loose : List Str} {XP : (Str → Option Value) → Heap → Prop} {YP : World → Heap → Prop} {d : DefRec} {K : Params → PySem.W.Frag} (hn : l.most = some 63) (hdf : d.params.defaults = [])
    (hY : ∀ (w : World) (h : Heap), YP w h → (K w.params).In h)
    (F : ∀ (w : World) (mg : Str → Option Value) (fa : Addr) (h : Heap), (K w.params).In h → h.Ns mainGlobals mg → mg d.name = some (.ref fa) →
      ∃ fd : FuncData, (∀ (s : Shared) (u : Value), BindsTo s fd ⟨[u], []⟩ [("_law_script", u)]) ∧ ∀ base : Heap, (K w.params).In base → base.Ns mainGlobals mg → FnOk l.prog w (K w.params) mg base CX0 8 fa fd ["_law_script"] (spLaw (K w.params))) :
    PySem.W.WalkO q loose XP YP l.row.toRowW d [] (fun f vs => PySem.call f vs) :=
  L2.walk_of (n := 63) (k := 8) (x := "_law_script") (CX := fun _ => CX0) (sp := fun w => spLaw (K w.params)) hn (by decide) hdf ⟨rfl, by decide, by decide⟩ hY F (fun _ _ a ns hl _ hS => ⟨a, ns, rfl, hS, hl, fun _ => rfl⟩) fun _ _ _ _ _ z => z
end K51

end

set_option Elab.async false
set_option linter.all false
set_option maxRecDepth 100000
open PySem PySem.W PyProof.Rows
set_option maxRecDepth 100000 in
set_option maxHeartbeats 0 in
theorem PySem.Challenge.cw_yardkeep_k51_eyes_holds : PySem.Challenge.rw_yardkeep_k51_eyes.Holds := by
  w_on; o_law; k_head; (case hw => w_witness2)
  k_fill
  refine K51.walk (l := PySem.Challenge.rw_yardkeep_k51_eyes) rfl rfl (fun w h Y => PySem.W.kIn_of Y) ?F
  case F =>
    intro w mg fa h KX G hmg
    refine' K51.all_mk KX G hmg ?cx_Eyes ?cx_YardError ?cx_BadName ?cx_OneFault ?a0 ?l0 ?e0 ?k0 ?a1 ?l1 ?e1 ?k1 ?a2 ?l2 ?e2 ?k2 ?a3 ?l3 ?e3 ?k3 ?a4 ?l4 ?e4 ?k4 ?a5 ?l5 ?e5 ?k5 ?a6 ?l6 ?e6 ?k6 ?a7 ?l7 ?e7 ?k7 ?a8 ?l8 ?e8 ?k8 ?a9 ?l9 ?e9 ?k9 ?a10 ?l10 ?e10 ?k10 ?a11 ?l11 ?e11 ?k11 ?a12 ?l12 ?e12 ?k12 ?pg_Eyes ?hd_Eyes ?po_Eyes ?sa_Eyes ?na_Eyes_watched ?na_Eyes_faulty ?mk_Eyes ?mi_Eyes ?mf_Eyes ?mp_Eyes ?ma_Eyes_fail ?mn_Eyes_fail ?mq_Eyes_fail ?ma_Eyes_mend ?mn_Eyes_mend ?mq_Eyes_mend ?ma_Eyes_fault ?mn_Eyes_fault ?mq_Eyes_fault ?ma_Eyes_tells ?mn_Eyes_tells ?mq_Eyes_tells ?z_len ?z_range ?z_isinstance ?z_list ?z_dict ?z_str ?z_min ?z_sorted ?z_enumerate ?z_ValueError ?y_kBB ?y_kOB ?y_kYB ?y_cBB ?y_cOB ?y_cOO ?y_cBY ?y_cOY ?y_kBV ?y_kOV ?y_iBB ?y_iBO ?y_iOB ?y_iOO ?qx_YardError ?qx_BadName ?qx_OneFault ?cc_BLIND ?cc_STUCK ?ga_BadName ?gt_BadName ?be_BadName ?hd_BadName ?cl_BadName ?cg_BadName ?ct_BadName ?ob_BadName ?ga_OneFault ?gt_OneFault ?be_OneFault ?hd_OneFault ?cl_OneFault ?cg_OneFault ?ct_OneFault ?ob_OneFault
    (case cx_Eyes => k_is)
    (case cx_YardError => k_is)
    (case cx_BadName => k_is)
    (case cx_OneFault => k_is)
    (case a0 => k_is)
    (case l0 => k_is)
    (case e0 => k_is)
    (case k0 => k_is)
    (case a1 => k_is)
    (case l1 => k_is)
    (case e1 => k_is)
    (case k1 => k_is)
    (case a2 => k_is)
    (case l2 => k_is)
    (case e2 => k_is)
    (case k2 => k_is)
    (case a3 => k_is)
    (case l3 => k_is)
    (case e3 => k_is)
    (case k3 => k_is)
    (case a4 => k_is)
    (case l4 => k_is)
    (case e4 => k_is)
    (case k4 => k_is)
    (case a5 => k_is)
    (case l5 => k_is)
    (case e5 => k_is)
    (case k5 => k_is)
    (case a6 => k_is)
    (case l6 => k_is)
    (case e6 => k_is)
    (case k6 => k_is)
    (case a7 => k_is)
    (case l7 => k_is)
    (case e7 => k_is)
    (case k7 => k_is)
    (case a8 => k_is)
    (case l8 => k_is)
    (case e8 => k_is)
    (case k8 => k_is)
    (case a9 => k_is)
    (case l9 => k_is)
    (case e9 => k_is)
    (case k9 => k_is)
    (case a10 => k_is)
    (case l10 => k_is)
    (case e10 => k_is)
    (case k10 => k_is)
    (case a11 => k_is)
    (case l11 => k_is)
    (case e11 => k_is)
    (case k11 => k_is)
    (case a12 => k_is)
    (case l12 => k_is)
    (case e12 => k_is)
    (case k12 => k_is)
    (case pg_Eyes => k_is)
    (case hd_Eyes => k_is)
    (case po_Eyes => k_is)
    (case sa_Eyes => k_is)
    (case na_Eyes_watched => k_is)
    (case na_Eyes_faulty => k_is)
    (case mk_Eyes => k_is)
    (case mi_Eyes => k_is)
    (case mf_Eyes => k_is)
    (case mp_Eyes => k_is)
    (case ma_Eyes_fail => k_is)
    (case mn_Eyes_fail => k_is)
    (case mq_Eyes_fail => k_is)
    (case ma_Eyes_mend => k_is)
    (case mn_Eyes_mend => k_is)
    (case mq_Eyes_mend => k_is)
    (case ma_Eyes_fault => k_is)
    (case mn_Eyes_fault => k_is)
    (case mq_Eyes_fault => k_is)
    (case ma_Eyes_tells => k_is)
    (case mn_Eyes_tells => k_is)
    (case mq_Eyes_tells => k_is)
    (case z_len => k_is)
    (case z_range => k_is)
    (case z_isinstance => k_is)
    (case z_list => k_is)
    (case z_dict => k_is)
    (case z_str => k_is)
    (case z_min => k_is)
    (case z_sorted => k_is)
    (case z_enumerate => k_is)
    (case z_ValueError => k_is)
    (case y_kBB => kit_is)
    (case y_kOB => kit_is)
    (case y_kYB => kit_is)
    (case y_cBB => kernel_rfl)
    (case y_cOB => kernel_rfl)
    (case y_cOO => kernel_rfl)
    (case y_cBY => kernel_rfl)
    (case y_cOY => kernel_rfl)
    (case y_kBV => kit_is)
    (case y_kOV => kit_is)
    (case y_iBB => kit_is)
    (case y_iBO => kit_is)
    (case y_iOB => kit_is)
    (case y_iOO => kit_is)
    (case qx_YardError => k_exc)
    (case qx_BadName => k_exc)
    (case qx_OneFault => k_exc)
    (case cc_BLIND => k_is)
    (case cc_STUCK => k_is)
    (case ga_BadName => k_is)
    (case gt_BadName => k_is)
    (case be_BadName => k_is)
    (case hd_BadName => k_is)
    (case cl_BadName => k_is)
    (case cg_BadName => k_is)
    (case ct_BadName => k_is)
    (case ob_BadName => k_is)
    (case ga_OneFault => k_is)
    (case gt_OneFault => k_is)
    (case be_OneFault => k_is)
    (case hd_OneFault => k_is)
    (case cl_OneFault => k_is)
    (case cg_OneFault => k_is)
    (case ct_OneFault => k_is)
    (case ob_OneFault => k_is)
