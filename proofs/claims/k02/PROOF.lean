import PyProof.Rows.All
import Wide.All
import OpenK.AllK
import Wide.FinOn
import Lean
import PyProof.EqAt
import PyProof.EqKinds
import PyProof.TupleCall
import KE.KRevIter
import PyProof.AutoListH
import PySem.Challenge.RW_evenyoke_k02_fractions_made
-- CHANGE: your row's module here, as the last of these rows
set_option Elab.async false
set_option linter.all false
set_option maxRecDepth 100000
/-! THE HAND LAYER, for ints, bools, texts, own classes, LISTS and tuples (index, slices, in, append, pop ..), calls, loops. Paste it whole ahead of your own text; what your proof does not reach may be deleted. -/
namespace L2
open PySem PySem.Spec PyProof.Rows

abbrev Key := Sum Int Str
def keyIs : Key → Value → Bool
  | .inl k, v => Value.isInt k v
  | .inr x, v => Value.isStrOf x v
def keyH (w : World) : Key → Int
  | .inl k => hashInt k
  | .inr x => hashStr w x
theorem keyIs_shape : ∀ {k : Key} {v : Value}, keyIs k v = true → (∃ i t, k = Sum.inl i ∧ v = Value.int i t) ∨ (∃ x t, k = Sum.inr x ∧ v = Value.str x t)
  | .inl i, v, h => by
    obtain ⟨t, e⟩ := Value.isInt_shape (k := i) (v := v) h
    exact .inl ⟨i, t, rfl, e⟩
  | .inr x, v, h => by
    obtain ⟨t, e⟩ := Value.isStrOf_shape (x := x) (v := v) h
    exact .inr ⟨x, t, rfl, e⟩
theorem key_ll (a b : Int) : decide ((Sum.inl a : Key) = Sum.inl b) = (a == b) := by
  by_cases e : a = b
  · subst e; simp
  · have h : ¬ (Sum.inl a : Key) = Sum.inl b := fun q => e (Sum.inl.inj q)
    rw [decide_eq_false h]
    exact (beq_eq_false_iff_ne.mpr e).symm
theorem key_rr (a b : Str) : decide ((Sum.inr a : Key) = Sum.inr b) = decide (a = b) := by
  by_cases e : a = b
  · subst e; simp
  · have h : ¬ (Sum.inr a : Key) = Sum.inr b := fun q => e (Sum.inr.inj q)
    rw [decide_eq_false h, decide_eq_false e]
theorem key_lr (a : Int) (b : Str) : decide ((Sum.inl a : Key) = Sum.inr b) = false := decide_eq_false (fun q => nomatch q)
theorem key_rl (a : Str) (b : Int) : decide ((Sum.inr a : Key) = Sum.inl b) = false := decide_eq_false (fun q => nomatch q)

def mixKind (prog : Program) (w : World) : PySem.KeyKind prog w Key where
  is := keyIs
  hash := keyH w
  inj := fun v a b ha hb => by
    rcases keyIs_shape ha with ⟨i, t, rfl, rfl⟩ | ⟨x, t, rfl, rfl⟩
    · rcases keyIs_shape hb with ⟨j, u, rfl, e⟩ | ⟨y, u, rfl, e⟩
      · injection e with e1 _; rw [e1]
      · exact nomatch e
    · rcases keyIs_shape hb with ⟨j, u, rfl, e⟩ | ⟨y, u, rfl, e⟩
      · exact nomatch e
      · injection e with e1 _; rw [e1]
  byValue := fun k v h => by
    rcases keyIs_shape h with ⟨i, t, rfl, rfl⟩ | ⟨x, t, rfl, rfl⟩ <;> rfl
  pyHash := fun hv h => by
    rcases keyIs_shape hv with ⟨i, t, rfl, rfl⟩ | ⟨x, t, rfl, rfl⟩
    · exact wpAny_pyHash_int h
    · exact wpAny_pyHash_str h
  eqBool := fun hu hv h => by
    rcases keyIs_shape hu with ⟨i, t, rfl, rfl⟩ | ⟨x, t, rfl, rfl⟩
    · rcases keyIs_shape hv with ⟨j, u, rfl, rfl⟩ | ⟨y, u, rfl, rfl⟩
      · rw [key_ll] at h; exact wpAny_eqBool_int h
      · rw [key_lr] at h; exact SeqAt.EqAt.int_str i t y u _ _ _ _ h
    · rcases keyIs_shape hv with ⟨j, u, rfl, rfl⟩ | ⟨y, u, rfl, rfl⟩
      · rw [key_rl] at h; exact SeqAt.EqAt.str_int x t j u _ _ _ _ h
      · rw [key_rr] at h; exact wpAny_eqBool_str h
  «strs» := fun k x t v h => by
    rcases keyIs_shape h with ⟨i, u, rfl, e⟩ | ⟨y, u, rfl, e⟩
    · exact nomatch e
    · injection e with e1 _
      subst e1
      cases v <;> rfl

end L2

namespace L2
open PySem PySem.Spec PyProof.Rows

inductive V where
  | non | bl (b : Bool) | int (i : Int) | str (x : Str) | byt (b : Array UInt8) | flt (b : UInt64) | ref (a : Addr) | ty (n : String)
  deriving DecidableEq

def RelV : V → Value → Prop
  | .non, u => u = Value.none
  | .bl b, u => u = Value.bool b
  | .int i, u => ∃ t, u = Value.int i t
  | .str x, u => ∃ t, u = Value.str x t
  | .byt b, u => ∃ t, u = Value.bytes b t
  | .flt b, u => ∃ t, u = Value.float b t
  | .ref a, u => u = Value.ref a
  | .ty n, u => u = Value.type n

abbrev Vals : List V → List Value → Prop := Paired RelV
theorem Vals.length {xs : List V} {us : List Value} (r : Vals xs us) : xs.length = us.length := Paired.length r
theorem Vals.get : ∀ {xs : List V} {us : List Value} {i : Nat} {x : V}, Vals xs us → xs[i]? = some x → ∃ u, us[i]? = some u ∧ RelV x u
  | _, _, _, _, .nil, e => by simp at e
  | _, _, 0, _, .cons r _, e => by simp at e; subst e; exact ⟨_, rfl, r⟩
  | _, _, i + 1, x, .cons _ t, e => by
    obtain ⟨u, h1, h2⟩ := Vals.get (i := i) (x := x) t (by simpa using e)
    exact ⟨u, by simpa using h1, h2⟩
theorem Vals.set {x : V} {u : Value} (r : RelV x u) : ∀ {xs : List V} {us : List Value} (i : Nat), Vals xs us → Vals (xs.set i x) (us.set i u)
  | _, _, _, .nil => .nil
  | _, _, 0, .cons _ t => .cons r t
  | _, _, i + 1, .cons q t => .cons q (Vals.set r i t)
theorem Vals.append : ∀ {xs ys : List V} {us ws : List Value}, Vals xs us → Vals ys ws → Vals (xs ++ ys) (us ++ ws)
  | _, _, _, _, .nil, s => s
  | _, _, _, _, .cons r t, s => .cons r (Vals.append t s)
theorem Vals.take : ∀ {xs : List V} {us : List Value} (n : Nat), Vals xs us → Vals (xs.take n) (us.take n)
  | _, _, 0, _ => .nil
  | _, _, _ + 1, .nil => .nil
  | _, _, n + 1, .cons r t => .cons r (Vals.take n t)
def RelO : Option V → Option Value → Prop
  | some v, some u => RelV v u
  | none, none => True
  | _, _ => False
def KV {κ : Type} : List (κ × V) → List (κ × Value) → Prop := Paired fun (p : κ × V) (q : κ × Value) => p.1 = q.1 ∧ RelV p.2 q.2

def kV : Key → V
  | .inl i => .int i
  | .inr x => .str x

inductive HO where
  /-- a list -/
  | lst (xs : List V)
  /-- a tuple (never changes) -/
  | tup (xs : List V)
  /-- a dict whose keys are ints and texts; one whose keys are tuples of ints and texts (the empty one is both) -/
  | dK (kvs : List (Key × V)) | dT (kvs : List (List Key × V))
  /-- a set of ints: its members, its size -/
  | set (S : Int → Bool) (n : Nat)
  /-- an instance of the class at C, its dict at dx, its attributes -/
  | ins (C dx : Addr) (fs : List (Str × V))
  /-- the dict of the instance at x -/
  | own (x : Addr)
  /-- the dict of an exception -/
  | xd (fs : List (Str × V))
  /-- a bound method, f of x -/
  | met (f x : Addr)
  /-- a range object lo, lo + 1, .. below hi -/
  | rng (lo hi : Int)
  /-- a thing that is known to the object (the script; a dict while a loop walks it): read, never written while it is so -/
  | frz (o : Obj) (u : HO)
  /-- a code object's table -/
  | tbl (ps : Array Value)
  /-- any other thing, by what is true of its one object (a def of one's own: SetO a S n := HO.ext fun h => ..) -/
  | ext (φ : Heap → Prop)

abbrev Hp := Addr → Option HO
def upd (H : Hp) (a : Addr) (o : HO) : Hp := fun b => if b = a then some o else H b
theorem upd_same {H : Hp} {a : Addr} {o : HO} : upd H a o a = some o := by unfold upd; rw [if_pos rfl]
theorem upd_ne {H : Hp} {a b : Addr} {o : HO} (h : b ≠ a) : upd H a o b = H b := by unfold upd; rw [if_neg h]
theorem ne_of_none {H : Hp} {a b : Addr} {o : HO} (h : H a = some o) (h' : H b = none) : a ≠ b := by
  intro e; subst e; rw [h] at h'; cases h'

section
variable (P : Program) (w : World)
def ObjOk (H : Hp) (h : Heap) (a : Addr) : HO → Prop
  | .lst xs => xs.length ≤ sizeLine ∧ ∃ (its : List Value) (n : Nat), Vals xs its ∧ h.get? a = some { cls := .type "list", data := .seq its.toArray n }
  | .tup xs => xs.length ≤ sizeLine ∧ ∃ its : List Value, Vals xs its ∧ IsTup h a its.toArray
  | .dK kvs => kvs.length ≤ sizeLine ∧ (a == sysModules) = false ∧ ∃ vs, KV kvs vs ∧ h.DictOf (mixKind P w) a vs
  | .dT kvs => kvs.length ≤ sizeLine ∧ (a == sysModules) = false ∧ ∃ xs : List (List Key × Addr × Value),
      Paired (fun (p : List Key × V) (q : List Key × Addr × Value) => p.1 = q.1 ∧ H q.2.1 = some (.tup (p.1.map kV)) ∧ RelV p.2 q.2.2) kvs xs ∧
      ∃ o es ep, h.get? a = some o ∧ o.ExactDict ∧ o.data = .dict es ep ∧ es.toList = xs.map (entryOfKey (tupleKind (mixKind P w))) ∧ (xs.map (·.1)).Nodup
  | .set S n => h.SetOf (intKind P w) a S n
  | .ins C dx fs => H dx = some (.own a) ∧ fs.length ≤ 1000 ∧ dx ≠ a ∧ h.get? a = some (PySem.W.instObj C dx) ∧
      ∃ mA, h.Ns1 dx mA ∧ (∀ f, RelO (fs.lookup f) (mA f)) ∧ PySem.Within mA (fs.map (·.1))
  | .own _ => ∃ o, h.get? a = some o
  | .xd fs => ∃ mA, h.Ns1 a mA ∧ ∀ f, RelO (fs.lookup f) (mA f)
  | .rng lo hi => ∃ t u v, h.get? a = some { cls := .type "range", data := .fields #[.int lo t, .int hi u, .int 1 v] }
  | .frz o u => h.get? a = some o ∧ ObjOk H h a u
  | .tbl ps => h.get? a = some { cls := .none, data := .fields ps }
  | .met f x => h.get? a = some (PySem.W.methodObj (.ref f) (.ref x))
  | .ext φ => φ h ∧ (∃ o, h.get? a = some o) ∧ ∀ h1 h2 : Heap, φ h1 → (∀ o, h1.get? a = some o → h2.get? a = some o) → φ h2
def HOk (H : Hp) (h : Heap) : Prop := ∀ a o, H a = some o → ObjOk P w H h a o
end

section
variable {P : Program} {w : World} {H H' : Hp} {h h' : Heap} {a : Addr} {o : HO}
theorem ObjOk.lt (x : ObjOk P w H h a o) : a < h.objs.size := by
  cases o with
  | lst xs => obtain ⟨_, _, _, _, e⟩ := x; exact Heap.lt_size e
  | tup xs => obtain ⟨_, _, _, p⟩ := x; exact p.lt
  | dK kvs => obtain ⟨_, _, _, _, o, _, _, e, _⟩ := x; exact Heap.lt_size e
  | dT kvs => obtain ⟨_, _, _, _, o, _, _, e, _⟩ := x; exact Heap.lt_size e
  | set S n => obtain ⟨o, _, _, _, e, _⟩ := x; exact Heap.lt_size e
  | ins C dx fs => obtain ⟨_, _, _, e, _⟩ := x; exact Heap.lt_size e
  | own y => obtain ⟨_, e⟩ := x; exact Heap.lt_size e
  | xd fs => obtain ⟨_, ⟨_, _, _, e, _⟩, _⟩ := x; exact Heap.lt_size e
  | rng lo hi => obtain ⟨_, _, _, e⟩ := x; exact Heap.lt_size e
  | frz ob u => obtain ⟨e, _⟩ := x; exact Heap.lt_size e
  | tbl ps => exact Heap.lt_size (show h.get? a = some _ from x)
  | met f y => exact Heap.lt_size (show h.get? a = some _ from x)
  | ext φ => obtain ⟨_, ⟨_, e⟩, _⟩ := x; exact Heap.lt_size e
theorem Paired.mapP {α β : Type} {F G : α → β → Prop} : ∀ {l₁ : List α} {l₂ : List β}, Paired F l₁ l₂ → (∀ a b, F a b → G a b) → Paired G l₁ l₂
  | _, _, .nil, _ => .nil
  | _, _, .cons r t, f => .cons (f _ _ r) (Paired.mapP t f)
theorem ObjOk.stay (x : ObjOk P w H h a o) (k : ∀ b u, (b = a ∨ H b = some (.own a)) → h.get? b = some u → h'.get? b = some u)
    (ho : ∀ b, H b = some (.own a) → H' b = some (.own a)) (ht : ∀ b xs, H b = some (.tup xs) → H' b = some (.tup xs)) : ObjOk P w H' h' a o := by
  induction o with
  | lst xs => obtain ⟨z, its, n, r, e⟩ := x; exact ⟨z, its, n, r, k _ _ (.inl rfl) e⟩
  | tup xs => obtain ⟨z, its, r, ob, e, c⟩ := x; exact ⟨z, its, r, ob, k _ _ (.inl rfl) e, c⟩
  | dK kvs => obtain ⟨z, y, vs, r, ob, es, ep, e, c⟩ := x; exact ⟨z, y, vs, r, ob, es, ep, k _ _ (.inl rfl) e, c⟩
  | dT kvs =>
    obtain ⟨z, y, xs, r, ob, es, ep, e, c⟩ := x
    exact ⟨z, y, xs, Paired.mapP r fun p q z => ⟨z.1, ht _ _ z.2.1, z.2.2⟩, ob, es, ep, k _ _ (.inl rfl) e, c⟩
  | set S n => obtain ⟨ob, es, ep, t, e, c⟩ := x; exact ⟨ob, es, ep, t, k _ _ (.inl rfl) e, c⟩
  | ins C dx fs =>
    obtain ⟨d, z, ne, e, mA, ⟨od, es, ep, e2, c⟩, r⟩ := x
    exact ⟨ho _ d, z, ne, k _ _ (.inl rfl) e, mA, ⟨od, es, ep, k _ _ (.inr d) e2, c⟩, r⟩
  | own y => obtain ⟨ob, e⟩ := x; exact ⟨ob, k _ _ (.inl rfl) e⟩
  | xd fs => obtain ⟨mA, ⟨od, es, ep, e, c⟩, r⟩ := x; exact ⟨mA, ⟨od, es, ep, k _ _ (.inl rfl) e, c⟩, r⟩
  | rng lo hi => obtain ⟨t, u, v, e⟩ := x; exact ⟨t, u, v, k _ _ (.inl rfl) e⟩
  | frz ob u ih => obtain ⟨e, q⟩ := x; exact ⟨k _ _ (.inl rfl) e, ih q⟩
  | tbl ps =>
    have e : h.get? a = some { cls := .none, data := .fields ps } := x
    show h'.get? a = some { cls := .none, data := .fields ps }
    exact k a _ (.inl rfl) e
  | met f y =>
    have e : h.get? a = some (PySem.W.methodObj (.ref f) (.ref y)) := x
    show h'.get? a = some (PySem.W.methodObj (.ref f) (.ref y))
    exact k a _ (.inl rfl) e
  | ext φ => obtain ⟨p, ⟨o, e⟩, st⟩ := x; exact ⟨st _ _ p fun o q => k _ _ (.inl rfl) q, ⟨o, k _ _ (.inl rfl) e⟩, st⟩
theorem HOk.lt (x : HOk P w H h) (e : H a = some o) : a < h.objs.size := (x a o e).lt
theorem HOk.fresh (x : HOk P w H h) (e : h.objs.size ≤ a) : H a = none := by
  cases q : H a with
  | none => rfl
  | some u => exact absurd (Nat.lt_of_lt_of_le (x.lt q) e) (Nat.lt_irrefl _)
theorem HOk.kept (x : HOk P w H h) (k : ∀ b u, h.get? b = some u → h'.get? b = some u) : HOk P w H h' := fun a o e =>
  (x a o e).stay (fun b u _ q => k b u q) (fun _ q => q) fun _ _ q => q
theorem HOk.laid (x : HOk P w H h) (k : ∀ b u, h.get? b = some u → h'.get? b = some u) (hp : h.objs.size ≤ a) (new : ObjOk P w (upd H a o) h' a o) : HOk P w (upd H a o) h' := fun b u e => by
  have hn := x.fresh hp
  by_cases hb : b = a
  · subst hb; rw [upd_same] at e; cases e; exact new
  · rw [upd_ne hb] at e
    exact (x b u e).stay (fun c v _ q => k c v q) (fun c q => by rw [upd_ne (ne_of_none q hn)]; exact q) fun c xs q => by rw [upd_ne (ne_of_none q hn)]; exact q
end

def Rd (H : Hp) (a : Addr) (u : HO) : Prop := H a = some u ∨ ∃ o, H a = some (.frz o u)
theorem Rd.of {H : Hp} {a : Addr} {u : HO} (h : H a = some u) : Rd H a u := .inl h
theorem Rd.ok {P : Program} {w : World} {H : Hp} {h : Heap} {a : Addr} {u : HO} (r : Rd H a u) (x : HOk P w H h) : ObjOk P w H h a u := by
  rcases r with r | ⟨o, r⟩
  · exact x a u r
  · obtain ⟨_, q⟩ := x a _ r
    exact q
section
variable {P : Program} {w : World} {H : Hp} {h h' : Heap} {x e : Addr} {o' : HO}
end

/-! ### kept unless tracked; of the frames at fs (the callers') the slots may change (an exception that passes writes there); of the records at ex (iterators) nothing is said -/
structure Un (fs ex : List Addr) (H H' : Hp) (h h' : Heap) : Prop where
  keep : ∀ b o, h.get? b = some o → H b = none → b ∉ fs → b ∉ ex → h'.get? b = some o
  slot : ∀ b o, h.get? b = some o → H b = none → b ∈ fs → b ∉ ex → ∃ sl, h'.get? b = some { o with slots := sl }
  free : ∀ b o, h.get? b = some o → H b = none → b ∉ ex → H' b = none
  there : ∀ b o, h.get? b = some o → b ∉ ex → ∃ o', h'.get? b = some o'
  tups : ∀ b xs, H b = some (.tup xs) → H' b = some (.tup xs)
  frzs : ∀ b o u, H b = some (.frz o u) → H' b = some (.frz o u)
  tbls : ∀ b ps, H b = some (.tbl ps) → ∃ more, H' b = some (.tbl (ps ++ more))
section
variable {fs fs' ex ex' : List Addr} {H H1 H2 : Hp} {h h1 h2 h' : Heap} {a x e : Addr} {o : HO}
theorem Un.any (u : Un fs ex H H1 h h1) {b : Addr} {ob : Obj} (q : h.get? b = some ob) (n : H b = none) (hx : b ∉ ex) : ∃ sl, h1.get? b = some { ob with slots := sl } := by
  by_cases hb : b ∈ fs
  · exact u.slot b ob q n hb hx
  · exact ⟨ob.slots, u.keep b ob q n hb hx⟩
theorem Un.trans (a : Un fs ex H H1 h h1) (b : Un fs ex H1 H2 h1 h2) : Un fs ex H H2 h h2 where
  keep := fun c ob q n hc hx => b.keep c ob (a.keep c ob q n hc hx) (a.free c ob q n hx) hc hx
  slot := fun c ob q n hc hx => by
    obtain ⟨sl, e1⟩ := a.slot c ob q n hc hx
    obtain ⟨sl', e2⟩ := b.slot c _ e1 (a.free c ob q n hx) hc hx
    exact ⟨sl', e2⟩
  free := fun c ob q n hx => by
    obtain ⟨o', e1⟩ := a.there c ob q hx
    exact b.free c o' e1 (a.free c ob q n hx) hx
  there := fun c ob q hx => by
    obtain ⟨o', e1⟩ := a.there c ob q hx
    exact b.there c o' e1 hx
  tups := fun c xs q => b.tups c xs (a.tups c xs q)
  frzs := fun c ob xs q => b.frzs c ob xs (a.frzs c ob xs q)
  tbls := fun c ps q => by
    obtain ⟨m1, e1⟩ := a.tbls c ps q
    obtain ⟨m2, e2⟩ := b.tbls c _ e1
    exact ⟨m1 ++ m2, by rw [e2, Array.append_assoc]⟩
theorem Un.kept (k : ∀ b u, h.get? b = some u → h'.get? b = some u) : Un fs ex H H h h' :=
  ⟨fun b ob q _ _ _ => k b ob q, fun b ob q _ _ _ => ⟨ob.slots, k b ob q⟩, fun _ _ _ n _ => n, fun b ob q _ => ⟨ob, k b ob q⟩, fun _ _ q => q, fun _ _ _ q => q, fun _ ps q => ⟨#[], by rw [q]; simp⟩⟩
theorem Un.refl : Un fs ex H H h h := Un.kept fun _ _ q => q
theorem Un.laid (k : ∀ b u, h.get? b = some u → h'.get? b = some u) (hp : h.objs.size ≤ a) (hn : H a = none) : Un fs ex H (upd H a o) h h' where
  keep := fun b u q _ _ _ => k b u q
  slot := fun b u q _ _ _ => ⟨u.slots, k b u q⟩
  free := fun b u q n _ => by rw [upd_ne (Nat.ne_of_lt (Nat.lt_of_lt_of_le (Heap.lt_size q) hp))]; exact n
  there := fun b u q _ => ⟨u, k b u q⟩
  tups := fun b xs q => by rw [upd_ne (ne_of_none q hn)]; exact q
  frzs := fun b u xs q => by rw [upd_ne (ne_of_none q hn)]; exact q
  tbls := fun b ps q => ⟨#[], by rw [upd_ne (ne_of_none q hn), q]; simp⟩
theorem Un.mono (u : Un fs ex H H1 h h1) (hs : ∀ b ∈ fs, b ∈ fs') (hx : ∀ b ∈ ex, b ∈ ex') : Un fs' ex' H H1 h h1 :=
  ⟨fun b ob q n hb he => u.keep b ob q n (fun z => hb (hs b z)) fun z => he (hx b z), fun _ _ q n _ he => u.any q n fun z => he (hx _ z), fun b ob q n he => u.free b ob q n fun z => he (hx b z), fun b ob q he => u.there b ob q fun z => he (hx b z), u.tups, u.frzs, u.tbls⟩
end

/-! ### the heap without what is tracked -/
def trk (h : Heap) (H : Hp) : List Addr := (List.range h.objs.size).filter fun a => (H a).isSome
def hidT (h : Heap) (H : Hp) : Heap := PySem.W.hideAll h (trk h H)
theorem hidT_size (h : Heap) (H : Hp) : (hidT h H).objs.size = h.objs.size := PySem.W.hideAll_size _ _
theorem hidT_get {h : Heap} {H : Hp} {b : Addr} {o : Obj} (e : h.get? b = some o) (n : H b = none) : (hidT h H).get? b = some o :=
  PySem.W.hideAll_get _ e fun hm => by
    have q : (H b).isSome = true := (List.mem_filter.mp hm).2
    rw [n] at q; simp at q
theorem of_hidT {h : Heap} {H : Hp} {b : Addr} {o : Obj} (e : (hidT h H).get? b = some o) : h.get? b = some o ∧ H b = none := by
  have e' : h.get? b = some o := PySem.W.of_hideAll (trk h H) e
  refine ⟨e', ?_⟩
  cases q : H b with
  | none => rfl
  | some x =>
    have hm : b ∈ trk h H := List.mem_filter.mpr ⟨List.mem_range.mpr (Heap.lt_size e'), by simp [q]⟩
    have z : (hidT h H).get? b = none := PySem.W.hideAll_none (trk h H) hm
    rw [z] at e; cases e

/-! ### OpenK's ledger, filled with every new object but one -/
def allNews (g h : Heap) (L : Addr) : List (Addr × Obj) := (List.range h.objs.size).filterMap fun a => if a = L ∨ (g.get? a).isSome = true then none else (h.get? a).map fun o => (a, o)
def rest (g h : Heap) (L d : Addr) : List (Addr × Obj) := (allNews g h L).filter fun p => decide (p.1 ≠ d)
end L2

namespace L2
open PySem PySem.Spec PyProof.Rows

structure Mod (K : PySem.W.Frag) (mg : Str → Option Value) (base : Heap) : Prop where
  kin : K.In base
  glob : base.Ns mainGlobals mg
  blt : ∃ mb, base.Ns builtinsNs mb ∧ ∀ x : Str, x ≠ "__name__" → mb x = bootBuiltins x
  nolimit : base.NoLimit

/-- the context: a def's body (or a comprehension's block) running. base: fixed through the whole law; s₀, H₀: the entry; outer: the frames whose slots others may change (a def's callers); stack: all frames that run;
   ex: iterators that were made ahead of the entry and are walked here (a comprehension's); fn: the names whose cells were made at the entry (a def: all; a comprehension's block: its own); calm: not within an except suite; pn: pins that every state bears; xe: what is wanted of an exception that leaves the code -/
structure Cx where
  prog : Program
  w : World
  K : PySem.W.Frag
  mg : Str → Option Value
  base : Heap
  A : Around
  N : List Str
  s₀ : Shared
  H₀ : Hp
  env : Env
  outer : List Env
  stack : List Env
  ex : List Addr
  fn : Str → Bool
  calm : Bool
  pn : List (Addr × Obj)
  xe : Value → Shared → Prop
def frs (l : List Env) : List Addr := l.filterMap (·.frame)
abbrev Cx.fs (X : Cx) : List Addr := frs X.outer

def Vis (sc : Scope) (x : Str) : Prop := sc.names.lookup x = some .local ∨ sc.names.lookup x = some .cell ∨ sc.names.lookup x = some .free
def Loc (sc : Scope) (x : Str) : Prop := sc.names.lookup x = some .local ∨ sc.names.lookup x = some .cell
def Look (env : Env) (h : Heap) (m : Str → Option Value) (x : Str) (u : Value) : Prop :=
  (env.kindOf x = some .local ∧ m x = some u) ∨ ((env.kindOf x = some .cell ∨ env.kindOf x = some .free) ∧ ∃ c, env.cells.lookup x = some c ∧ h.IsCell c (some u))

structure Cx.Ok (X : Cx) : Prop where
  mod : Mod X.K X.mg X.base
  kind : X.env.scope.kind = .function
  glob : X.env.globals = mainGlobals
  blt : X.env.builtins = builtinsNs
  above : X.s₀.heap.objs.size ≤ X.env.locals
  inj : ∀ x y c, X.env.cells.lookup x = some c → X.env.cells.lookup y = some c → x = y
  has : ∀ x, (X.env.kindOf x = some .cell ∨ X.env.kindOf x = some .free) → ∃ c, X.env.cells.lookup x = some c
  cab : ∀ x c, X.fn x = true → X.env.cells.lookup x = some c → X.s₀.heap.objs.size ≤ c
  hd : X.calm = true → X.A.handled = none
  frames : X.A.frames = some X.stack
  stk : X.stack = X.outer ∨ (X.stack = X.env :: X.outer ∧ X.env.frame = some X.env.locals)
  exf : ∀ b ∈ X.ex, b ≠ X.env.locals ∧ ∀ x c, X.env.cells.lookup x = some c → c ≠ b
  bs : ∀ b o, X.base.get? b = some o → X.s₀.heap.get? b = some o ∧ X.H₀ b = none
  bsz : X.base.objs.size ≤ X.s₀.heap.objs.size
  noex : ∀ b o, X.base.get? b = some o → b ∉ X.ex
  exfs : ∀ b ∈ X.ex, b ∉ X.fs
  funs : X.s₀.heap.FunFrames X.base X.outer
  frf : ∀ b ∈ X.fs, X.H₀ b = none

structure Inv (X : Cx) (pins : List (Addr × Obj)) (σ : List (Option V)) (H : Hp) (s : Shared) : Prop where
  ok : X.Ok
  os : s.os = X.s₀.os
  bare : AllBare s.gens
  base : Un X.fs X.ex X.H₀ H X.s₀.heap s.heap
  loc : ∃ m, s.heap.Ns X.env.locals m ∧ ∀ (i : Nat) (x : Str) (v : V), X.N[i]? = some x → σ[i]? = some (some v) → Vis X.env.scope x → ∃ u, RelV v u ∧ Look X.env s.heap m x u
  cell : ∀ x c, X.env.cells.lookup x = some c → ∃ v, s.heap.IsCell c v
  free : H X.env.locals = none
  freeC : ∀ x c, X.env.cells.lookup x = some c → H c = none
  pin : ∀ p ∈ X.pn ++ pins, s.heap.get? p.1 = some p.2 ∧ H p.1 = none ∧ p.1 ≠ X.env.locals ∧ p.1 ∉ X.fs ∧ ∀ v, p.2.data ≠ .cell v
  hok : HOk X.prog X.w H s.heap
  len : σ.length = X.N.length

section
variable {X : Cx} {pins : List (Addr × Obj)} {σ : List (Option V)} {H H' : Hp} {s : Shared} {h' : Heap}

theorem Cx.Ok.nofr (ok : X.Ok) {b : Addr} {o : Obj} (e : X.base.get? b = some o) : b ∉ X.fs := fun hb => by
  have := (ok.funs.mem hb).1
  rw [e] at this; cases this
theorem Inv.bs (I : Inv X pins σ H s) : ∀ b o, X.base.get? b = some o → s.heap.get? b = some o ∧ H b = none := fun b o e =>
  ⟨I.base.keep b o (I.ok.bs b o e).1 (I.ok.bs b o e).2 (I.ok.nofr e) (I.ok.noex b o e), I.base.free b o (I.ok.bs b o e).1 (I.ok.bs b o e).2 (I.ok.noex b o e)⟩
theorem Inv.bk (I : Inv X pins σ H s) : ∀ b o, X.base.get? b = some o → s.heap.get? b = some o := fun b o e => (I.bs b o e).1
theorem Inv.mod (I : Inv X pins σ H s) : Mod X.K X.mg X.base := I.ok.mod
theorem Inv.kIn (I : Inv X pins σ H s) : X.K.In s.heap := I.ok.mod.kin.keeps I.bk
theorem Inv.lt (I : Inv X pins σ H s) : X.env.locals < s.heap.objs.size := let ⟨_, hn, _⟩ := I.loc; hn.lt
theorem Inv.sz (I : Inv X pins σ H s) : X.s₀.heap.objs.size ≤ s.heap.objs.size := Nat.le_trans I.ok.above (Nat.le_of_lt I.lt)
theorem Inv.nofs (I : Inv X pins σ H s) {a : Addr} (h : s.heap.objs.size ≤ a) : a ∉ X.fs := fun hb => by
  obtain ⟨_, o, ho, _⟩ := I.ok.funs.mem hb
  exact absurd (Nat.lt_of_lt_of_le (Heap.lt_size ho) (Nat.le_trans I.sz h)) (Nat.lt_irrefl _)
theorem Inv.cne (I : Inv X pins σ H s) : ∀ x c, X.env.cells.lookup x = some c → c ≠ X.env.locals := fun x c e z => by
  obtain ⟨v, o, ho, hd⟩ := I.cell x c e
  obtain ⟨m, ⟨o', es, ep, ho', hd', _⟩, _⟩ := I.loc
  rw [z, ho'] at ho; cases ho; rw [hd'] at hd; cases hd
theorem Inv.funs (I : Inv X pins σ H s) : s.heap.FunFrames X.base X.outer := by
  have all : ∀ (l : List Env), (∀ b ∈ frs l, b ∈ X.fs) → X.s₀.heap.FunFrames X.base l → s.heap.FunFrames X.base l := by
    intro l
    induction l with
    | nil => intro _ _; trivial
    | cons env r ih =>
      intro hs hl
      obtain ⟨hk, ⟨L, o, hf, hn, ho, hd⟩, hr⟩ := hl
      have hL : L ∈ X.fs := hs L (by unfold frs; rw [List.filterMap_cons, hf]; exact List.mem_cons_self)
      obtain ⟨sl, e⟩ := I.base.slot L o ho (I.ok.frf L hL) hL fun z => I.ok.exfs L z hL
      exact ⟨hk, ⟨L, _, hf, hn, e, hd⟩, ih (fun b hb => hs b (by unfold frs; rw [List.filterMap_cons, hf]; exact List.mem_cons_of_mem _ hb)) hr⟩
  exact all X.outer (fun _ hb => hb) I.ok.funs

theorem Inv.stack (I : Inv X pins σ H s) : s.heap.FunFrames X.base X.stack := by
  rcases I.ok.stk with e | ⟨e, hf⟩
  · rw [e]; exact I.funs
  · rw [e]
    obtain ⟨m, hn, _⟩ := I.loc
    refine .cons (by rw [I.ok.kind]; decide) hf hn ?_ I.funs
    exact Heap.get?_none_of_le (Nat.le_trans I.ok.bsz I.ok.above)
theorem Inv.stkSub (I : Inv X pins σ H s) : ∀ b ∈ frs X.stack, b ∈ X.env.locals :: X.fs := fun b hb => by
  rcases I.ok.stk with e | ⟨e, hf⟩
  · rw [e] at hb; exact List.mem_cons_of_mem _ hb
  · rw [e] at hb
    unfold frs at hb
    rw [List.filterMap_cons, hf] at hb
    exact hb
theorem Inv.stkFree (I : Inv X pins σ H s) : ∀ b ∈ frs X.stack, H b = none := fun b hb => by
  rcases List.mem_cons.mp (I.stkSub b hb) with e | hb
  · rw [e]; exact I.free
  · obtain ⟨_, o, ho, _⟩ := I.ok.funs.mem hb
    exact I.base.free b o ho (I.ok.frf b hb) fun z => I.ok.exfs b z hb

theorem Inv.step {g' : Array GenState} {t' : Nat} {d' : Drawn} {ch : List Addr} (I : Inv X pins σ H s)
    (hch : ∀ b ∈ ch, (b ∈ X.ex ∨ X.s₀.heap.objs.size ≤ b) ∧ b ≠ X.env.locals ∧ (∀ x c, X.env.cells.lookup x = some c → c ≠ b) ∧ ∀ p ∈ X.pn ++ pins, p.1 ≠ b)
    (keep : ∀ b o, b ≠ X.env.locals → b ∉ X.fs → b ∉ ch → s.heap.get? b = some o → H b = none → h'.get? b = some o)
    (slot : ∀ b o, b ≠ X.env.locals → b ∈ X.fs → b ∉ ch → s.heap.get? b = some o → H b = none → ∃ sl, h'.get? b = some { o with slots := sl }) (free : ∀ b o, b ∉ ch → s.heap.get? b = some o → H b = none → H' b = none)
    (there : ∀ b o, b ∉ ch → s.heap.get? b = some o → ∃ o', h'.get? b = some o')
    (tups : ∀ b xs, H b = some (.tup xs) → H' b = some (.tup xs)) (frzs : ∀ b o u, H b = some (.frz o u) → H' b = some (.frz o u)) (tbls : ∀ b ps, H b = some (.tbl ps) → ∃ more, H' b = some (.tbl (ps ++ more)))
    (ns : ∀ m, s.heap.Ns X.env.locals m → h'.Ns X.env.locals m) (hok : HOk X.prog X.w H' h') (hg : AllBare g') :
    Inv X pins σ H' { s with heap := h', gens := g', drawn := d', toks := t' } := by
  have neL : ∀ b o, X.s₀.heap.get? b = some o → b ≠ X.env.locals := fun b o e => Nat.ne_of_lt (Nat.lt_of_lt_of_le (Heap.lt_size e) I.ok.above)
  have neC : ∀ b o, X.s₀.heap.get? b = some o → b ∉ X.ex → b ∉ ch := fun b o e hx hb => by
    rcases (hch b hb).1 with z | z
    · exact hx z
    · exact absurd (Nat.lt_of_lt_of_le (Heap.lt_size e) z) (Nat.lt_irrefl _)
  have cellK : ∀ x c, X.env.cells.lookup x = some c → ∀ v, s.heap.IsCell c v → h'.IsCell c v := fun x c e v ⟨o, ho, hd⟩ => by
    have nch : c ∉ ch := fun z => (hch c z).2.2.1 x c e rfl
    by_cases hc : c ∈ X.fs
    · obtain ⟨sl, q⟩ := slot c o (I.cne x c e) hc nch ho (I.freeC x c e)
      exact ⟨_, q, hd⟩
    · exact ⟨o, keep c o (I.cne x c e) hc nch ho (I.freeC x c e), hd⟩
  refine ⟨I.ok, I.os, hg, ⟨fun b o e n hb hx => ?_, fun b o e n hb hx => ?_, fun b o e n hx => ?_, fun b o e hx => ?_, fun b xs e => tups b xs (I.base.tups b xs e), fun b o xs e => frzs b o xs (I.base.frzs b o xs e), fun b ps e => ?_⟩, ?_, fun x c e => ?_, ?_, fun x c e => ?_, fun p hp => ?_, hok, I.len⟩
  · exact keep b o (neL b o e) hb (neC b o e hx) (I.base.keep b o e n hb hx) (I.base.free b o e n hx)
  · obtain ⟨sl, e1⟩ := I.base.slot b o e n hb hx
    obtain ⟨sl', e2⟩ := slot b _ (neL b o e) hb (neC b o e hx) e1 (I.base.free b o e n hx)
    exact ⟨sl', e2⟩
  · obtain ⟨o', e1⟩ := I.base.there b o e hx
    exact free b o' (neC b o e hx) e1 (I.base.free b o e n hx)
  · obtain ⟨o', e1⟩ := I.base.there b o e hx
    exact there b o' (neC b o e hx) e1
  · obtain ⟨m1, e1⟩ := I.base.tbls b ps e
    obtain ⟨m2, e2⟩ := tbls b _ e1
    exact ⟨m1 ++ m2, by rw [e2, Array.append_assoc]⟩
  · obtain ⟨m, hn, hl⟩ := I.loc
    refine ⟨m, ns m hn, fun i x v e1 e2 e3 => ?_⟩
    obtain ⟨u, r, l⟩ := hl i x v e1 e2 e3
    refine ⟨u, r, ?_⟩
    rcases l with l | ⟨k, c, e, z⟩
    · exact .inl l
    · exact .inr ⟨k, c, e, cellK x c e _ z⟩
  · obtain ⟨v, z⟩ := I.cell x c e
    exact ⟨v, cellK x c e v z⟩
  · obtain ⟨m, ⟨o, _, _, ho, _⟩, _⟩ := I.loc
    exact free _ o (fun z => (hch _ z).2.1 rfl) ho I.free
  · obtain ⟨v, o, ho, hd⟩ := I.cell x c e
    exact free c o (fun z => (hch c z).2.2.1 x c e rfl) ho (I.freeC x c e)
  · obtain ⟨e, n, ne, nf, d⟩ := I.pin p hp
    have nch : p.1 ∉ ch := fun z => (hch p.1 z).2.2.2 p hp rfl
    exact ⟨keep p.1 p.2 ne nf nch e n, free p.1 p.2 nch e n, ne, nf, d⟩
theorem Inv.un {t' : Nat} (I : Inv X pins σ H s) (u : Un X.fs [] H H' s.heap h') (hok : HOk X.prog X.w H' h') : Inv X pins σ H' { s with heap := h', toks := t' } := by
  obtain ⟨m, ⟨o, es, ep, ho, r⟩, _⟩ := id I.loc
  obtain ⟨sl, hL⟩ := u.any ho I.free (by simp)
  exact I.step (g' := s.gens) (d' := s.drawn) (ch := []) (fun _ z => nomatch z) (fun b o _ hb _ e n => u.keep b o e n hb (by simp)) (fun b o _ hb _ e n => u.slot b o e n hb (by simp)) (fun b o _ e n => u.free b o e n (by simp)) (fun b o _ e => u.there b o e (by simp)) u.tups u.frzs u.tbls (fun m' hm => by
    obtain ⟨o', es', ep', ho', r'⟩ := hm
    rw [ho] at ho'; cases ho'
    exact ⟨_, es', ep', hL, r'⟩) hok I.bare
theorem Inv.call {g' : Array GenState} {t' : Nat} {d' : Drawn} {ch : List Addr} (I : Inv X pins σ H s) (u : Un (frs X.stack) ch H H' s.heap h') (hok : HOk X.prog X.w H' h') (hg : AllBare g')
    (hch : ∀ b ∈ ch, (b ∈ X.ex ∨ X.s₀.heap.objs.size ≤ b) ∧ b ≠ X.env.locals ∧ (∀ x c, X.env.cells.lookup x = some c → c ≠ b) ∧ ∀ p ∈ X.pn ++ pins, p.1 ≠ b) :
    Inv X pins σ H' { s with heap := h', gens := g', drawn := d', toks := t' } := by
  obtain ⟨m, ⟨o, es, ep, ho, r⟩, _⟩ := id I.loc
  obtain ⟨sl, hL⟩ := u.any ho I.free fun z => (hch _ z).2.1 rfl
  exact I.step (ch := ch) hch (fun b o hL hb hc e n => u.keep b o e n (fun z => (List.mem_cons.mp (I.stkSub b z)).elim hL hb) hc) (fun b o _ _ hc e n => u.any e n hc) (fun b o hc e n => u.free b o e n hc) (fun b o hc e => u.there b o e hc) u.tups u.frzs u.tbls (fun m' hm => by
    obtain ⟨o', es', ep', ho', r'⟩ := hm
    rw [ho] at ho'; cases ho'
    exact ⟨_, es', ep', hL, r'⟩) hok hg
theorem Inv.turned {t' : Nat} {it : Addr} (I : Inv X pins σ H s) (k : ∀ b o, b ≠ it → s.heap.get? b = some o → h'.get? b = some o) (hn : H it = none) (hL : it ≠ X.env.locals)
    (h1 : it ∈ X.ex ∨ X.s₀.heap.objs.size ≤ it) (h2 : ∀ x c, X.env.cells.lookup x = some c → c ≠ it) (h3 : ∀ p ∈ X.pn ++ pins, p.1 ≠ it) : Inv X pins σ H { s with heap := h', toks := t' } := by
  have nit : ∀ b u, H b = some u → b ≠ it := fun b u e z => by rw [z, hn] at e; cases e
  refine I.step (g' := s.gens) (d' := s.drawn) (ch := [it]) (fun b hb => ?_) (fun b o _ _ hc e _ => k b o (fun z => hc (by simp [z])) e) (fun b o _ _ hc e _ => ⟨o.slots, k b o (fun z => hc (by simp [z])) e⟩) (fun _ _ _ _ n => n)
    (fun b o hc e => ⟨o, k b o (fun z => hc (by simp [z])) e⟩) (fun _ _ e => e) (fun _ _ _ e => e) (fun b ps e => ⟨#[], by rw [e]; simp⟩) (fun m hm => ?_) (fun b u e => ?_) I.bare
  · have e : b = it := by simpa using hb
    subst e
    exact ⟨h1, hL, h2, h3⟩
  · obtain ⟨o, es, ep, ho, r⟩ := hm
    exact ⟨o, es, ep, k _ o (Ne.symm hL) ho, r⟩
  · refine (I.hok b u e).stay (fun c v hc q => k c v ?_ q) (fun _ q => q) fun _ _ q => q
    rcases hc with z | z
    · rw [z]; exact nit b u e
    · exact nit c _ z
theorem Inv.tok (I : Inv X pins σ H s) (t : Nat) : Inv X pins σ H { s with toks := t } := I.un (h' := s.heap) (t' := t) Un.refl I.hok
theorem Inv.kept {t' : Nat} (I : Inv X pins σ H s) (k : ∀ b u, s.heap.get? b = some u → h'.get? b = some u) : Inv X pins σ H { s with heap := h', toks := t' } := I.un (Un.kept k) (I.hok.kept k)
theorem Inv.laid {a : Addr} {o : HO} {t' : Nat} (I : Inv X pins σ H s) (k : ∀ b u, s.heap.get? b = some u → h'.get? b = some u) (hp : s.heap.objs.size ≤ a) (new : ObjOk X.prog X.w (upd H a o) h' a o) :
    Inv X pins σ (upd H a o) { s with heap := h', toks := t' } := I.un (Un.laid k hp (I.hok.fresh hp)) (I.hok.laid k hp new)
theorem Inv.weak {σ' : List (Option V)} (I : Inv X pins σ H s) (hl : σ'.length = σ.length) (w : ∀ (i : Nat) v, σ'[i]? = some (some v) → σ[i]? = some (some v)) : Inv X pins σ' H s :=
  ⟨I.ok, I.os, I.bare, I.base, let ⟨m, hn, hl'⟩ := I.loc; ⟨m, hn, fun i x v e1 e2 e3 => hl' i x v e1 (w i v e2) e3⟩, I.cell, I.free, I.freeC, I.pin, I.hok, hl.trans I.len⟩
theorem Inv.pins_of {pins' : List (Addr × Obj)} (I : Inv X pins σ H s) (h : ∀ p ∈ pins', s.heap.get? p.1 = some p.2 ∧ H p.1 = none ∧ p.1 ≠ X.env.locals ∧ p.1 ∉ X.fs ∧ ∀ v, p.2.data ≠ .cell v) : Inv X pins' σ H s :=
  ⟨I.ok, I.os, I.bare, I.base, I.loc, I.cell, I.free, I.freeC, fun p hp => (List.mem_append.mp hp).elim (fun z => I.pin p (List.mem_append_left _ z)) (h p), I.hok, I.len⟩

theorem nodup_ix {N : List Str} (hN : N.Nodup) {i j : Nat} {x : Str} (a : N[i]? = some x) (b : N[j]? = some x) : i = j := by
  obtain ⟨h1, e1⟩ := List.getElem?_eq_some_iff.mp a
  obtain ⟨h2, e2⟩ := List.getElem?_eq_some_iff.mp b
  exact (List.getElem_inj hN).mp (e1.trans e2.symm)

theorem store_ok2 {M : Model} {A : Around} {E : Value → Shared → Prop} {i : Nat} {x : Str} {v : V} {u : Value} {Q : Unit → Shared → Prop} (I : Inv X pins σ H s) (hN : X.N.Nodup) (hi : X.N[i]? = some x) (hx : Loc X.env.scope x) (r : RelV v u)
    (h : ∀ s', Inv X pins (σ.set i (some v)) H s' → (∃ a, Heap.SameBut a s.heap s'.heap ∧ (a = X.env.locals ∨ X.env.cells.lookup x = some a)) → Q () s') (hf : X.fn x = true ∨ X.env.scope.names.lookup x = some .local := by first | exact .inl rfl | exact .inr rfl | assumption) : wpAny M A (storeName X.env x u) Q E s := by
  obtain ⟨m, hn, hl⟩ := id I.loc
  have hcls : (X.env.scope.kind == .class || (X.env.scope.kind == .module && X.env.locals != X.env.globals)) = false := by rw [I.ok.kind]; rfl
  have hiσ : i < σ.length := by rw [I.len]; exact (List.getElem?_eq_some_iff.mp hi).1
  have cne := I.cne
  have tracked : ∀ {a : Addr} {h' : Heap}, (∃ o, s.heap.get? a = some o ∧ H a = none) → Heap.SameBut a s.heap h' → HOk X.prog X.w H h' := fun {a h'} ha hs b ob e => by
    obtain ⟨_, _, hfree⟩ := ha
    refine (I.hok b ob e).stay (fun c w' hc q => (hs.2 c ?_).trans q) (fun _ q => q) fun _ _ q => q
    rintro rfl
    rcases hc with rfl | hc
    · rw [hfree] at e; cases e
    · rw [hfree] at hc; cases hc
  rcases hx with hk | hk
  · refine wpAny_storeName_local hk hn (fun h' hn' hs => ?_) hcls
    obtain ⟨oL, _, _, hoL, _⟩ := id hn
    refine h _ ⟨I.ok, I.os, I.bare, ⟨fun b o e n hb hx => ?_, fun b o e n hb hx => ?_, I.base.free, fun b o e hx => ?_, I.base.tups, I.base.frzs, I.base.tbls⟩, ⟨_, hn', fun j y v' e1 e2 e3 => ?_⟩, fun y c e => ?_, I.free, I.freeC, fun p hp => ?_, tracked ⟨oL, hoL, I.free⟩ hs, by simpa using I.len⟩ ⟨_, hs, .inl rfl⟩
    · exact (hs.2 b (Nat.ne_of_lt (Nat.lt_of_lt_of_le (Heap.lt_size e) I.ok.above))).trans (I.base.keep b o e n hb hx)
    · obtain ⟨sl, e1⟩ := I.base.slot b o e n hb hx
      exact ⟨sl, (hs.2 b (Nat.ne_of_lt (Nat.lt_of_lt_of_le (Heap.lt_size e) I.ok.above))).trans e1⟩
    · obtain ⟨o', e1⟩ := I.base.there b o e hx
      exact ⟨o', (hs.2 b (Nat.ne_of_lt (Nat.lt_of_lt_of_le (Heap.lt_size e) I.ok.above))).trans e1⟩
    · by_cases hj : j = i
      · subst hj
        rw [hi] at e1; cases e1
        rw [List.getElem?_set_self hiσ] at e2
        cases e2
        exact ⟨u, r, .inl ⟨hk, by simp⟩⟩
      · rw [List.getElem?_set_ne (Ne.symm hj)] at e2
        obtain ⟨u', r', q⟩ := hl j y v' e1 e2 e3
        refine ⟨u', r', ?_⟩
        rcases q with ⟨k, e⟩ | ⟨k, c, e, z⟩
        · refine .inl ⟨k, ?_⟩
          have : y ≠ x := fun e => hj (nodup_ix hN e1 (e ▸ hi))
          simp [this, e]
        · exact .inr ⟨k, c, e, z.sameBut hs (cne y c e)⟩
    · obtain ⟨w', z⟩ := I.cell y c e
      exact ⟨w', z.sameBut hs (cne y c e)⟩
    · obtain ⟨e, n, ne, nf, d⟩ := I.pin p hp
      exact ⟨(hs.2 p.1 ne).trans e, n, ne, nf, d⟩
  · have hfn : X.fn x = true := by
      rcases hf with z | z
      · exact z
      · rw [z] at hk; cases hk
    obtain ⟨c, hc⟩ := I.ok.has x (.inl hk)
    obtain ⟨w', z⟩ := I.cell x c hc
    refine wpAny_storeName_cell I.ok.kind hk hc z (fun h' hc' hs => ?_)
    obtain ⟨oc, hoc, hocd⟩ := id z
    refine h { s with heap := h' } ⟨I.ok, I.os, I.bare, ⟨fun b o e n hb hx => ?_, fun b o e n hb hx => ?_, I.base.free, fun b o e hx => ?_, I.base.tups, I.base.frzs, I.base.tbls⟩, ⟨m, hn.sameBut hs (Ne.symm (cne x c hc)), fun j y v' e1 e2 e3 => ?_⟩, fun y c' e => ?_, I.free, I.freeC, fun p hp => ?_, tracked ⟨oc, hoc, I.freeC x c hc⟩ hs, by simpa using I.len⟩ ⟨c, hs, .inr hc⟩
    · exact (hs.2 b (Nat.ne_of_lt (Nat.lt_of_lt_of_le (Heap.lt_size e) (I.ok.cab x c hfn hc)))).trans (I.base.keep b o e n hb hx)
    · obtain ⟨sl, e1⟩ := I.base.slot b o e n hb hx
      exact ⟨sl, (hs.2 b (Nat.ne_of_lt (Nat.lt_of_lt_of_le (Heap.lt_size e) (I.ok.cab x c hfn hc)))).trans e1⟩
    · obtain ⟨o', e1⟩ := I.base.there b o e hx
      exact ⟨o', (hs.2 b (Nat.ne_of_lt (Nat.lt_of_lt_of_le (Heap.lt_size e) (I.ok.cab x c hfn hc)))).trans e1⟩
    · by_cases hj : j = i
      · subst hj
        rw [hi] at e1; cases e1
        rw [List.getElem?_set_self hiσ] at e2
        cases e2
        exact ⟨u, r, .inr ⟨.inl hk, c, hc, hc'⟩⟩
      · rw [List.getElem?_set_ne (Ne.symm hj)] at e2
        obtain ⟨u', r', q⟩ := hl j y v' e1 e2 e3
        refine ⟨u', r', ?_⟩
        rcases q with q | ⟨k, c', e, z'⟩
        · exact .inl q
        · refine .inr ⟨k, c', e, z'.sameBut hs ?_⟩
          rintro rfl
          exact hj (nodup_ix hN e1 (I.ok.inj _ _ _ e hc ▸ hi))
    · by_cases hcc : c' = c
      · subst hcc; exact ⟨_, hc'⟩
      · obtain ⟨w2, z2⟩ := I.cell y c' e
        exact ⟨w2, z2.sameBut hs hcc⟩
    · obtain ⟨e, n, ne, nf, d⟩ := I.pin p hp
      refine ⟨(hs.2 p.1 ?_).trans e, n, ne, nf, d⟩
      intro q
      rw [q, hoc] at e
      have q' : oc = p.2 := Option.some.inj e
      exact d w' (by rw [← q']; exact hocd)
theorem store_ok {M : Model} {A : Around} {E : Value → Shared → Prop} {i : Nat} {x : Str} {v : V} {u : Value} {Q : Unit → Shared → Prop} (I : Inv X pins σ H s) (hN : X.N.Nodup) (hi : X.N[i]? = some x) (hx : Loc X.env.scope x) (r : RelV v u)
    (h : ∀ s', Inv X pins (σ.set i (some v)) H s' → Q () s') (hf : X.fn x = true ∨ X.env.scope.names.lookup x = some .local := by first | exact .inl rfl | exact .inr rfl | assumption) : wpAny M A (storeName X.env x u) Q E s :=
  store_ok2 I hN hi hx r (fun s' I' _ => h s' I') hf
theorem Inv.call' {s' : Shared} {ch : List Addr} (I : Inv X pins σ H s) (ho : s'.os = s.os) (u : Un (frs X.stack) ch H H' s.heap s'.heap) (hok : HOk X.prog X.w H' s'.heap) (hg : AllBare s'.gens)
    (hch : ∀ b ∈ ch, (b ∈ X.ex ∨ X.s₀.heap.objs.size ≤ b) ∧ b ≠ X.env.locals ∧ (∀ x c, X.env.cells.lookup x = some c → c ≠ b) ∧ ∀ p ∈ X.pn ++ pins, p.1 ≠ b) : Inv X pins σ H' s' := by
  obtain ⟨h', g', d', t', o'⟩ := s'
  have e : o' = s.os := ho
  subst e
  exact I.call (g' := g') (t' := t') (d' := d') u hok hg hch
end

/-! ### the judgements -/
/-- an exception: its class, its own dict's address (where it has one), the abstract heap behind it -/
abbrev XK := Value → Option Addr → Hp → Prop
abbrev St := List (Option V)
abbrev VK := V → Hp → Prop
abbrev TE := St → Hp → VK → Prop
abbrev TT := St → Hp → (Bool → Hp → Prop) → Prop
abbrev TA := St → Hp → (List V → Hp → Prop) → Prop
structure Ends where
  nx : St → Hp → Prop
  rt : VK
  bk : St → Hp → Prop := fun _ _ => False
  ct : St → Hp → Prop := fun _ _ => False
abbrev TS := Ends → St → Hp → Prop

def EP (X : Cx) (pins : List (Addr × Obj)) (σ : St) (Q : VK) (u : Value) (s' : Shared) : Prop := ∃ v H', Inv X pins σ H' s' ∧ RelV v u ∧ Q v H'
def TP (X : Cx) (pins : List (Addr × Obj)) (σ : St) (Q : Bool → Hp → Prop) (b : Bool) (s' : Shared) : Prop := ∃ H', Inv X pins σ H' s' ∧ Q b H'
def AP (X : Cx) (pins : List (Addr × Obj)) (σ : St) (Q : List V → Hp → Prop) (us : List Value) (s' : Shared) : Prop := ∃ vs H', Inv X pins σ H' s' ∧ Vals vs us ∧ Q vs H'
def SP (X : Cx) (pins : List (Addr × Obj)) (D : Ends) (f : Flow) (s' : Shared) : Prop :=
  match f with
  | .next => ∃ σ' H', Inv X pins σ' H' s' ∧ D.nx σ' H'
  | .brk => ∃ σ' H', Inv X pins σ' H' s' ∧ D.bk σ' H'
  | .cont => ∃ σ' H', Inv X pins σ' H' s' ∧ D.ct σ' H'
  | .ret u => ∃ v σ' H', Inv X pins σ' H' s' ∧ RelV v u ∧ D.rt v H'

def PE (X : Cx) (e : Expr) (t : TE) : Prop :=
  ∀ (pins : List (Addr × Obj)) (s : Shared) (σ : St) (H : Hp) (Q : VK), Inv X pins σ H s → t σ H Q → wpAny (model X.prog X.w) X.A (eval e X.env) (EP X pins σ Q) X.xe s
def PT (X : Cx) (e : Expr) (t : TT) : Prop :=
  ∀ (pins : List (Addr × Obj)) (s : Shared) (σ : St) (H : Hp) (Q : Bool → Hp → Prop), Inv X pins σ H s → t σ H Q → wpAny (model X.prog X.w) X.A (isTrue e X.env (eval e X.env)) (TP X pins σ Q) X.xe s
def PW (X : Cx) (e : Expr) (t : TT) : Prop :=
  ∀ (whole : Sem Value) (pins : List (Addr × Obj)) (s : Shared) (σ : St) (H : Hp) (Q : Bool → Hp → Prop), Inv X pins σ H s → t σ H Q → wpAny (model X.prog X.w) X.A (isTrue e X.env whole) (TP X pins σ Q) X.xe s
theorem PW.pt {X : Cx} {e : Expr} {t : TT} (h : PW X e t) : PT X e t := h _
def PA (X : Cx) (es : List Expr) (t : TA) : Prop :=
  ∀ (pos : Pos) (pins : List (Addr × Obj)) (s : Shared) (σ : St) (H : Hp) (Q : List V → Hp → Prop), Inv X pins σ H s → t σ H Q → wpAny (model X.prog X.w) X.A (spliced (backTo pos (starEach es X.env))) (AP X pins σ Q) X.xe s
def PS (X : Cx) (st : Stmt) (t : TS) : Prop :=
  ∀ (pins : List (Addr × Obj)) (s : Shared) (σ : St) (H : Hp) (D : Ends), Inv X pins σ H s → t D σ H → wpAny (model X.prog X.w) X.A (exec st X.env) (SP X pins D) X.xe s
def PSs (X : Cx) (st : List Stmt) (t : TS) : Prop :=
  ∀ (pins : List (Addr × Obj)) (s : Shared) (σ : St) (H : Hp) (D : Ends), Inv X pins σ H s → t D σ H → wpAny (model X.prog X.w) X.A (execs st X.env) (SP X pins D) X.xe s
theorem thn {α : Type} {t : Sem α} {Q Q' : α → Shared → Prop} {M : Model} {A : Around} {E : Value → Shared → Prop} {s : Shared} (h : wpAny M A t Q E s) (hQ : ∀ a s, Q a s → Q' a s) : wpAny M A t Q' E s := wpAny_mono h hQ fun _ _ x => x
end L2

namespace L2
open PySem PySem.Spec PyProof.Rows
section
variable {X : Cx}

/-! ### names and constants -/
def tVar (i : Nat) : TE := fun σ H Q => ∃ v, σ[i]? = some (some v) ∧ Q v H
def tC (v : V) : TE := fun _ H Q => Q v H
theorem pe_var {i : Nat} {x : Str} {pos : Pos} (hN : X.N[i]? = some x) (hv : Vis X.env.scope x) (hd : (x == ("__debug__" : Str)) = false := by decide) (hcd : (x == ("__classdict__" : Str)) = false := by decide) : PE X (.Name x pos) (tVar i) := by
  intro pins s σ H Q I h
  obtain ⟨v, e, h⟩ := h
  obtain ⟨m, hn, hl⟩ := I.loc
  obtain ⟨u, r, l⟩ := hl i x v hN e hv
  have fin : EP X pins σ Q u s := ⟨v, H, I, r, h⟩
  rcases l with ⟨hk, hm⟩ | ⟨hk, c, hc, hcell⟩
  · exact wpAny_Name (wpAny_loadName_local I.ok.kind hk hn hm fin) hd
  · rcases hk with hk | hk
    · exact wpAny_Name (wpAny_loadName_cell I.ok.kind hk hc hcell fin) hd
    · exact wpAny_Name (wpAny_loadName_free I.ok.kind hk hc hcell fin hcd) hd
theorem pe_int {i j pos} : PE X (.Constant (.int i) j pos) (tC (.int i)) := fun _ _ _ H _ I h => wpAny_Constant_int ⟨.int i, H, I.tok _, ⟨_, rfl⟩, h⟩
theorem pe_bl {b j pos} : PE X (.Constant (.bool b) j pos) (tC (.bl b)) := fun _ _ _ H _ I h => Constant_bool ⟨.bl b, H, I, rfl, h⟩
theorem pe_non {j pos} : PE X (.Constant .none j pos) (tC .non) := fun _ _ _ H _ I h => Constant_none ⟨.non, H, I, rfl, h⟩
theorem pe_str {x j pos} : PE X (.Constant (.str x) j pos) (tC (.str x)) := fun _ _ _ H _ I h => Calls.Constant_str ⟨.str x, H, I.tok _, ⟨_, rfl⟩, h⟩

def Gl (X : Cx) (x : Str) : Prop := X.env.kindOf x = some .globalImplicit
theorem ld_glob {E : Value → Shared → Prop} {pins : List (Addr × Obj)} {s : Shared} {σ : St} {H : Hp} {x : Str} {u : Value} {pos : Pos} {Q : Value → Shared → Prop} (I : Inv X pins σ H s) (hg : Gl X x) (hm : X.mg x = some u) (h : Q u s)
    (hd : (x == ("__debug__" : Str)) = false := by decide) : wpAny (model X.prog X.w) X.A (eval (.Name x pos) X.env) Q E s :=
  Calls.Name_function_global I.ok.kind hg (Calls.loadGlobal_global (by rw [I.ok.glob]; exact I.mod.glob.keeps I.bk) hm h) hd
theorem ld_blt {E : Value → Shared → Prop} {pins : List (Addr × Obj)} {s : Shared} {σ : St} {H : Hp} {x : Str} {u : Value} {pos : Pos} {Q : Value → Shared → Prop} (I : Inv X pins σ H s) (hg : Gl X x) (hm : X.mg x = none) (hv : bootBuiltins x = some u) (h : Q u s)
    (hn : x ≠ "__name__" := by decide) (hd : (x == ("__debug__" : Str)) = false := by decide) : wpAny (model X.prog X.w) X.A (eval (.Name x pos) X.env) Q E s := by
  obtain ⟨mb, h1, h2⟩ := I.mod.blt
  exact Calls.Name_function_global I.ok.kind hg (Calls.loadGlobal_builtin (by rw [I.ok.glob]; exact I.mod.glob.keeps I.bk) hm (by rw [I.ok.blt]; exact h1.keeps I.bk) ((h2 x hn).trans hv) h) hd
theorem pe_glob {x : Str} {v : V} {u : Value} {pos : Pos} (hg : Gl X x) (hm : X.mg x = some u) (r : RelV v u) (hd : (x == ("__debug__" : Str)) = false := by decide) : PE X (.Name x pos) (tC v) :=
  fun _ _ _ H _ I h => ld_glob I hg hm ⟨v, H, I, r, h⟩ hd
theorem pe_bltn {x : Str} {v : V} {u : Value} {pos : Pos} (hg : Gl X x) (hm : X.mg x = none) (hv : bootBuiltins x = some u) (r : RelV v u) (hn : x ≠ "__name__" := by decide) (hd : (x == ("__debug__" : Str)) = false := by decide) : PE X (.Name x pos) (tC v) :=
  fun _ _ _ H _ I h => ld_blt I hg hm hv ⟨v, H, I, r, h⟩ hn hd

variable {a b : Expr} {ta tb : TE} {pos : Pos}
/-! ### and, or, not -/
variable {tA tB' : TT} {rest : List Expr}
def tAnd (t u : TT) : TT := fun σ H Q => t σ H fun c H1 => if c = true then u σ H1 Q else Q false H1
def tOr (t u : TT) : TT := fun σ H Q => t σ H fun c H1 => if c = true then Q true H1 else u σ H1 Q
def tNot (t : TT) : TT := fun σ H Q => t σ H fun c H1 => Q (!c) H1
theorem pw_or1 (ha : PT X a tA) : PW X (.BoolOp .Or [a] pos) tA := by
  intro wh pins s σ H Q I h
  refine isTrue_or (thn (ha pins s σ H Q I h) fun c s1 e => ?_)
  cases c with
  | false => exact isTrue_or_nil e
  | true => exact e
theorem pw_or (ha : PT X a tA) (hb : PW X (.BoolOp .Or (b :: rest) pos) tB') : PW X (.BoolOp .Or (a :: b :: rest) pos) (tOr tA tB') := by
  intro wh pins s σ H Q I h
  refine isTrue_or (thn (ha pins s σ H _ I h) fun c s1 ⟨H1, I1, q1⟩ => ?_)
  cases c with
  | true => exact ⟨H1, I1, q1⟩
  | false => exact hb wh pins s1 σ H1 Q I1 q1
theorem pt_not (ha : PT X a tA) : PT X (.UnaryOp .Not a pos) (tNot tA) := by
  intro pins s σ H Q I h
  exact isTrue_not (ha pins s σ H (fun c H1 => Q (!c) H1) I h)
theorem pe_one {op} {t : TE} (h : PE X a t) : PE X (.BoolOp op [a] pos) t := fun pins s σ H Q I hw => BoolOp_one (h pins s σ H Q I hw)
def tIf (t : TT) (ta tb : TE) : TE := fun σ H Q => t σ H fun c H1 => if c = true then ta σ H1 Q else tb σ H1 Q
end
end L2

namespace L2
open PySem PySem.Spec PyProof.Rows

/-! ### a list, a tuple that is read: tracked, frozen, or an object of the module -/
def SqL (K : PySem.W.Frag) (H : Hp) (a : Addr) (xs : List V) : Prop :=
  Rd H a (.lst xs) ∨
    ∃ (o : Obj) (its : Array Value) (n : Nat), K.lookup a = some o ∧ o.cls = .type "list" ∧ o.dict = none ∧ o.data = .seq its n ∧ its.size ≤ sizeLine ∧ Vals xs its.toList
def SqT (K : PySem.W.Frag) (H : Hp) (a : Addr) (xs : List V) : Prop :=
  Rd H a (.tup xs) ∨
    ∃ (o : Obj) (its : Array Value) (n : Nat), K.lookup a = some o ∧ o.cls = .type "tuple" ∧ o.data = .seq its n ∧ its.size ≤ sizeLine ∧ Vals xs its.toList
def absV : Value → Option V
  | .none => some .non
  | .bool b => some (.bl b)
  | .int i _ => some (.int i)
  | .str x _ => some (.str x)
  | .bytes b _ => some (.byt b)
  | .float b _ => some (.flt b)
  | .ref a => some (.ref a)
  | .type n => some (.ty n)
  | _ => none
theorem RelV.abs {x : V} {u : Value} (r : RelV x u) : absV u = some x := by
  cases x with
  | non => cases r; rfl
  | bl _ => cases r; rfl
  | int _ => obtain ⟨t, rfl⟩ := r; rfl
  | str _ => obtain ⟨t, rfl⟩ := r; rfl
  | byt _ => obtain ⟨t, rfl⟩ := r; rfl
  | flt _ => obtain ⟨t, rfl⟩ := r; rfl
  | ref _ => cases r; rfl
  | ty _ => cases r; rfl
theorem RelV.inj {x y : V} {u : Value} (r : RelV x u) (q : RelV y u) : x = y := Option.some.inj (r.abs.symm.trans q.abs)
theorem Vals.inj : ∀ {xs ys : List V} {us : List Value}, Vals xs us → Vals ys us → xs = ys
  | _, _, _, .nil, .nil => rfl
  | _, _, _, .cons r t, .cons r' t' => by rw [r.inj r', Vals.inj t t']
section
variable {X : Cx} {pins : List (Addr × Obj)} {σ : St} {H : Hp} {s : Shared} {a : Addr} {xs ys : List V}
theorem SqL.of {K : PySem.W.Frag} (h : H a = some (.lst xs)) : SqL K H a xs := .inl (.inl h)
theorem SqT.of {K : PySem.W.Frag} (h : H a = some (.tup xs)) : SqT K H a xs := .inl (.inl h)
theorem Inv.list (I : Inv X pins σ H s) (h : SqL X.K H a xs) : ∃ its : List Value, Vals xs its ∧ PlainL s.heap a its.toArray ∧ xs.length ≤ sizeLine := by
  rcases h with h | ⟨o, its, n, hk, hc, hd, hs, hz, r⟩
  · obtain ⟨z, its, n, r, e⟩ := h.ok I.hok
    exact ⟨its, r, ⟨_, n, e, rfl, rfl, rfl⟩, z⟩
  · refine ⟨its.toList, r, ⟨o, n, I.kIn a o hk, hc, hd, by simpa using hs⟩, ?_⟩
    have e := r.length
    simp only [Array.length_toList] at e
    omega
theorem Inv.tuple (I : Inv X pins σ H s) (h : SqT X.K H a xs) : ∃ its : List Value, Vals xs its ∧ IsTup s.heap a its.toArray ∧ xs.length ≤ sizeLine := by
  rcases h with h | ⟨o, its, n, hk, hc, hs, hz, r⟩
  · obtain ⟨z, its, r, p⟩ := h.ok I.hok
    exact ⟨its, r, p, z⟩
  · refine ⟨its.toList, r, ⟨o, I.kIn a o hk, hc, n, by simpa using hs⟩, ?_⟩
    have e := r.length
    simp only [Array.length_toList] at e
    omega
end

/-! ### another wish about exceptions -/
abbrev Cx.wish (X : Cx) (E : Value → Shared → Prop) : Cx := { X with xe := E }
abbrev Cx.nox (X : Cx) : Cx := X.wish fun _ _ => False
theorem Cx.Ok.wish {X : Cx} (ok : X.Ok) (E : Value → Shared → Prop) : (X.wish E).Ok :=
  ⟨ok.mod, ok.kind, ok.glob, ok.blt, ok.above, ok.inj, ok.has, ok.cab, ok.hd, ok.frames, ok.stk, ok.exf, ok.bs, ok.bsz, ok.noex, ok.exfs, ok.funs, ok.frf⟩
theorem Cx.Ok.unwish {X : Cx} {E : Value → Shared → Prop} (ok : (X.wish E).Ok) : X.Ok :=
  ⟨ok.mod, ok.kind, ok.glob, ok.blt, ok.above, ok.inj, ok.has, ok.cab, ok.hd, ok.frames, ok.stk, ok.exf, ok.bs, ok.bsz, ok.noex, ok.exfs, ok.funs, ok.frf⟩
section
variable {X : Cx} {pins : List (Addr × Obj)} {σ : St} {H : Hp} {s : Shared} {E : Value → Shared → Prop}
theorem Inv.wish (I : Inv X pins σ H s) (E : Value → Shared → Prop) : Inv (X.wish E) pins σ H s := ⟨I.ok.wish E, I.os, I.bare, I.base, I.loc, I.cell, I.free, I.freeC, I.pin, I.hok, I.len⟩
theorem Inv.unwish (I : Inv (X.wish E) pins σ H s) : Inv X pins σ H s := ⟨I.ok.unwish, I.os, I.bare, I.base, I.loc, I.cell, I.free, I.freeC, I.pin, I.hok, I.len⟩
theorem SP.unwish {D : Ends} {f : Flow} {s' : Shared} (h : SP (X.wish E) pins D f s') : SP X pins D f s' := by
  cases f with
  | next => obtain ⟨σ', H', I, q⟩ := h; exact ⟨σ', H', I.unwish, q⟩
  | brk => obtain ⟨σ', H', I, q⟩ := h; exact ⟨σ', H', I.unwish, q⟩
  | cont => obtain ⟨σ', H', I, q⟩ := h; exact ⟨σ', H', I.unwish, q⟩
  | ret u => obtain ⟨v, σ', H', I, r, q⟩ := h; exact ⟨v, σ', H', I.unwish, r, q⟩
theorem PE.nox {e : Expr} {t : TE} (h : PE X.nox e t) : PE X e t := fun pins s σ H Q I hw =>
  wpAny_mono (h pins s σ H Q (I.wish _) hw) (fun _ _ ⟨v, H', I', r, q⟩ => ⟨v, H', I'.unwish, r, q⟩) fun _ _ z => False.elim z
theorem PT.nox {e : Expr} {t : TT} (h : PT X.nox e t) : PT X e t := fun pins s σ H Q I hw =>
  wpAny_mono (h pins s σ H Q (I.wish _) hw) (fun _ _ ⟨H', I', q⟩ => ⟨H', I'.unwish, q⟩) fun _ _ z => False.elim z
theorem PSs.nox {st : List Stmt} {t : TS} (h : PSs X.nox st t) : PSs X st t := fun pins s σ H D I hw =>
  wpAny_mono (h pins s σ H D (I.wish _) hw) (fun _ _ q => q.unwish) fun _ _ z => False.elim z
end

/-! ### blocks and small statements -/
section
variable {X : Cx} {st : Stmt} {rest : List Stmt} {t u : TS} {e : Expr} {te : TE} {pos : Pos}
def tNext : TS := fun D σ H => D.nx σ H
def tSeq (t u : TS) : TS := fun D σ H => t { D with nx := u D } σ H
theorem pss_nil : PSs X [] tNext := fun _ _ σ H _ I h => wpAny_execs_nil ⟨σ, H, I, h⟩
theorem pss_cons (h1 : PS X st t) (h2 : PSs X rest u) : PSs X (st :: rest) (tSeq t u) := by
  intro pins s σ H D I h
  refine wpAny_execs_cons (thn (h1 pins s σ H { D with nx := u D } I h) fun f s1 q => ?_)
  cases f with
  | next =>
    obtain ⟨σ', H', I', q⟩ := q
    exact h2 pins s1 σ' H' D I' q
  | ret v => exact q
  | brk => exact q
  | cont => exact q
theorem pss_one (h1 : PS X st t) : PSs X [st] t := by
  intro pins s σ H D I h
  refine wpAny_execs_cons (thn (h1 pins s σ H D I h) fun f s1 q => ?_)
  cases f with
  | next => exact wpAny_execs_nil q
  | ret v => exact q
  | brk => exact q
  | cont => exact q
theorem Inv.quiet {pins : List (Addr × Obj)} {σ : St} {H : Hp} {s : Shared} (I : Inv X pins σ H s) : interactive X.env = false := by simp [interactive, I.ok.kind]
def tDrop (te : TE) : TS := fun D σ H => te σ H fun _ H1 => D.nx σ H1
def tRet (te : TE) : TS := fun D σ H => te σ H D.rt
theorem ps_ret (he : PE X e te) : PS X (.Return (some e) pos) (tRet te) := by
  intro pins s σ H D I h
  exact wpAny_Return_some (thn (he pins s σ H _ I h) fun v s1 ⟨x, H1, I1, r1, q1⟩ => ⟨x, σ, H1, I1, r1, q1⟩)
def tIfS (c : TT) (t u : TS) : TS := fun D σ H => c σ H fun b H1 => if b = true then t D σ H1 else u D σ H1
theorem ps_if {c : Expr} {a b : List Stmt} {tc : TT} (hc : PT X c tc) (ha : PSs X a t) (hb : PSs X b u) : PS X (.If c a b pos) (tIfS tc t u) := by
  intro pins s σ H D I h
  refine wpAny_If (thn (hc pins s σ H _ I h) fun d s1 ⟨H1, I1, q1⟩ => ?_)
  cases d with
  | true => exact ha pins s1 σ H1 D I1 q1
  | false => exact hb pins s1 σ H1 D I1 q1
end

/-! ### targets -/
abbrev TG := V → St → Hp → (St → Hp → Prop) → Prop
def PG (X : Cx) (target : Expr) (t : TG) : Prop :=
  ∀ (pins : List (Addr × Obj)) (s : Shared) (σ : St) (H : Hp) (v : V) (u : Value) (Q : St → Hp → Prop), Inv X pins σ H s → RelV v u → t v σ H Q →
    wpAny (model X.prog X.w) X.A (assign target X.env u) (fun _ s' => ∃ σ' H', Inv X pins σ' H' s' ∧ Q σ' H') X.xe s
abbrev TSet := V → V → V → Hp → (Hp → Prop) → Prop
abbrev TIp := V → V → Hp → VK → Prop
section
variable {X : Cx} {pos : Pos}
def gName (i : Nat) : TG := fun v σ H Q => Q (σ.set i (some v)) H
theorem pg_name {i : Nat} {x : Str} (hN : X.N.Nodup) (hi : X.N[i]? = some x) (hx : Loc X.env.scope x) (hf : X.fn x = true ∨ X.env.scope.names.lookup x = some .local := by first | exact .inl rfl | exact .inr rfl | assumption) : PG X (.Name x pos) (gName i) := by
  intro pins s σ H v u Q I r h
  exact wpAny_assign_Name (store_ok I hN hi hx r (fun s' I' => ⟨_, H, I', h⟩) hf)
def gSub (to ti : TE) (t : TSet) : TG := fun v σ H Q => to σ H fun o H1 => ti σ H1 fun i H2 => t o i v H2 fun H3 => Q σ H3
def tAsg (te : TE) (g : TG) : TS := fun D σ H => te σ H fun x H1 => g x σ H1 D.nx
theorem ps_set {i : Nat} {x : Str} {e : Expr} {te : TE} {pos' : Pos} (hN : X.N.Nodup) (hi : X.N[i]? = some x) (hx : Loc X.env.scope x) (he : PE X e te) (hs : swapsWith e (some (.Name x pos')) pos.line X.env = pure false := by rfl) (hf : X.fn x = true ∨ X.env.scope.names.lookup x = some .local := by first | exact .inl rfl | exact .inr rfl | assumption) :
    PS X (.Assign [.Name x pos'] e pos) (tAsg te (gName i)) := by
  intro pins s σ H D I h
  refine wpAny_Assign_Name (thn (he pins s σ H _ I h) fun v s1 ⟨y, H1, I1, r1, q1⟩ => ?_) hs
  exact store_ok I1 hN hi hx r1 (fun s2 I2 => ⟨_, H1, I2, q1⟩) hf
def tPar (i j : Nat) (ta : TA) : TS := fun D σ H => ta σ H fun vs H1 => ∃ v w, vs = [v, w] ∧ D.nx ((σ.set i (some v)).set j (some w)) H1
theorem ps_par {i j : Nat} {x y : Str} {a b : Expr} {ta : TA} {px py pt : Pos} {kt k2 pt2} (hc : X.calm = true) (hN : X.N.Nodup) (hi : X.N[i]? = some x) (hj : X.N[j]? = some y) (hij : i ≠ j)
    (hx : X.env.scope.names.lookup x = some .local) (hy : X.env.scope.names.lookup y = some .local) (ha : PA X [a, b] ta)
    (hw : swappedStores [.Tuple [.Name x px, .Name y py] kt pt] (.Tuple [a, b] k2 pt2) X.env = pure (some [x, y]))
    (hs : swapsWithSole [.Tuple [.Name x px, .Name y py] kt pt] (.Tuple [a, b] k2 pt2) pos.line X.env = pure false := by rfl) :
    PS X (.Assign [.Tuple [.Name x px, .Name y py] kt pt] (.Tuple [a, b] k2 pt2) pos) (tPar i j ta) := by
  intro pins s σ H D I h
  rw [exec_Assign_arm]
  refine wpAny_bind (wpAny_standAt ?_)
  rw [hs]
  refine wpAny_bind (wpAny_pure ?_)
  rw [if_neg (by decide)]
  refine wpAny_bind (Tuple_ (thn (ha _ pins s σ H _ I h) fun us s1 ⟨vs, H1, I1, r1, q1⟩ => ?_))
  obtain ⟨v, w, e1, q1⟩ := q1
  subst e1
  obtain ⟨u1, u2, rfl, rv, rw'⟩ : ∃ u1 u2, us = [u1, u2] ∧ RelV v u1 ∧ RelV w u2 := by
    cases r1 with
    | cons p q =>
      cases q with
      | cons p' q' =>
        cases q'
        exact ⟨_, _, rfl, p, p'⟩
  refine wpAny_newObj_type ?_ (by show 2 ≤ sizeLine; decide)
  have I2 : Inv X pins σ H1 { s1 with heap := s1.heap.push { cls := .type "tuple", data := .seq [u1, u2].toArray } } := I1.kept (t' := s1.toks) fun b o e => Heap.get?_push_of_some _ e
  rw [hw]
  refine wpAny_bind (wpAny_pure ?_)
  show wpAny (model X.prog X.w) X.A (do rule "assign.swapped-stores"; let items ← unpackItems (.ref s1.heap.objs.size) 2 none; assignInOrder [fun v => bindName X.env y v, fun v => bindName X.env x v] items.reverse; pure Flow.next) _ _ _
  refine wpAny_bind (wpAny_rule (wpAny_bind (unpackItems_tuple (items := #[u1, u2]) (I.ok.hd hc) (IsTup.new s1.heap _) fun h' hx' => ?_)))
  have I3 := I2.kept (h' := h') (t' := s1.toks) fun b o e => hx' b o (Nat.ne_of_lt (Heap.lt_size e)) e
  show wpAny _ _ (assignInOrder [fun v => bindName X.env y v, fun v => bindName X.env x v] [u2, u1] >>= fun _ => pure Flow.next) _ _ _
  refine wpAny_bind (assignInOrder_cons (wpAny_bindName (store_ok I3 hN hj (.inl hy) rw' (fun s2 I4 => ?_) (.inr hy))))
  refine assignInOrder_cons (wpAny_bindName (store_ok I4 hN hi (.inl hx) rv (fun s3 I5 => assignInOrder_nil (wpAny_pure ?_)) (.inr hx)))
  rw [List.set_comm _ _ (Ne.symm hij)] at I5
  exact ⟨_, H1, I5, q1⟩
def tAugS (to ti te : TE) (tget : V → V → Hp → VK → Prop) (tip : TIp) (tset : TSet) : TS := fun D σ H => to σ H fun o H1 => ti σ H1 fun i H2 => tget o i H2 fun x H3 => te σ H3 fun y H4 => tip x y H4 fun z H5 => tset o i z H5 fun H6 => D.nx σ H6
end

/-! ### while -/
section
variable {X : Cx} {pos : Pos}
end

/-! ### what a loop or a comprehension walks -/
/-- at turn i: it yields x (the heap may grow), or it stops -/
structure It where
  go : Nat → Hp → Prop
  yld : Nat → Hp → V → Hp → Prop
  stop : Nat → Hp → Prop
def FpOk (X : Cx) (pins : List (Addr × Obj)) (H : Hp) (b : Addr) : Prop :=
  H b = none ∧ b ≠ X.env.locals ∧ b ∉ X.fs ∧ (b ∈ X.ex ∨ X.s₀.heap.objs.size ≤ b) ∧ (∀ x c, X.env.cells.lookup x = some c → c ≠ b) ∧ ∀ p ∈ X.pn ++ pins, p.1 ≠ b
theorem Inv.fpOk {X : Cx} {pins : List (Addr × Obj)} {σ : St} {H H' : Hp} {s : Shared} {b : Addr} (I : Inv X pins σ H s) (hb : s.heap.objs.size ≤ b) (hn : H' b = none) : FpOk X pins H' b := by
  refine ⟨hn, Nat.ne_of_gt (Nat.lt_of_lt_of_le I.lt hb), I.nofs hb, .inr (Nat.le_trans I.sz hb), fun x c e z => ?_, fun p hp z => ?_⟩
  · obtain ⟨v, q⟩ := I.cell x c e
    exact absurd (Nat.lt_of_lt_of_le q.lt (by rw [z]; exact hb)) (Nat.lt_irrefl _)
  · exact absurd (Nat.lt_of_lt_of_le (Heap.lt_size (I.pin p hp).1) (by rw [z]; exact hb)) (Nat.lt_irrefl _)
structure Turn (P : Program) (w : World) (K : PySem.W.Frag) (tg : Expr) (J : It) (fp : List Addr) (it : Addr) (tn : Nat → Heap → Prop) : Prop where
  mem : it ∈ fp
  obj : ∀ i h, tn i h → ∀ b ∈ fp, ∃ o, h.get? b = some o ∧ ∀ v, o.data ≠ .cell v
  keep : ∀ i h h', tn i h → (∀ b ∈ fp, ∀ o, h.get? b = some o → h'.get? b = some o) → tn i h'
  item : ∀ (X : Cx), X.prog = P → X.w = w → X.K = K → X.calm = true → ∀ (i : Nat) (pins : List (Addr × Obj)) (s : Shared) (σ : St) (H : Hp) (E : Value → Shared → Prop), Inv X pins σ H s → (∀ b ∈ fp, FpOk X pins H b) → tn i s.heap → J.go i H →
    wpAny (model P w) X.A (pyNext (.ref it)) (fun r s1 => ∃ u, r = some u ∧
      wpAny (model P w) X.A (letOwnedTupleGo tg (.ref it) u) (fun _ s2 => ∃ x H', Inv X pins σ H' s2 ∧ RelV x u ∧ J.yld i H x H' ∧ tn (i + 1) s2.heap ∧ ∀ b ∈ fp, H' b = none) E s1) E s
  done : ∀ (X : Cx), X.prog = P → X.w = w → X.K = K → X.calm = true → ∀ (i : Nat) (pins : List (Addr × Obj)) (s : Shared) (σ : St) (H : Hp) (E : Value → Shared → Prop), Inv X pins σ H s → (∀ b ∈ fp, FpOk X pins H b) → tn i s.heap → J.stop i H →
    wpAny (model P w) X.A (pyNext (.ref it)) (fun r s1 => r = none ∧ Inv X pins σ H s1) E s
  self : ∀ (A : Around) (i : Nat) (s : Shared) (Q : Value → Shared → Prop) (E : Value → Shared → Prop), tn i s.heap → Q (.ref it) s → wpAny (model P w) A (pyIter (.ref it)) Q E s
abbrev TI := St → Hp → (It → Hp → Prop) → Prop
def PIE (X : Cx) (pins : List (Addr × Obj)) (σ : St) (tg : Expr) (R : It → Hp → Prop) (itv : Value) (s2 : Shared) : Prop :=
  ∃ (it : Addr) (fp : List Addr) (tn : Nat → Heap → Prop) (J : It) (H' : Hp), itv = .ref it ∧ Inv X pins σ H' s2 ∧ Turn X.prog X.w X.K tg J fp it tn ∧ tn 0 s2.heap ∧ (∀ b ∈ fp, FpOk X pins H' b) ∧ R J H'
def PI (X : Cx) (tg iter : Expr) (wi : TI) : Prop :=
  ∀ (pins : List (Addr × Obj)) (s : Shared) (σ : St) (H : Hp) (R : It → Hp → Prop), Inv X pins σ H s → wi σ H R →
    wpAny (model X.prog X.w) X.A (eval iter X.env) (fun v s1 => wpAny (model X.prog X.w) X.A (pyIter v) (PIE X pins σ tg R) X.xe s1) X.xe s

theorem go_of {M : Model} {A : Around} {E : Value → Shared → Prop} {s : Shared} {tg : Expr} {it : Addr} {u : Value} {o : Obj} {n : String} {vs : Array Value} {Q : Unit → Shared → Prop} (ho : s.heap.get? it = some o) (hc : o.cls = .type n) (hd : o.data = .fields vs)
    (hn : ["enumerate", "zip", "dict_itemiterator", "dict_reverseitemiterator", "odict_iterator", "itertools.zip_longest", "itertools.pairwise"].contains n = false) (hQ : Q () s) : wpAny M A (letOwnedTupleGo tg (.ref it) u) Q E s := by
  unfold letOwnedTupleGo
  cases tg <;> first
    | exact wpAny_pure hQ
    | (cases u <;> first
        | exact wpAny_pure hQ
        | (refine wpAny_bind (wpAny_load ho ?_)
           rw [hc, hd]
           show wpAny M A (if (["enumerate", "zip", "dict_itemiterator", "dict_reverseitemiterator", "odict_iterator", "itertools.zip_longest", "itertools.pairwise"].contains n && vs[0]? == some (rawInt _)) = true then _ else _) Q E s
           rw [if_neg (by intro h; rw [hn, Bool.false_and] at h; cases h)]
           exact wpAny_pure hQ))

def Itl (K : PySem.W.Frag) (a : Addr) : It :=
  ⟨fun i H => ∃ xs x, SqL K H a xs ∧ xs[i]? = some x, fun i H x H' => H' = H ∧ ∀ xs, SqL K H a xs → xs[i]? = some x, fun i H => ∃ xs, SqL K H a xs ∧ xs.length ≤ i⟩
def Itt (K : PySem.W.Frag) (a : Addr) : It :=
  ⟨fun i H => ∃ xs x, SqT K H a xs ∧ xs[i]? = some x, fun i H x H' => H' = H ∧ ∀ xs, SqT K H a xs → xs[i]? = some x, fun i H => ∃ xs, SqT K H a xs ∧ xs.length ≤ i⟩
def Itr (lo : Int) (n : Nat) : It := ⟨fun i _ => i < n, fun i H x H' => H' = H ∧ x = .int (lo + i), fun i _ => n ≤ i⟩
theorem turn_range {P : Program} {w : World} {K : PySem.W.Frag} {tg : Expr} (it : Addr) (lo : Int) (n : Nat) : Turn P w K tg (Itr lo n) [it] it (fun i h => IsRangeIter h it (lo + (i : Nat) * 1) ((n : Int) - (i : Nat)) 1) where
  mem := by simp
  obj := fun i h st b hb => by
    have e : b = it := by simpa using hb
    subst e
    exact ⟨_, st, fun v z => by
      have z' : Data.fields _ = Data.cell v := z
      cases z'⟩
  keep := fun i h h' st k => k it (by simp) _ st
  item := by
    intro X hP hw hK hc i pins s σ H E I hf st hg
    subst hP hw hK
    obtain ⟨f0, f1, f2, f3, f4, f5⟩ := hf it (by simp)
    have W := Walks.range (prog := X.prog) (w := X.w) (I.ok.hd hc) it lo 1 n
    refine W.item i s _ _ hg st fun v h' tk hv st' kk => ?_
    obtain ⟨t, rfl⟩ := hv
    have I1 : Inv X pins σ H { s with heap := h', toks := tk } := I.turned (fun b o hb e => kk b o (by simpa using hb) e) f0 f1 f3 f4 f5
    refine ⟨_, rfl, go_of (s := { s with heap := h', toks := tk }) (n := "range_iterator") st' rfl rfl (by decide) ⟨.int (lo + i), H, I1, ⟨t, ?_⟩, ⟨rfl, rfl⟩, st', fun b hb => (hf b hb).1⟩⟩
    rw [Int.mul_one]
  done := by
    intro X hP hw hK hc i pins s σ H E I hf st hg
    subst hP hw hK
    obtain ⟨f0, f1, f2, f3, f4, f5⟩ := hf it (by simp)
    exact wpAny_pyNext_range_end (I.ok.hd hc) st (by have : n ≤ i := hg; omega) fun h' eb => ⟨rfl, I.turned (t' := s.toks) (fun b o hb e => eb b o hb e) f0 f1 f3 f4 f5⟩
  self := fun _ _ _ _ _ st h => wpAny_pyIter_rangeiter st h
end L2

namespace L2
open PySem PySem.Spec PyProof.Rows
section
variable {X : Cx} {tg : Expr}
theorem range_it {pins : List (Addr × Obj)} {σ : St} {H : Hp} {s : Shared} {R : It → Hp → Prop} {E : Value → Shared → Prop} {lo hi : Int} {t u v : Tok} {tk : Nat} (I : Inv X pins σ H s) (h1 : -(2 ^ 62) ≤ lo) (h2 : lo < 2 ^ 62) (h3 : -(2 ^ 62) ≤ hi) (h4 : hi < 2 ^ 62)
    (q : R (Itr lo (hi - lo).toNat) H) : wpAny (model X.prog X.w) X.A (pyIter (.ref s.heap.objs.size)) (PIE X pins σ tg R) E { s with heap := s.heap.push { cls := .type "range", data := .fields #[.int lo t, .int hi u, .int 1 v] }, toks := tk } := by
  refine wpAny_pyIter_range (IsRange.new ..) (small_one h1 h2 h3 h4) ?_
  have I1 : Inv X pins σ H { s with heap := s.heap.push { cls := .type "range", data := .fields #[.int lo t, .int hi u, .int 1 v] }, toks := tk } := I.kept fun b o e => Heap.get?_push_of_some _ e
  refine ⟨(s.heap.push { cls := .type "range", data := .fields #[.int lo t, .int hi u, .int 1 v] }).objs.size, [(s.heap.push { cls := .type "range", data := .fields #[.int lo t, .int hi u, .int 1 v] }).objs.size], _, _, H, rfl,
    I1.kept (t' := tk) fun b o e => Heap.get?_push_of_some _ e, turn_range _ lo (hi - lo).toNat, ?_, fun b hb => ?_, q⟩
  · have e1 : lo + ((0 : Nat) : Int) * 1 = lo := by simp
    have e2 : (((hi - lo).toNat : Nat) : Int) - ((0 : Nat) : Int) = Builtin.Range.rangeSize lo hi 1 := by rw [rangeSize_one]; split <;> omega
    show IsRangeIter _ _ (lo + ((0 : Nat) : Int) * 1) ((((hi - lo).toNat : Nat) : Int) - ((0 : Nat) : Int)) 1
    rw [e1, e2]
    exact Heap.get?_push_size _ rfl
  · have e : b = (s.heap.push { cls := .type "range", data := .fields #[.int lo t, .int hi u, .int 1 v] }).objs.size := by simpa using hb
    subst e
    exact I1.fpOk (Nat.le_refl _) (I1.hok.fresh (Nat.le_refl _))
/-! ### for -/
/-- W: the invariant by the turn and a measure; N: what the body is to reach -/
def tFor (wi : TI) (g : TG) (tb : TS) : TS := fun D σ H => wi σ H fun J H1 => ∃ W : Nat → Nat → St → Hp → Prop, (∃ m, W 0 m σ H1) ∧ ∀ i m σ H, W i m σ H →
  (J.stop i H ∧ D.nx σ H) ∨ (J.go i H ∧ ∃ N : St → Hp → Prop, (∀ σ' H', N σ' H' → ∃ m', m' < m ∧ W (i + 1) m' σ' H') ∧ ∀ x H', J.yld i H x H' → g x σ H' fun σ2 H2 => tb { D with nx := N, ct := N, bk := D.nx } σ2 H2)
def pinsAt (fp : List Addr) (h : Heap) : List (Addr × Obj) := fp.filterMap fun b => (h.get? b).map fun o => (b, o)
theorem mem_pinsAt {fp : List Addr} {h : Heap} {b : Addr} {o : Obj} (hb : b ∈ fp) (e : h.get? b = some o) : (b, o) ∈ pinsAt fp h := List.mem_filterMap.mpr ⟨b, hb, by rw [e]; rfl⟩
theorem of_pinsAt {fp : List Addr} {h : Heap} {p : Addr × Obj} (hp : p ∈ pinsAt fp h) : p.1 ∈ fp ∧ h.get? p.1 = some p.2 := by
  obtain ⟨b, hb, e⟩ := List.mem_filterMap.mp hp
  cases q : h.get? b with
  | none => rw [q] at e; cases e
  | some o =>
    rw [q] at e
    have e' : (b, o) = p := Option.some.inj e
    subst e'
    exact ⟨hb, q⟩
theorem Inv.pinned {pins : List (Addr × Obj)} {σ : St} {H : Hp} {s : Shared} {fp : List Addr} (I : Inv X pins σ H s) (hf : ∀ b ∈ fp, FpOk X pins H b) (ho : ∀ b ∈ fp, ∃ o, s.heap.get? b = some o ∧ ∀ v, o.data ≠ .cell v) : Inv X (pins ++ pinsAt fp s.heap) σ H s :=
  I.pins_of fun p hp => (List.mem_append.mp hp).elim (fun z => I.pin p (List.mem_append_right _ z)) fun z => by
    obtain ⟨hb, e⟩ := of_pinsAt z
    obtain ⟨f0, f1, f2, _⟩ := hf p.1 hb
    obtain ⟨o, e', d⟩ := ho p.1 hb
    rw [e] at e'; cases e'
    exact ⟨e, f0, f1, f2, d⟩
theorem Inv.unpinned {pins pl : List (Addr × Obj)} {σ : St} {H : Hp} {s : Shared} (I : Inv X (pins ++ pl) σ H s) : Inv X pins σ H s := I.pins_of fun p hp => I.pin p (List.mem_append_right _ (List.mem_append_left _ hp))
theorem ps_for {iter : Expr} {body : List Stmt} {wi : TI} {g : TG} {tb : TS} {pos : Pos} (hp : PassesOwn (model X.prog X.w) X.A X.env X.xe) (hc : X.calm = true) (hi : PI X tg iter wi) (hg : PG X tg g) (hb : PSs X body tb)
    (hs : ∀ x, foldedSetIterable iter X.env x = pure x := by intro _; rfl) : PS X (.For tg iter body [] pos) (tFor wi g tb) := by
  intro pins s σ H D I h
  refine wpAny_For (thn (hi pins s σ H _ I h) fun v s1 h1 => thn h1 fun itv s2 h2 => ?_) hs
  obtain ⟨it, fp, tn, J, H2, e, I2, T, st2, f2, W, ⟨m0, w0⟩, turn⟩ := h2
  subst e
  -- what stays true of the iterator's objects through the loop
  have stat : ∀ {H' : Hp}, (∀ b ∈ fp, H' b = none) → ∀ b ∈ fp, FpOk X pins H' b := fun hn b hb => ⟨hn b hb, (f2 b hb).2⟩
  refine codeAny_forLoop_any (fun n s' => ∃ i σ' H', Inv X pins σ' H' s' ∧ tn i s'.heap ∧ (∀ b ∈ fp, H' b = none) ∧ W i n σ' H') ?_ m0 ⟨0, σ, H2, I2, st2, fun b hb => (f2 b hb).1, w0⟩
  rintro n s3 ⟨i, σ3, H3, I3, st3, fr3, w3⟩
  rcases turn i n σ3 H3 w3 with ⟨stop, qn⟩ | ⟨go, N, hN, step⟩
  · refine wpAny_passesOwn hp (thn (T.done X rfl rfl rfl hc i pins s3 σ3 H3 X.xe I3 (stat fr3) st3 stop) fun r s4 ⟨hr, I4⟩ => ?_)
    subst hr
    exact wpAny_execs_nil ⟨σ3, H3, I4, qn⟩
  · refine wpAny_passesOwn hp (thn (T.item X rfl rfl rfl hc i pins s3 σ3 H3 X.xe I3 (stat fr3) st3 go) fun r s4 ⟨u, hr, h4⟩ => ?_)
    subst hr
    refine wpAny_passesOwn hp (thn h4 fun _ s5 ⟨x, H5, I5, r5, y5, st5, fr5⟩ => ?_)
    have I5' := I5.pinned (stat fr5) (T.obj _ _ st5)
    refine wpAny_passesOwn hp (thn (hg _ s5 σ3 H5 x u _ I5' r5 (step x H5 y5)) fun _ s6 ⟨σ6, H6, I6, q6⟩ => ?_)
    refine wpAny_passesOwn hp (thn (hb _ s6 σ6 H6 _ I6 q6) fun f s7 q7 => ?_)
    have again : ∀ {σ7 : St} {H7 : Hp}, Inv X (pins ++ pinsAt fp s5.heap) σ7 H7 s7 → N σ7 H7 → ∃ m, m < n ∧ ∃ i σ' H', Inv X pins σ' H' s7 ∧ tn i s7.heap ∧ (∀ b ∈ fp, H' b = none) ∧ W i m σ' H' := fun {σ7 H7} I7 n7 => by
      obtain ⟨m', hm, w7⟩ := hN σ7 H7 n7
      refine ⟨m', hm, i + 1, σ7, H7, I7.unpinned, T.keep _ _ _ st5 fun b hb o e => (I7.pin (b, o) (List.mem_append_right _ (List.mem_append_right _ (mem_pinsAt hb e)))).1, fun b hb => ?_, w7⟩
      obtain ⟨o, e, d⟩ := T.obj _ _ st5 b hb
      exact (I7.pin (b, o) (List.mem_append_right _ (List.mem_append_right _ (mem_pinsAt hb e)))).2.1
    cases f with
    | next => obtain ⟨σ7, H7, I7, n7⟩ := q7; exact again I7 n7
    | cont => obtain ⟨σ7, H7, I7, n7⟩ := q7; exact again I7 n7
    | brk => obtain ⟨σ7, H7, I7, q7⟩ := q7; exact ⟨σ7, H7, I7.unpinned, q7⟩
    | ret v => obtain ⟨x7, σ7, H7, I7, r7, q7⟩ := q7; exact ⟨x7, σ7, H7, I7.unpinned, r7, q7⟩
end

end L2

namespace L2
open PySem PySem.Spec PyProof.Rows

abbrev R2 := V → V → Hp → VK → Prop
def OpR (X : Cx) (f : Value → Value → Sem Value) (r : R2) : Prop :=
  ∀ (pins : List (Addr × Obj)) (s : Shared) (σ : St) (H : Hp) (x y : V) (v u : Value) (Q : VK), Inv X pins σ H s → RelV x v → RelV y u → r x y H Q →
    wpAny (model X.prog X.w) X.A (f v u) (EP X pins σ Q) X.xe s
def UnR (X : Cx) (f : Value → Sem Value) (r : V → Hp → VK → Prop) : Prop :=
  ∀ (pins : List (Addr × Obj)) (s : Shared) (σ : St) (H : Hp) (x : V) (v : Value) (Q : VK), Inv X pins σ H s → RelV x v → r x H Q →
    wpAny (model X.prog X.w) X.A (f v) (EP X pins σ Q) X.xe s
def CallR (X : Cx) (f : Value) (r : List V → Hp → VK → Prop) : Prop :=
  ∀ (pins : List (Addr × Obj)) (s : Shared) (σ : St) (H : Hp) (xs : List V) (us : List Value) (Q : VK), Inv X pins σ H s → Vals xs us → r xs H Q →
    wpAny (model X.prog X.w) X.A (call f us) (EP X pins σ Q) X.xe s
def tOp (r : R2) (ta tb : TE) : TE := fun σ H Q => ta σ H fun x H1 => tb σ H1 fun y H2 => r x y H2 Q
def tUn (r : V → Hp → VK → Prop) (ta : TE) : TE := fun σ H Q => ta σ H fun x H1 => r x H1 Q
def rI (C : Int → Int → Prop) (g : Int → Int → V) : R2 := fun x y H Q => ∃ i j, x = .int i ∧ y = .int j ∧ C i j ∧ Q (g i j) H
def rI0 (g : Int → Int → V) : R2 := fun x y H Q => ∃ i j, x = .int i ∧ y = .int j ∧ Q (g i j) H
def rU (g : Int → V) : V → Hp → VK → Prop := fun x H Q => ∃ i, x = .int i ∧ Q (g i) H

section
variable {X : Cx} {a b c : Expr} {ta tb tc : TE} {pos : Pos}

theorem binT (ha : PE X a ta) (hb : PE X b tb) {pins : List (Addr × Obj)} {s : Shared} {σ : St} {H : Hp} {R : V → V → Hp → Prop} (I : Inv X pins σ H s)
    (h : ta σ H fun x H1 => tb σ H1 fun y H2 => R x y H2) {Q : Value → Shared → Prop} {f : Value → Value → Sem Value}
    (hf : ∀ v u s2 x y H2, Inv X pins σ H2 s2 → RelV x v → RelV y u → R x y H2 → wpAny (model X.prog X.w) X.A (f v u) Q X.xe s2) :
    wpAny (model X.prog X.w) X.A (eval a X.env) (fun v s₁ => wpAny (model X.prog X.w) X.A (eval b X.env) (fun u s₂ => wpAny (model X.prog X.w) X.A (f v u) Q X.xe s₂) X.xe s₁) X.xe s := by
  refine thn (ha pins s σ H _ I h) fun v s1 ⟨x, H1, I1, r1, q1⟩ => ?_
  refine thn (hb pins s1 σ H1 _ I1 q1) fun u s2 ⟨y, H2, I2, r2, q2⟩ => ?_
  exact hf v u s2 x y H2 I2 r1 r2 q2

theorem pe_op {op : Operator} {r : R2} (ho : OpR X (binaryOp op) r) (ha : PE X a ta) (hb : PE X b tb) : PE X (.BinOp a op b pos) (tOp r ta tb) := by
  intro pins s σ H Q I h
  exact wpAny_BinOp (binT ha hb I h fun v u s2 x y H2 I2 rx ry q => ho pins s2 σ H2 x y v u Q I2 rx ry q)
theorem pe_un {op : UnaryOp} {r : V → Hp → VK → Prop} (ho : UnR X (unaryOp op) r) (ha : PE X a ta) : PE X (.UnaryOp op a pos) (tUn r ta) := by
  intro pins s σ H Q I h
  exact UnaryOp_ (thn (ha pins s σ H _ I h) fun v s1 ⟨x, H1, I1, r1, q1⟩ => ho pins s1 σ H1 x v Q I1 r1 q1)
/-! ### ints -/
theorem opI {f : Value → Value → Sem Value} {C : Int → Int → Prop} {g : Int → Int → Int}
    (rule : ∀ (i j : Int) (t u : Tok) (s : Shared) (Q : Value → Shared → Prop) (E : Value → Shared → Prop), C i j → Q (.int (g i j) s.toks) { s with toks := s.toks + 1 } → wpAny (model X.prog X.w) X.A (f (.int i t) (.int j u)) Q E s) :
    OpR X f (rI C fun i j => .int (g i j)) := by
  intro pins s σ H x y v u Q I rx ry h
  obtain ⟨i, j, rfl, rfl, hc, q⟩ := h
  obtain ⟨t, rfl⟩ := rx
  obtain ⟨t', rfl⟩ := ry
  exact rule i j t t' s _ _ hc ⟨.int (g i j), H, I.tok _, ⟨_, rfl⟩, q⟩
theorem opI0 {f : Value → Value → Sem Value} {g : Int → Int → Int}
    (rule : ∀ (i j : Int) (t u : Tok) (s : Shared) (Q : Value → Shared → Prop) (E : Value → Shared → Prop), Q (.int (g i j) s.toks) { s with toks := s.toks + 1 } → wpAny (model X.prog X.w) X.A (f (.int i t) (.int j u)) Q E s) :
    OpR X f (rI0 fun i j => .int (g i j)) := by
  intro pins s σ H x y v u Q I rx ry h
  obtain ⟨i, j, rfl, rfl, q⟩ := h
  obtain ⟨t, rfl⟩ := rx
  obtain ⟨t', rfl⟩ := ry
  exact rule i j t t' s _ _ ⟨.int (g i j), H, I.tok _, ⟨_, rfl⟩, q⟩
theorem opB0 {f : Value → Value → Sem Value} {g : Int → Int → Bool}
    (rule : ∀ (i j : Int) (t u : Tok) (s : Shared) (Q : Value → Shared → Prop) (E : Value → Shared → Prop), Q (.bool (g i j)) s → wpAny (model X.prog X.w) X.A (f (.int i t) (.int j u)) Q E s) :
    OpR X f (rI0 fun i j => .bl (g i j)) := by
  intro pins s σ H x y v u Q I rx ry h
  obtain ⟨i, j, rfl, rfl, q⟩ := h
  obtain ⟨t, rfl⟩ := rx
  obtain ⟨t', rfl⟩ := ry
  exact rule i j t t' s _ _ ⟨.bl (g i j), H, I, rfl, q⟩

def CMul (i j : Int) : Prop := (-(2 ^ 64) < i ∧ i < 2 ^ 64) ∨ (-(2 ^ 64) < j ∧ j < 2 ^ 64)
theorem CMul.ok {i j : Int} (h : CMul i j) : IntMulOk i j := by
  rcases h with ⟨h1, h2⟩ | ⟨h1, h2⟩
  · exact .of_left (intBits_le_64 h1 h2)
  · exact .of_right (intBits_le_64 h1 h2)
theorem op_add : OpR X (binaryOp .Add) (rI0 fun i j => .int (i + j)) := opI0 fun _ _ _ _ _ _ _ q => add_int q
theorem op_sub : OpR X (binaryOp .Sub) (rI0 fun i j => .int (i - j)) := opI0 fun _ _ _ _ _ _ _ q => sub_int q
theorem op_mod : OpR X (binaryOp .Mod) (rI (fun _ j => 0 < j) fun i j => .int (i % j)) := opI fun i j _ _ _ _ _ hc q => by
  have h1 : (0 : Int) < j := hc
  exact mod_int' (by omega) (by rw [Int.fmod_eq_emod_of_nonneg i (by omega)]; exact q)
theorem unI {f : Value → Sem Value} {g : Int → Int}
    (rule : ∀ (i : Int) (t : Tok) (s : Shared) (Q : Value → Shared → Prop) (E : Value → Shared → Prop), Q (.int (g i) s.toks) { s with toks := s.toks + 1 } → wpAny (model X.prog X.w) X.A (f (.int i t)) Q E s) :
    UnR X f (rU fun i => .int (g i)) := by
  intro pins s σ H x v Q I rx h
  obtain ⟨i, rfl, q⟩ := h
  obtain ⟨t, rfl⟩ := rx
  exact rule i t s _ _ ⟨.int (g i), H, I.tok _, ⟨_, rfl⟩, q⟩
theorem un_neg : UnR X (unaryOp .USub) (rU fun i => .int (-i)) := unI fun _ _ _ _ _ q => neg_int q
end

/-! ### comparisons -/
/-- the scalars that == tells apart as data does -/
def scal : V → V → Bool
  | .non, .non => true | .non, .int _ => true | .int _, .non => true | .non, .bl _ => true | .bl _, .non => true | .non, .str _ => true | .str _, .non => true
  | .int _, .int _ => true | .bl _, .bl _ => true | .str _, .str _ => true | .byt _, .byt _ => true
  | .int _, .str _ => true | .str _, .int _ => true | .bl _, .str _ => true | .str _, .bl _ => true
  | _, _ => false
def rEq : R2 := fun x y H Q => scal x y = true ∧ Q (.bl (decide (x = y))) H
def rNe : R2 := fun x y H Q => scal x y = true ∧ Q (.bl (!decide (x = y))) H

theorem dec_int {i j : Int} : decide (V.int i = V.int j) = (i == j) := by
  rw [Bool.eq_iff_iff]
  simp
theorem dec_bl {i j : Bool} : decide (V.bl i = V.bl j) = (i == j) := by
  rw [Bool.eq_iff_iff]
  simp
theorem dec_str {i j : Str} : decide (V.str i = V.str j) = (i == j) := by
  rw [Bool.eq_iff_iff]
  simp
theorem dec_byt {i j : Array UInt8} : decide (V.byt i = V.byt j) = (i.toList == j.toList) := by
  rw [Bool.eq_iff_iff]
  cases i
  cases j
  simp

section
variable {X : Cx} {a b c : Expr} {ta tb tc : TE} {pos : Pos}
theorem fin_bl {pins : List (Addr × Obj)} {σ : St} {H : Hp} {s : Shared} {Q : VK} {k k' : Bool} (I : Inv X pins σ H s) (q : Q (.bl k) H) (e : k = k') : EP X pins σ Q (.bool k') s := by
  subst e
  exact ⟨.bl k, H, I, rfl, q⟩
theorem op_eq : OpR X (compareOp .Eq) rEq := by
  intro pins s σ H x y v u Q I rx ry h
  obtain ⟨hs, q⟩ := h
  cases x with
  | non =>
    cases rx
    cases y with
    | non => cases ry; exact PySem.EqNone.eq_none_none (fin_bl I q (by simp))
    | bl j => cases ry; exact PySem.EqNone.eq_none_bool (fin_bl I q (by simp))
    | int j => obtain ⟨t', rfl⟩ := ry; exact PySem.EqNone.eq_none_int (fin_bl I q (by simp))
    | str j => obtain ⟨t', rfl⟩ := ry; exact PySem.EqNone.eq_none_str (fin_bl I q (by simp))
    | _ => exact absurd (show false = true from hs) Bool.false_ne_true
  | bl i =>
    cases rx
    cases y with
    | non => cases ry; exact PySem.EqNone.eq_bool_none (fin_bl I q (by simp))
    | bl j => cases ry; exact eq_bool (fin_bl I q dec_bl)
    | str j => obtain ⟨t', rfl⟩ := ry; exact PySem.EqMixed.eq_bool_str (fin_bl I q (by simp))
    | _ => exact absurd (show false = true from hs) Bool.false_ne_true
  | int i =>
    obtain ⟨t, rfl⟩ := rx
    cases y with
    | non => cases ry; exact PySem.EqNone.eq_int_none (fin_bl I q (by simp))
    | int j => obtain ⟨t', rfl⟩ := ry; exact eq_int (fin_bl I q dec_int)
    | str j => obtain ⟨t', rfl⟩ := ry; exact PySem.EqMixed.eq_int_str (fin_bl I q (by simp))
    | _ => exact absurd (show false = true from hs) Bool.false_ne_true
  | str i =>
    obtain ⟨t, rfl⟩ := rx
    cases y with
    | non => cases ry; exact PySem.EqNone.eq_str_none (fin_bl I q (by simp))
    | bl j => cases ry; exact PySem.EqMixed.eq_str_bool (fin_bl I q (by simp))
    | int j => obtain ⟨t', rfl⟩ := ry; exact PySem.EqMixed.eq_str_int (fin_bl I q (by simp))
    | str j => obtain ⟨t', rfl⟩ := ry; exact eq_str (fin_bl I q dec_str)
    | _ => exact absurd (show false = true from hs) Bool.false_ne_true
  | byt i =>
    obtain ⟨t, rfl⟩ := rx
    cases y with
    | byt j => obtain ⟨t', rfl⟩ := ry; exact PySem.W.eq_bytes (fin_bl I q dec_byt)
    | _ => exact absurd (show false = true from hs) Bool.false_ne_true
  | _ => cases y <;> exact absurd (show false = true from hs) Bool.false_ne_true
theorem op_ne : OpR X (compareOp .NotEq) rNe := by
  intro pins s σ H x y v u Q I rx ry h
  obtain ⟨hs, q⟩ := h
  cases x with
  | non =>
    cases rx
    cases y with
    | non => cases ry; exact PySem.EqNone.ne_none_none (fin_bl I q (by simp))
    | bl j => cases ry; exact PySem.EqNone.ne_none_bool (fin_bl I q (by simp))
    | int j => obtain ⟨t', rfl⟩ := ry; exact PySem.EqNone.ne_none_int (fin_bl I q (by simp))
    | str j => obtain ⟨t', rfl⟩ := ry; exact PySem.EqNone.ne_none_str (fin_bl I q (by simp))
    | _ => exact absurd (show false = true from hs) Bool.false_ne_true
  | bl i =>
    cases rx
    cases y with
    | non => cases ry; exact PySem.EqNone.ne_bool_none (fin_bl I q (by simp))
    | bl j => cases ry; exact ne_bool (fin_bl I q (congrArg not dec_bl))
    | str j => obtain ⟨t', rfl⟩ := ry; exact PySem.EqMixed.ne_bool_str (fin_bl I q (by simp))
    | _ => exact absurd (show false = true from hs) Bool.false_ne_true
  | int i =>
    obtain ⟨t, rfl⟩ := rx
    cases y with
    | non => cases ry; exact PySem.EqNone.ne_int_none (fin_bl I q (by simp))
    | int j => obtain ⟨t', rfl⟩ := ry; exact ne_int (fin_bl I q (congrArg not dec_int))
    | str j => obtain ⟨t', rfl⟩ := ry; exact PySem.EqMixed.ne_int_str (fin_bl I q (by simp))
    | _ => exact absurd (show false = true from hs) Bool.false_ne_true
  | str i =>
    obtain ⟨t, rfl⟩ := rx
    cases y with
    | non => cases ry; exact PySem.EqNone.ne_str_none (fin_bl I q (by simp))
    | bl j => cases ry; exact PySem.EqMixed.ne_str_bool (fin_bl I q (by simp))
    | int j => obtain ⟨t', rfl⟩ := ry; exact PySem.EqMixed.ne_str_int (fin_bl I q (by simp))
    | str j => obtain ⟨t', rfl⟩ := ry; exact ne_str (fin_bl I q (congrArg not dec_str))
    | _ => exact absurd (show false = true from hs) Bool.false_ne_true
  | byt i =>
    obtain ⟨t, rfl⟩ := rx
    cases y with
    | byt j => obtain ⟨t', rfl⟩ := ry; exact PySem.W.ne_bytes (fin_bl I q (congrArg not dec_byt))
    | _ => exact absurd (show false = true from hs) Bool.false_ne_true
  | _ => cases y <;> exact absurd (show false = true from hs) Bool.false_ne_true

theorem op_lt : OpR X (compareOp .Lt) (rI0 fun i j => .bl (decide (i < j))) := opB0 fun _ _ _ _ _ _ _ q => lt_int q
theorem op_gt : OpR X (compareOp .Gt) (rI0 fun i j => .bl (decide (j < i))) := opB0 fun _ _ _ _ _ _ _ q => gt_int q
theorem op_isN : OpR X (compareOp .Is) (fun x y H Q => y = .non ∧ Q (.bl (decide (x = .non))) H) := by
  intro pins s σ H x y v u Q I rx ry h
  obtain ⟨rfl, q⟩ := h
  cases ry
  refine is_none_gen (fin_bl I q ?_)
  cases x <;> first
    | (cases rx; rfl)
    | (obtain ⟨t, rfl⟩ := rx; rfl)
theorem nomark (b : Expr) {op : CmpOp} (h : op ≠ .In := by decide) (h2 : op ≠ .NotIn := by decide) : behindInMarks op b = false := by
  have e1 : (op == CmpOp.In) = false := by cases op <;> first | rfl | exact absurd rfl h
  have e2 : (op == CmpOp.NotIn) = false := by cases op <;> first | rfl | exact absurd rfl h2
  cases b <;> simp [behindInMarks, e1, e2]
theorem pe_cmpR {op : CmpOp} {r : R2} (ho : OpR X (compareOp op) r) (ha : PE X a ta) (hb : PE X b tb) (hm : behindInMarks op b = false) : PE X (.Compare a [op] [b] pos) (tOp r ta tb) := by
  intro pins s σ H Q I h
  exact wpAny_Compare1 (binT ha hb I h fun v u s2 x y H2 I2 rx ry q => ho pins s2 σ H2 x y v u Q I2 rx ry q) hm
theorem line63 : (sizeLine : Nat) < 2 ^ 63 := by rw [sizeLine_eq]; decide
theorem op_add_str : OpR X (binaryOp .Add) (fun x y H Q => ∃ i j, x = .str i ∧ y = .str j ∧ i.length + j.length ≤ sizeLine ∧ Q (.str (i ++ j)) H) := by
  intro pins s σ H x y v u Q I rx ry h
  obtain ⟨i, j, rfl, rfl, hz, q⟩ := h
  obtain ⟨t, rfl⟩ := rx
  obtain ⟨t', rfl⟩ := ry
  exact add_str (fun t' tk => ⟨.str (i ++ j), H, I.tok _, ⟨_, rfl⟩, q⟩) hz
/-! ### scalar builtins, by CallR -/
theorem vals1 {x : V} {us : List Value} (r : Vals [x] us) : ∃ u, us = [u] ∧ RelV x u := by
  cases r with
  | cons r1 r2 => cases r2; exact ⟨_, rfl, r1⟩
theorem vals2 {x y : V} {us : List Value} (r : Vals [x, y] us) : ∃ u w', us = [u, w'] ∧ RelV x u ∧ RelV y w' := by
  cases r with
  | cons r1 r2 =>
    cases r2 with
    | cons r3 r4 => cases r4; exact ⟨_, _, rfl, r1, r3⟩
theorem call_abs : CallR X (.builtin "abs") (fun xs H Q => ∃ i, xs = [.int i] ∧ Q (.int (if i < 0 then -i else i)) H) := by
  intro pins s σ H xs us Q I r h
  obtain ⟨i, rfl, q⟩ := h
  obtain ⟨u, rfl, t, rfl⟩ := vals1 r
  exact call_abs_int fun u tk => ⟨.int (if i < 0 then -i else i), H, I.tok _, ⟨_, rfl⟩, q⟩
theorem call_min2 (hc : X.calm = true) : CallR X (.builtin "min") (fun xs H Q => ∃ i j, xs = [.int i, .int j] ∧ Q (.int (if j < i then j else i)) H) := by
  intro pins s σ H xs us Q I r h
  obtain ⟨i, j, rfl, q⟩ := h
  obtain ⟨u, w', rfl, ⟨t, rfl⟩, ⟨t', rfl⟩⟩ := vals2 r
  refine min_two_ints (I.ok.hd hc) fun h' tk k => ⟨_, H, I.kept k, ?_, q⟩
  by_cases hj : j < i
  · rw [if_pos hj, if_pos hj]; exact ⟨_, rfl⟩
  · rw [if_neg hj, if_neg hj]; exact ⟨_, rfl⟩
end
end L2

namespace L2
open PySem PySem.Spec PyProof.Rows

/-! ### an instance, its attributes a map -/
structure ObjM (h : Heap) (x dx C : Addr) (mA : Str → Option Value) : Prop where
  obj : h.get? x = some (PySem.W.instObj C dx)
  ns : h.Ns1 dx mA
  ne : dx ≠ x

theorem lookIn_ns {h : Heap} {dx : Addr} {mA : Str → Option Value} (n : h.Ns1 dx mA) : ∃ od, h.get? dx = some od ∧ ∀ name, PySem.W.lookIn name od = some (mA name) := by
  obtain ⟨o, es, ep, ho, hd, hk, _, hm⟩ := n
  refine ⟨o, ho, fun name => ?_⟩
  have e := hm name
  unfold nsFind findBy at e
  rw [← Array.find?_toList] at e
  unfold PySem.W.lookIn
  rw [hd]
  dsimp only
  split
  · rename_i y q
    rw [q] at e
    exact congrArg some e
  · rename_i q
    rw [q] at e
    have a : es.toList.any (·.refKey) = false := by
      rw [List.any_eq_false]
      intro y hy
      obtain ⟨z, t, hkey⟩ := hk y (Array.mem_toList_iff.mp hy)
      simp [DictEntry.refKey, hkey]
    have a' : ¬ es.toList.any (·.refKey) = true := by rw [a]; exact Bool.false_ne_true
    rw [if_neg a']
    exact congrArg some e

theorem ObjM.look {h : Heap} {x dx C : Addr} {mA : Str → Option Value} (I : ObjM h x dx C mA) : ∃ od, PySem.W.InstAt h x (PySem.W.instObj C dx) C (some od) ∧ ∀ name, PySem.W.lookIn name od = some (mA name) :=
  let ⟨od, ho, hl⟩ := lookIn_ns I.ns
  ⟨od, ⟨I.obj, rfl, rfl, ho⟩, hl⟩

section
variable {prog : Program} {w : World} {A : Around} {E : Value → Shared → Prop} {s : Shared} {K : PySem.W.Frag} {x dx C f : Addr} {mA : Str → Option Value} {name : Str} {v : Value}

end

/-! ### the attributes as a list of pairs -/
def putF (f : Str) (v : V) : List (Str × V) → List (Str × V)
  | [] => [(f, v)]
  | (g, x) :: r => if g = f then (g, v) :: r else (g, x) :: putF f v r
section
variable {P : Program} {w : World} {H H' : Hp} {h h' : Heap} {a C dx : Addr} {fs fs' : List (Str × V)}
theorem ins_get (hok : HOk P w H h) (e : H a = some (.ins C dx fs)) : ∃ mA, ObjM h a dx C mA ∧ (∀ f, RelO (fs.lookup f) (mA f)) ∧ PySem.Within mA (fs.map (·.1)) ∧ fs.length ≤ 1000 ∧ H dx = some (.own a) := by
  obtain ⟨d, z, ne, ob, mA, n, r, q⟩ := (show ObjOk P w H h a (.ins C dx fs) from hok a _ e)
  exact ⟨mA, ⟨ob, n, ne⟩, r, q, z, d⟩
end

/-! ### what of the text a class must have -/
structure Cls (K : PySem.W.Frag) (C : Addr) : Prop where
  pg : PySem.W.plainGet K C Str.empty = true
  hd : PySem.W.hasDictIn K C = true
  po : PySem.W.plainOver K C = true
  sa : PySem.W.findIn K (.ref C) "__setattr__" = some (some (.builtin "object.__setattr__"))
theorem Cls.get {K : PySem.W.Frag} {C : Addr} (c : Cls K C) (f : Str) : PySem.W.plainGet K C f = true := c.pg
def NoAttr (K : PySem.W.Frag) (C : Addr) (f : Str) : Prop := PySem.W.findIn K (.ref C) f = some none
structure Con (K : PySem.W.Frag) (C : Addr) (f : Str) (v : V) (u : Value) : Prop where
  at_ : PySem.W.findIn K (.ref C) f = some (some u)
  rel : RelV v u
  get : PySem.W.specialIn K u "__get__" = some none
  cp : PySem.W.copiedNames.contains f = false
structure Meth (K : PySem.W.Frag) (C : Addr) (m : Str) (f : Addr) : Prop where
  at_ : PySem.W.findIn K (.ref C) m = some (some (.ref f))
  fn : PySem.W.isFn K (.ref f) = true
  kp : PySem.W.keepIn K (.ref f) = true

section
variable {X : Cx} {pins : List (Addr × Obj)} {σ : St} {H : Hp} {s : Shared} {a C dx : Addr} {fs : List (Str × V)} {f : Str} {v : V} {A : Around} {E : Value → Shared → Prop}

end

section
variable {X : Cx} {o e value : Expr} {f : Str} {pos pos' tpos : Pos} {ta tv : TE}
end

/-! ### isinstance -/
section
variable {X : Cx} {pins : List (Addr × Obj)} {σ : St} {H : Hp} {s : Shared} {A : Around} {E : Value → Shared → Prop} {Q : Value → Shared → Prop} {c : Value} {b : Bool}
inductive TyOf (K : PySem.W.Frag) (H : Hp) : V → Value → Prop where
  | non : TyOf K H .non (.type "NoneType")
  | bl (x : Bool) : TyOf K H (.bl x) (.type "bool")
  | int (i : Int) : TyOf K H (.int i) (.type "int")
  | str (x : Str) : TyOf K H (.str x) (.type "str")
  | flt (x : UInt64) : TyOf K H (.flt x) (.type "float")
  | lst {a : Addr} {xs : List V} (e : H a = some (.lst xs)) : TyOf K H (.ref a) (.type "list")
  | frz {a : Addr} {o : Obj} {xs : List V} (e : H a = some (.frz o (.lst xs))) : TyOf K H (.ref a) (.type "list")
  | tup {a : Addr} {xs : List V} (e : H a = some (.tup xs)) : TyOf K H (.ref a) (.type "tuple")
  | dK {a : Addr} {kvs : List (Key × V)} (e : H a = some (.dK kvs)) : TyOf K H (.ref a) (.type "dict")
  | dT {a : Addr} {kvs : List (List Key × V)} (e : H a = some (.dT kvs)) : TyOf K H (.ref a) (.type "dict")
  | ins {a C dx : Addr} {fs : List (Str × V)} (e : H a = some (.ins C dx fs)) (cl : Cls K C) (ha : PySem.W.findIn K (.ref C) "__class__" = some (some (.builtin "object.__class__")))
      (hn : PySem.W.specialIn K (.builtin "object.__class__") "__get__" = some (some (.builtin "getset_descriptor.__get__"))) (htk : PySem.W.takesIn K (.builtin "object.__class__") = some true)
      (hm : PySem.W.mroIn K C (.type "object") = some true) : TyOf K H (.ref a) (.ref C)
theorem isinst_ok {x : V} {u t : Value} (I : Inv X pins σ H s) (rx : RelV x u) (ty : TyOf X.K H x t) (e : PySem.W.kitOne X.K t c = some b) (h : ∀ tk, Q (.bool b) { s with toks := tk }) :
    wpAny (model X.prog X.w) A (call (.builtin "isinstance") [u, c]) Q E s := by
  cases ty with
  | non => cases (show u = Value.none from rx); exact PySem.W.kia_one PySem.W.kitx_none I.kIn True.intro e (fun z => nomatch z) h
  | bl y => cases (show u = Value.bool y from rx); exact PySem.W.kia_one PySem.W.kitx_bool I.kIn True.intro e (fun z => nomatch z) h
  | int i => obtain ⟨t, q⟩ := (show ∃ t, u = Value.int i t from rx); cases q; exact PySem.W.kia_one PySem.W.kitx_int I.kIn True.intro e (fun z => nomatch z) h
  | str y => obtain ⟨t, q⟩ := (show ∃ t, u = Value.str y t from rx); cases q; exact PySem.W.kia_one PySem.W.kitx_str I.kIn True.intro e (fun z => nomatch z) h
  | flt y => obtain ⟨t, q⟩ := (show ∃ t, u = Value.float y t from rx); cases q; exact PySem.W.kia_one PySem.W.kitx_float I.kIn True.intro e (fun z => nomatch z) h
  | @lst a xs ea =>
    cases (show u = Value.ref a from rx)
    obtain ⟨_, _, n, _, h1⟩ := (show ObjOk X.prog X.w H s.heap a (.lst xs) from I.hok a _ ea)
    exact PySem.W.kia_one PySem.W.kitx_list I.kIn ⟨_, h1, rfl⟩ e (fun z => nomatch z) h
  | @frz a ob xs ea =>
    cases (show u = Value.ref a from rx)
    obtain ⟨_, _, _, n, _, h1⟩ := (show ObjOk X.prog X.w H s.heap a (.frz ob (.lst xs)) from I.hok a _ ea)
    exact PySem.W.kia_one PySem.W.kitx_list I.kIn ⟨_, h1, rfl⟩ e (fun z => nomatch z) h
  | @tup a xs ea =>
    cases (show u = Value.ref a from rx)
    obtain ⟨_, _, _, p⟩ := (show ObjOk X.prog X.w H s.heap a (.tup xs) from I.hok a _ ea)
    obtain ⟨o, h1, h2, _⟩ := p
    exact PySem.W.kia_one PySem.W.kitx_tuple I.kIn ⟨o, h1, h2⟩ e (fun z => nomatch z) h
  | @dK a kvs ea =>
    cases (show u = Value.ref a from rx)
    obtain ⟨_, _, vs, _, p⟩ := (show ObjOk X.prog X.w H s.heap a (.dK kvs) from I.hok a _ ea)
    obtain ⟨o, es, ep, h1, h2, _⟩ := p
    exact PySem.W.kia_one PySem.W.kitx_dict I.kIn ⟨o, h1, h2.1⟩ e (fun z => nomatch z) h
  | @dT a kvs ea =>
    cases (show u = Value.ref a from rx)
    obtain ⟨_, _, xs, _, o, es, ep, h1, h2, _⟩ := (show ObjOk X.prog X.w H s.heap a (.dT kvs) from I.hok a _ ea)
    exact PySem.W.kia_one PySem.W.kitx_dict I.kIn ⟨o, h1, h2.1⟩ e (fun z => nomatch z) h
  | @ins a C dx fs ea cl ha hn htk hm =>
    cases (show u = Value.ref a from rx)
    obtain ⟨mA, O, _⟩ := ins_get I.hok ea
    obtain ⟨od, J, _⟩ := O.look
    exact PySem.W.kia_one (PySem.W.kitx_own (cl.get _) cl.hd ha hn htk hm) I.kIn J e (fun z => nomatch z) h
end
end L2

namespace L2
open PySem PySem.Spec PyProof.Rows

/-! ### room -/
structure Room (k : Nat) (A : Around) : Prop where
  hd : A.handled = none
  dp : A.depth + 3 * k + 5 < recursionLimit
  un : A.units + 16 * k + 200 < cLine
theorem Room.mono {j k : Nat} {A : Around} (r : Room k A) (h : j ≤ k) : Room j A := ⟨r.hd, by have := r.dp; omega, by have := r.un; omega⟩
theorem Room.deeper {k : Nat} {A : Around} (r : Room (k + 1) A) (env : Env) : Room k (A.deeper env) :=
  ⟨r.hd, by have := r.dp; show A.depth + 1 + 3 * k + 5 < _; omega, by have := r.un; show A.units + 3 + 16 * k + 200 < _; omega⟩
theorem Room.in1 {k : Nat} {A : Around} (r : Room (k + 1) A) : Room k A.in1 :=
  ⟨r.hd, by have := r.dp; show A.depth + 3 * k + 5 < _; omega, by have := r.un; show A.units + 1 + 16 * k + 200 < _; omega⟩
theorem Room.depth {k : Nat} {A : Around} (r : Room k A) : A.depth < recursionLimit := by have := r.dp; omega
theorem Room.units {k : Nat} {A : Around} (r : Room k A) : A.units + 64 < cLine := by have := r.un; omega
/-! ### argument lists and displays -/
def tNil : TA := fun _ H Q => Q [] H
def tCons (ta : TE) (tr : TA) : TA := fun σ H Q => ta σ H fun x H1 => tr σ H1 fun xs H2 => Q (x :: xs) H2
section
variable {X : Cx} {e : Expr} {es : List Expr} {te : TE} {t : TA} {pos : Pos}
theorem pa_nil : PA X [] tNil := fun _ _ _ _ H Q I h => Calls.spliced_nil ⟨[], H, I, .nil, h⟩
theorem pa_cons (ha : PE X e te) (hr : PA X es t) (hs : starEach (e :: es) X.env = (false, eval e X.env) :: starEach es X.env := by rfl) : PA X (e :: es) (tCons te t) := by
  intro pos pins s σ H Q I h
  rw [hs]
  show wpAny _ _ (spliced ((false, eval e X.env) :: backTo pos (starEach es X.env))) _ _ s
  refine Calls.spliced_cons (thn (ha pins s σ H _ I h) fun u s1 ⟨x, H1, I1, r1, q1⟩ => ?_)
  exact thn (hr pos pins s1 σ H1 _ I1 q1) fun us s2 ⟨xs, H2, I2, r2, q2⟩ => ⟨x :: xs, H2, I2, .cons r1 r2, q2⟩

def tTup (t : TA) : TE := fun σ H Q => t σ H fun xs H1 => xs.length ≤ sizeLine ∧ ∀ p, H1 p = none → Q (.ref p) (upd H1 p (.tup xs))
def tLst (t : TA) : TE := fun σ H Q => t σ H fun xs H1 => xs.length ≤ sizeLine ∧ ∀ p, H1 p = none → Q (.ref p) (upd H1 p (.lst xs))
theorem pe_tup {x1} (h : PA X es t) : PE X (.Tuple es x1 pos) (tTup t) := by
  intro pins s σ H Q I hq
  refine wpAny_Tuple_spliced (thn (h pos pins s σ H _ I hq) fun us s1 ⟨xs, H1, I1, r, z, q⟩ => ⟨by rw [← r.length]; exact z, ?_⟩)
  have hf : H1 s1.heap.objs.size = none := I1.hok.fresh (Nat.le_refl _)
  refine ⟨.ref s1.heap.objs.size, upd H1 s1.heap.objs.size (.tup xs), I1.laid (t' := s1.toks) (fun b u e => Heap.get?_push_of_some _ e) (Nat.le_refl _) ?_, rfl, q _ hf⟩
  exact ⟨z, us, r, ⟨_, Heap.get?_push_size _ rfl, rfl, _, rfl⟩⟩
theorem pe_lst (h : PA X es t) : PE X (.List es pos) (tLst t) := by
  intro pins s σ H Q I hq
  refine wpAny_List_spliced (thn (h pos pins s σ H _ I hq) fun us s1 ⟨xs, H1, I1, r, z, q⟩ => ⟨by rw [← r.length]; exact z, ?_⟩)
  have hf : H1 s1.heap.objs.size = none := I1.hok.fresh (Nat.le_refl _)
  refine ⟨.ref s1.heap.objs.size, upd H1 s1.heap.objs.size (.lst xs), I1.laid (t' := s1.toks) (fun b u e => Heap.get?_push_of_some _ e) (Nat.le_refl _) ?_, rfl, q _ hf⟩
  exact ⟨z, us, 0, r, Heap.get?_push_size _ rfl⟩
end

/-! ### what a def promises -/
/-- a def's promise: the bound arguments in the parameters' order, the heap, the wanted end, the wanted exception -/
abbrev Sp := List V → Hp → VK → XK → Prop
abbrev CXT := List Env → Hp → Shared → XK → Value → Shared → Prop

structure Env0 (P : Program) (w : World) (K : PySem.W.Frag) (mg : Str → Option Value) (base : Heap) (A : Around) (outer : List Env) (s : Shared) (H : Hp) : Prop where
  frames : A.frames = some outer
  mod : Mod K mg base
  bs : ∀ b o, base.get? b = some o → s.heap.get? b = some o ∧ H b = none
  bsz : base.objs.size ≤ s.heap.objs.size
  funs : s.heap.FunFrames base outer
  frf : ∀ b ∈ frs outer, H b = none
  hok : HOk P w H s.heap
  bare : AllBare s.gens
def CE (outer : List Env) (P : Program) (w : World) (H : Hp) (s : Shared) (Q : VK) (u : Value) (s' : Shared) : Prop :=
  ∃ v H', s'.os = s.os ∧ AllBare s'.gens ∧ Un (frs outer) [] H H' s.heap s'.heap ∧ HOk P w H' s'.heap ∧ RelV v u ∧ Q v H'
def CR (CX : CXT) (outer : List Env) (P : Program) (w : World) (H : Hp) (s : Shared) (Q : VK) (E : XK) (r : Result) (s' : Shared) : Prop :=
  match r with
  | .ok (.ret u) => CE outer P w H s Q u s'
  | .ok _ => False
  | .error e => CX outer H s E e s'
structure FnOk (P : Program) (w : World) (K : PySem.W.Frag) (mg : Str → Option Value) (base : Heap) (CX : CXT) (k : Nat) (f : Addr) (fd : FuncData) (ps : List Str) (sp : Sp) : Prop where
  len : ∀ vs H Q E, sp vs H Q E → vs.length = ps.length
  run : ∀ (A : Around) (outer : List Env) (s : Shared) (H : Hp) (args : Args) (us : List Value) (vs : List V) (Q : VK) (E : XK), Room k A → Env0 P w K mg base A outer s H → BindsTo s fd args (ps.zip us) → Vals vs us → sp vs H Q E →
    codeAny (model P w) A (.call (.ref f) args) (CR CX outer P w H s Q E) s
theorem FnOk.mono {P : Program} {w : World} {K : PySem.W.Frag} {mg : Str → Option Value} {base : Heap} {CX : CXT} {j k : Nat} {f : Addr} {fd : FuncData} {ps : List Str} {sp : Sp} (F : FnOk P w K mg base CX j f fd ps sp) (h : j ≤ k) :
    FnOk P w K mg base CX k f fd ps sp := ⟨F.len, fun A outer s H args us vs Q E hr => F.run A outer s H args us vs Q E (hr.mono h)⟩
theorem FnOk.imp {P : Program} {w : World} {K : PySem.W.Frag} {mg : Str → Option Value} {base : Heap} {CX : CXT} {k : Nat} {f : Addr} {fd : FuncData} {ps : List Str} {sp sp' : Sp} (F : FnOk P w K mg base CX k f fd ps sp)
    (h : ∀ vs H Q E, sp' vs H Q E → sp vs H Q E) : FnOk P w K mg base CX k f fd ps sp' :=
  ⟨fun vs H Q E q => F.len vs H Q E (h _ _ _ _ q), fun A outer s H args us vs Q E hr he hb hv hs => F.run A outer s H args us vs Q E hr he hb hv (h _ _ _ _ hs)⟩

theorem Env0.in1 {P : Program} {w : World} {K : PySem.W.Frag} {mg : Str → Option Value} {base : Heap} {A : Around} {outer : List Env} {s : Shared} {H : Hp} (e : Env0 P w K mg base A outer s H) :
    Env0 P w K mg base A.in1 outer s H := ⟨e.frames, e.mod, e.bs, e.bsz, e.funs, e.frf, e.hok, e.bare⟩

section
variable {X : Cx} {pins : List (Addr × Obj)} {σ : St} {H : Hp} {s s' : Shared}
theorem Inv.env0 (I : Inv X pins σ H s) : Env0 X.prog X.w X.K X.mg X.base X.A X.stack s H :=
  ⟨I.ok.frames, I.ok.mod, I.bs, Nat.le_trans I.ok.bsz I.sz, I.stack, I.stkFree, I.hok, I.bare⟩
theorem Inv.after {Q : VK} {u : Value} (I : Inv X pins σ H s) (h : CE X.stack X.prog X.w H s Q u s') : EP X pins σ Q u s' := by
  obtain ⟨v, H', os, bare, un, hok, r, q⟩ := h
  obtain ⟨hh, g, d, t, os'⟩ := s'
  obtain rfl : os' = s.os := os
  exact ⟨v, H', I.call (h' := hh) (g' := g) (d' := d) (t' := t) (ch := []) un hok bare (fun b z => absurd z (by simp)), r, q⟩
end

def Binds (K : PySem.W.Frag) (fd : FuncData) (ps : List Str) (ds : List Value) : Prop :=
  ∀ (s : Shared) (us : List Value), K.In s.heap → (us ++ ds).length = ps.length → BindsTo s fd ⟨us, []⟩ (ps.zip (us ++ ds))
theorem Binds.all {K : PySem.W.Frag} {fd : FuncData} {ps : List Str} (h : ∀ us : List Value, us.length = ps.length → bindArgs fd ⟨us, []⟩ = pure (ps.zip us)) : Binds K fd ps [] := fun s us _ hl => by
  rw [List.append_nil] at hl ⊢
  exact .of_eq (h us hl)

def Passes (CX : CXT) (X : Cx) (E : XK) : Prop := ∀ (pins : List (Addr × Obj)) (σ : St) (H : Hp) (s : Shared) (e : Value) (s' : Shared), Inv X pins σ H s → CX X.stack H s E e s' → X.xe e s'

section
variable {X : Cx} {CX : CXT} {k : Nat} {f C : Addr} {fd : FuncData} {ps : List Str} {sp : Sp} {dvs : List V} {ds : List Value} {E : XK} {x m : Str} {p pos apos : Pos} {e o : Expr} {es : List Expr} {ta : TE} {t : TA}

theorem run_fn {pins : List (Addr × Obj)} {σ : St} {H : Hp} {s : Shared} {Q : VK} {us : List Value} {vs : List V} (F : FnOk X.prog X.w X.K X.mg X.base CX k f fd ps sp) (hr : Room k X.A) (hb : Binds X.K fd ps ds) (hd : Vals dvs ds) (hx : Passes CX X E)
    (I : Inv X pins σ H s) (r : Vals vs us) (h : sp (vs ++ dvs) H Q E) : wpAny (model X.prog X.w) X.A (call (.ref f) us) (EP X pins σ Q) X.xe s := by
  have r2 : Vals (vs ++ dvs) (us ++ ds) := r.append hd
  have hl : (us ++ ds).length = ps.length := by rw [← r2.length]; exact F.len _ _ _ _ h
  refine wpAny_call (codeAny_mono (F.run X.A X.stack s H ⟨us, []⟩ (us ++ ds) (vs ++ dvs) Q E hr I.env0 (hb s us I.kIn hl) r2 h) fun r s' hq => ?_)
  cases r with
  | error e => exact hx pins σ H s e s' I hq
  | ok fl =>
    cases fl with
    | ret u => exact I.after hq
    | next => exact False.elim hq
    | brk => exact False.elim hq
    | cont => exact False.elim hq

structure Mk (K : PySem.W.Frag) (C f : Addr) : Prop where
  makes : PySem.W.makesIn K C = true
  init : PySem.W.findIn K (.ref C) "__init__" = some (some (.ref f))
  fn : PySem.W.isFn K (.ref f) = true
  kp : PySem.W.keepIn K (.ref C) = true

end

section
variable {X : Cx} {CX : CXT} {k : Nat} {f C : Addr} {fd : FuncData} {ps ks : List Str} {sp : Sp} {E : XK} {x m : Str} {p pos apos kpos : Pos} {e o : Expr} {es : List Expr} {kws : List Keyword} {te ta : TE} {t tk : TA} {nm : Option Str}
structure KBinds (K : PySem.W.Frag) (fd : FuncData) (ps ks : List Str) (g : List Value → List Value → List Value) (gV : List V → List V → List V) : Prop where
  to : ∀ (s : Shared) (us ws : List Value), K.In s.heap → (g us ws).length = ps.length → BindsTo s fd ⟨us, ks.zip ws⟩ (ps.zip (g us ws))
  rel : ∀ {vs : List V} {us : List Value} {zs : List V} {ws : List Value}, Vals vs us → Vals zs ws → Vals (gV vs zs) (g us ws)
variable {g : List Value → List Value → List Value} {gV : List V → List V → List V}
end

/-! ### a def's body keeps its promise -/
/-- names: the parameters first -/
structure FnScope (N P : List Str) (sc : Scope) : Prop where
  kind : sc.kind = .function
  co : sc.isCoroutine = false
  gen : sc.isGenerator = false
  nd : N.Nodup
  pre : N.take P.length = P
  par : ∀ x ∈ P, sc.names.lookup x = some .local ∨ sc.names.lookup x = some .cell
  nofree : ∀ y ∈ sc.names, y.2 ≠ .free

theorem bindL_out {kindOf : Str → Option NameKind} {x : Str} : ∀ {binds : List (Str × Value)} {m : Str → Option Value}, (∀ v, (x, v) ∉ binds) → bindL kindOf binds m x = m x
  | [], _, _ => rfl
  | (n, v) :: r, m, h => by
    unfold bindL
    rw [bindL_out fun w hw => h w (List.mem_cons_of_mem _ hw)]
    split
    · have : x ≠ n := by rintro rfl; exact h v List.mem_cons_self
      simp [this]
    · rfl
theorem bindC_out {kindOf : Str → Option NameKind} {x : Str} : ∀ {binds : List (Str × Value)} {m : Str → Option Value}, (∀ v, (x, v) ∉ binds) → bindC kindOf binds m x = m x
  | [], _, _ => rfl
  | (n, v) :: r, m, h => by
    unfold bindC
    rw [bindC_out fun w hw => h w (List.mem_cons_of_mem _ hw)]
    split
    · rfl
    · have : x ≠ n := by rintro rfl; exact h v List.mem_cons_self
      simp [this]
theorem bindL_get {kindOf : Str → Option NameKind} {x : Str} {v : Value} : ∀ {P : List Str} {vs : List Value} {i : Nat} {m : Str → Option Value}, P.Nodup → P[i]? = some x → vs[i]? = some v → kindOf x = some .local →
    bindL kindOf (P.zip vs) m x = some v
  | [], _, _, _, _, h, _, _ => by simp at h
  | _ :: _, [], _, _, _, _, h, _ => by simp at h
  | p :: P, w :: vs, 0, m, nd, h1, h2, hk => by
    simp at h1 h2; subst h1; subst h2
    show bindL kindOf ((p, w) :: P.zip vs) m p = _
    unfold bindL
    rw [bindL_out fun v hv => (List.nodup_cons.mp nd).1 (List.of_mem_zip hv).1, if_pos hk]
    simp
  | p :: P, w :: vs, i + 1, m, nd, h1, h2, hk => by
    show bindL kindOf ((p, w) :: P.zip vs) m x = _
    unfold bindL
    exact bindL_get (i := i) (List.nodup_cons.mp nd).2 (by simpa using h1) (by simpa using h2) hk
theorem bindC_get {kindOf : Str → Option NameKind} {x : Str} {v : Value} : ∀ {P : List Str} {vs : List Value} {i : Nat} {m : Str → Option Value}, P.Nodup → P[i]? = some x → vs[i]? = some v → kindOf x ≠ some .local →
    bindC kindOf (P.zip vs) m x = some v
  | [], _, _, _, _, h, _, _ => by simp at h
  | _ :: _, [], _, _, _, _, h, _ => by simp at h
  | p :: P, w :: vs, 0, m, nd, h1, h2, hk => by
    simp at h1 h2; subst h1; subst h2
    show bindC kindOf ((p, w) :: P.zip vs) m p = _
    unfold bindC
    rw [bindC_out fun v hv => (List.nodup_cons.mp nd).1 (List.of_mem_zip hv).1, if_neg hk]
    simp
  | p :: P, w :: vs, i + 1, m, nd, h1, h2, hk => by
    show bindC kindOf ((p, w) :: P.zip vs) m x = _
    unfold bindC
    exact bindC_get (i := i) (List.nodup_cons.mp nd).2 (by simpa using h1) (by simpa using h2) hk

def start (N : List Str) (vs : List V) : St := vs.map some ++ List.replicate (N.length - vs.length) none

def cxOf (CX : CXT) (P : Program) (w : World) (K : PySem.W.Frag) (mg : Str → Option Value) (base : Heap) (N : List Str) (qual : Str) (scope : Scope) (f : Addr) (cd : Value) (A : Around) (outer : List Env) (s : Shared) (H : Hp) (E : XK) : Cx where
  prog := P
  w := w
  K := K
  mg := mg
  base := base
  A := A.deeper (envOfC qual scope s.heap.objs.size f cd)
  N := N
  s₀ := s
  H₀ := H
  env := envOfC qual scope s.heap.objs.size f cd
  outer := outer
  stack := envOfC qual scope s.heap.objs.size f cd :: outer
  ex := []
  calm := true
  fn := fun _ => true
  pn := []
  xe := fun e s' => wpAny (model P w) (A.deeper (envOfC qual scope s.heap.objs.size f cd)) (leaving (envOfC qual scope s.heap.objs.size f cd) e) (fun _ s'' => CX outer H s E e s'') (fun e' s'' => CX outer H s E e' s'') s'

theorem cell_has {sc : Scope} {n : Nat} {x : Str} (h : sc.names.lookup x = some .cell) : ∃ c, (cellsFrom n sc.names []).lookup x = some c := by
  have q := PySem.W.cellsFrom_some sc.names n [] (.inl h)
  exact Option.isSome_iff_exists.mp q

theorem inv_start {CX : CXT} {P : Program} {w : World} {K : PySem.W.Frag} {mg : Str → Option Value} {base : Heap} {N ps : List Str} {qual : Str} {scope : Scope} {f : Addr} {cd : Value} {A : Around} {outer : List Env} {s s1 : Shared} {H : Hp} {E : XK} {us : List Value} {vs : List V}
    (S : FnScope N ps scope) (hd : A.handled = none) (e0 : Env0 P w K mg base A outer s H) (hl : vs.length = ps.length) (r : Vals vs us)
    (x : InCallC s s.heap.objs.size (bindL (envOfC qual scope s.heap.objs.size f cd).kindOf (ps.zip us) fun _ => none) (cellsFrom (s.heap.objs.size + 1) scope.names []) (bindC (envOfC qual scope s.heap.objs.size f cd).kindOf (ps.zip us) fun _ => none) s1) :
    Inv (cxOf CX P w K mg base N qual scope f cd A outer s H E) [] (start N vs) H s1 := by
  have hpl : ps.length ≤ N.length := by have := congrArg List.length S.pre; rw [List.length_take] at this; omega
  obtain ⟨h1, tk, rfl, hk⟩ := x.done
  have noA : ∀ b : Addr, b ∉ (cxOf CX P w K mg base N qual scope f cd A outer s H E).ex := fun b z => absurd (show b ∈ ([] : List Addr) from z) (by simp)
  refine ⟨⟨e0.mod, S.kind, rfl, rfl, Nat.le_refl _, fun y z c h1 h2 => ?_, fun y hy => ?_, fun y c _ h => ?_, fun _ => hd, Around.frames_deeper e0.frames, .inr ⟨rfl, rfl⟩, fun b z => absurd z (noA b), e0.bs, e0.bsz, fun b _ _ => noA b, fun b z => absurd z (noA b), e0.funs, e0.frf⟩,
    rfl, e0.bare, Un.kept hk, ⟨_, x.toInCall.ns, fun i y v h1 h2 h3 => ?_⟩, fun y c h => ⟨_, x.cell y c h⟩, e0.hok.fresh (Nat.le_refl _), fun y c h => ?_, fun p hp => absurd (show p ∈ ([] : List (Addr × Obj)) from hp) (by simp), e0.hok.kept hk, ?_⟩
  · exact name_of_addr x.apart (PySem.mem_of_lookup h1) (PySem.mem_of_lookup h2)
  · have hy : scope.names.lookup y = some .cell ∨ scope.names.lookup y = some .free := hy
    rcases hy with hy | hy
    · exact cell_has hy
    · exact absurd rfl (S.nofree _ (PySem.mem_of_lookup hy))
  · exact Nat.le_of_lt (x.above y c (PySem.mem_of_lookup h))
  · have hi : i < vs.length := by
      unfold start at h2
      by_cases hi : i < vs.length
      · exact hi
      · rw [List.getElem?_append_right (by simpa using hi)] at h2
        rw [List.getElem?_replicate] at h2
        split at h2 <;> cases h2
    have ha : vs[i]? = some v := by
      unfold start at h2
      rw [List.getElem?_append_left (by simpa using hi), List.getElem?_map] at h2
      cases e : vs[i]? with
      | none => rw [e] at h2; cases h2
      | some a => rw [e] at h2; cases h2; rfl
    obtain ⟨u, hu, rv⟩ := r.get ha
    have hp : ps[i]? = some y := by
      rw [← S.pre, List.getElem?_take_of_lt (by omega)]; exact h1
    have ndP : ps.Nodup := by rw [← S.pre]; exact S.nd.sublist (List.take_sublist _ _)
    refine ⟨u, rv, ?_⟩
    rcases S.par y (List.mem_of_getElem? hp) with k | k
    · exact .inl ⟨k, bindL_get ndP hp hu k⟩
    · obtain ⟨c, e⟩ := cell_has (n := s.heap.objs.size + 1) k
      refine .inr ⟨.inl k, c, e, ?_⟩
      have q := x.cell y c e
      rw [bindC_get ndP hp hu (by show scope.names.lookup y ≠ _; rw [k]; decide)] at q
      exact q
  · exact e0.hok.fresh (Nat.le_of_lt (x.above y c (PySem.mem_of_lookup h)))
  · unfold start
    show _ = N.length
    rw [List.length_append, List.length_map, List.length_replicate]
    omega

theorem fn_of {CX : CXT} {P : Program} {w : World} {K : PySem.W.Frag} {mg : Str → Option Value} {base : Heap} {k : Nat} {f : Addr} {name qual : Str} {params : Arguments} {body : List Stmt} {scope : Scope} {dV kV doc pm cdv ct oc : Value} {an od : Option Addr}
    {osl : Array (Option Value)} {N ps : List Str} {sp : Sp} (lk : K.lookup f = some ⟨oc, od, .func (PySem.W.fnOf name qual params body scope dV kV doc pm an cdv ct), osl⟩) (hcd : PySem.W.codeIn K cdv qual = true) (S : FnScope N ps scope)
    (len : ∀ vs H Q E, sp vs H Q E → vs.length = ps.length)
    (hbody : ∀ (A : Around) (outer : List Env) (s : Shared) (H : Hp) (vs : List V) (Q : VK) (E : XK), Room k (A.deeper (envOfC qual scope s.heap.objs.size f cdv)) → sp vs H Q E →
      ∃ t, PSs (cxOf CX P w K mg base N qual scope f cdv A outer s H E) body t ∧ t { nx := fun _ H' => Q .non H', rt := Q } (start N vs) H) :
    FnOk P w K mg base CX (k + 1) f (PySem.W.fnOf name qual params body scope dV kV doc pm an cdv ct) ps sp := by
  refine ⟨len, fun A outer s H args us vs Q E hr e0 hb r hsp => ?_⟩
  have hl := len _ _ _ _ hsp
  have KX : K.In s.heap := e0.mod.kin.keeps fun b o e => (e0.bs b o e).1
  have lim : s.heap.NoLimit := e0.mod.nolimit.keeps fun b o e => (e0.bs b o e).1
  have hkind : ∀ y ∈ ps.zip us, scope.names.lookup y.1 = some .local ∨ (scope.names.lookup y.1 = some .cell ∧ ((cellsFrom (s.heap.objs.size + 1) scope.names []).lookup y.1).isSome = true) := fun ⟨n, v⟩ hy => by
    rcases S.par n (List.of_mem_zip hy).1 with q | q
    · exact .inl q
    · exact .inr ⟨q, PySem.W.cellsFrom_some _ _ _ (.inl q)⟩
  refine codeAny_call_function hr.depth (KX _ _ lk) rfl S.co S.gen rfl (PySem.W.codeRec_of KX hcd) (hb _ _ _ _ ?_)
  refine wpAny_newFunctionEnv_cells S.kind hkind fun env he s1 x => ?_
  subst he
  refine ⟨lim.keeps x.toInCall.keep, codeAny_func ?_⟩
  obtain ⟨t, ht, hq⟩ := hbody A outer s H vs Q E (hr.deeper _) hsp
  have I : Inv (cxOf CX P w K mg base N qual scope f cdv A outer s H E) [] (start N vs) H s1 := inv_start S hr.hd e0 hl r x
  refine wpAny_mono (ht [] s1 (start N vs) H _ I hq) (fun fl s' hs => ?_) fun e s' hs => hs
  have fin : ∀ {σ' : St} {H' : Hp} {v : V} {u : Value}, Inv (cxOf CX P w K mg base N qual scope f cdv A outer s H E) [] σ' H' s' → RelV v u → Q v H' → CE outer P w H s Q u s' :=
    fun {σ' H' v u} J rv q => ⟨v, H', J.os, J.bare, J.base, J.hok, rv, q⟩
  cases fl with
  | ret u =>
    obtain ⟨v, σ', H', J, rv, q⟩ := hs
    exact fin J rv q
  | next =>
    obtain ⟨σ', H', J, q⟩ := hs
    exact fin (v := V.non) (u := Value.none) J rfl q
  | brk =>
    obtain ⟨_, _, _, q⟩ := hs
    exact False.elim q
  | cont =>
    obtain ⟨_, _, _, q⟩ := hs
    exact False.elim q
end L2

namespace L2
open PySem PySem.Spec PyProof.Rows
section
variable {X : Cx} {x : Str} {p pos : Pos} {e : Expr} {es : List Expr} {t : TA} {id T : String} {r : List V → Hp → VK → Prop}

def tCB (r : List V → Hp → VK → Prop) (t : TA) : TE := fun σ H Q => t σ H fun vs H1 => r vs H1 Q
theorem pe_callB (hc : CallR X (.builtin id) r) (hg : Gl X x) (hm : X.mg x = none) (hv : bootBuiltins x = some (.builtin id)) (ha : PA X (e :: es) t) (hn : x ≠ "__name__" := by decide) (hdb : (x == ("__debug__" : Str)) = false := by decide)
    (he : starEach (e :: es) X.env = (false, eval e X.env) :: starEach es X.env := by rfl) (hpl : (backTo pos (starEach es X.env)).any (·.1) = false := by rfl) : PE X (.Call (.Name x p) (e :: es) [] pos) (tCB r t) := by
  intro pins s σ H Q I h
  refine wpAny_Call_Name_kw (ld_blt I hg hm hv ?_ hn hdb)
  exact PyProof.Rows.callWith_builtin1 (thn (ha pos pins s σ H _ I h) fun us s1 ⟨vs, H1, I1, r1, q1⟩ => hc pins s1 σ H1 vs us Q I1 r1 q1) he hpl
end
end L2

namespace HT
open PySem PyProof.Rows

section
open PySem.SeqAt
open PySem.AutoSeq1 (wpAny_loadPart')
open PySem.MeetsSeq PySem.MeetsSeq2 PySem.MeetsSeq3

end

section
variable {prog : Program} {w : World} {A : Around} {E : Value → Shared → Prop} {s : Shared}

/-! ### t[a:b], not the whole -/
/-- a slice's bound as a place among n (d where it is left out) -/
def sIx (n d : Nat) : Option Int → Nat
  | none => d
  | some v => if v < 0 then (v + (n : Int)).toNat else min v.toNat n
end
end HT

namespace L2
open PySem PySem.Spec PyProof.Rows

/-! ### the parts of a slice -/
abbrev TO := St → Hp → (Option Int → Hp → Prop) → Prop
def tNoPart : TO := fun _ H Q => Q none H
section
variable {X : Cx} {e : Expr} {te : TE} {lo hi : Option Expr} {tl th : TO} {pos p2 : Pos}

def cutV (xs : List V) (lo hi : Option Int) : List V := (xs.drop (HT.sIx xs.length 0 lo)).take (HT.sIx xs.length xs.length hi - HT.sIx xs.length 0 lo)
end
end L2

namespace L2
open PySem PySem.Spec PyProof.Rows

/-! ### places -/
/-- the place that an index of any sign means -/
def ixN (n : Nat) (i : Int) : Option Nat := if 0 ≤ i then (if i < n then some i.toNat else none) else if -(n : Int) ≤ i then some (i + n).toNat else none
def atI {α : Type} (xs : List α) (i : Int) : Option α := (ixN xs.length i).bind fun j => xs[j]?
theorem ixN_seq {n : Nat} {i : Int} {j : Nat} (h : ixN n i = some j) : seqIndex? i n = some j ∧ j < n ∧ -(n : Int) ≤ i ∧ i < n := by
  unfold ixN at h
  by_cases h0 : 0 ≤ i
  · rw [if_pos h0] at h
    by_cases h1 : i < n
    · rw [if_pos h1] at h
      have e : i.toNat = j := Option.some.inj h
      exact ⟨by rw [seqIndex_of h0 h1, e], by omega, by omega, h1⟩
    · rw [if_neg h1] at h; cases h
  · rw [if_neg h0] at h
    by_cases h1 : -(n : Int) ≤ i
    · rw [if_pos h1] at h
      have e : (i + n).toNat = j := Option.some.inj h
      exact ⟨by rw [seqIndex_neg (by omega) h1, e], by omega, h1, by omega⟩
    · rw [if_neg h1] at h; cases h
theorem atI_get {α : Type} {xs : List α} {i : Int} {v : α} (h : atI xs i = some v) : ∃ j, seqIndex? i xs.length = some j ∧ xs[j]? = some v ∧ j < xs.length ∧ -(xs.length : Int) ≤ i ∧ i < xs.length := by
  unfold atI at h
  cases e : ixN xs.length i with
  | none => rw [e] at h; cases h
  | some j =>
    rw [e] at h
    obtain ⟨h1, h2, h3, h4⟩ := ixN_seq e
    exact ⟨j, h1, h, h2, h3, h4⟩
theorem atI_nat {α : Type} {xs : List α} {j : Nat} {v : α} (h : xs[j]? = some v) : atI xs (j : Int) = some v := by
  have hj : j < xs.length := (List.getElem?_eq_some_iff.mp h).1
  have e : ixN xs.length (j : Int) = some j := by
    unfold ixN
    rw [if_pos (by omega), if_pos (by omega)]; simp
  unfold atI; rw [e]; exact h
/-! ### what may be subscripted -/
/-- what stands as an index of a plain subscript -/
def PlainIx (b : Expr) : Prop := ∀ o i, subscripted b false o i = operate [o, i] (getItem o i)
def IxR (X : Cx) (r : R2) : Prop :=
  ∀ (value slice : Expr) (pins : List (Addr × Obj)) (s : Shared) (σ : St) (H : Hp) (x y : V) (v u : Value) (Q : VK), Inv X pins σ H s → RelV x v → RelV y u → r x y H Q →
    subscripted slice false v u = operate [v, u] (getItem v u) → wpAny (model X.prog X.w) X.A (subscriptTail value slice v u) (EP X pins σ Q) X.xe s
def MtR (X : Cx) (id : String) (r : V → List V → Hp → VK → Prop) : Prop :=
  ∀ (pins : List (Addr × Obj)) (s : Shared) (σ : St) (H : Hp) (x : V) (xs : List V) (v : Value) (us : List Value) (Q : VK), Inv X pins σ H s → RelV x v → Vals xs us → r x xs H Q →
    wpAny (model X.prog X.w) X.A (call (.builtin id) (v :: us)) (EP X pins σ Q) X.xe s
section
variable {X : Cx} {a b : Expr} {ta tb : TE} {pos : Pos}
theorem pe_ix {r : R2} (hr : IxR X r) (ha : PE X a ta) (hb : PE X b tb) (hs : PlainIx b) : PE X (.Subscript a b pos) (tOp r ta tb) := by
  intro pins s σ H Q I h
  exact Subscript_ (binT ha hb I h fun v u s2 x y H2 I2 rx ry q => hr a b pins s2 σ H2 x y v u Q I2 rx ry q (hs _ _))

def rIxL (K : PySem.W.Frag) : R2 := fun x y H Q => ∃ p xs i v, x = .ref p ∧ y = .int i ∧ SqL K H p xs ∧ atI xs i = some v ∧ Q v H
def rIxT (K : PySem.W.Frag) : R2 := fun x y H Q => ∃ p xs i v, x = .ref p ∧ y = .int i ∧ SqT K H p xs ∧ atI xs i = some v ∧ Q v H
theorem ix_list : IxR X (rIxL X.K) := by
  intro value slice pins s σ H x y v u Q I rx ry h hs
  obtain ⟨p, xs, i, z, rfl, rfl, hq, he, q⟩ := h
  cases rx
  obtain ⟨t, rfl⟩ := ry
  obtain ⟨its, r, pl, hz⟩ := I.list hq
  obtain ⟨j, h1, h2, h3, h4, h5⟩ := atI_get he
  obtain ⟨w, ew, rw'⟩ := r.get h2
  have hl := r.length
  have hn := line63
  have fin : EP X pins σ Q w s := ⟨z, H, I, rw', q⟩
  by_cases h0 : 0 ≤ i
  · have hj : i.toNat = j := by
      rw [seqIndex_of h0 h5] at h1
      exact Option.some.inj h1
    exact item_listR pl.isList h0 (by omega) (by rw [hj]; simpa using ew) fin hs
  · have hj : (i + (its.toArray.size : Int)).toNat = j := by
      rw [seqIndex_neg (by omega) h4] at h1
      rw [List.size_toArray, ← hl]
      exact Option.some.inj h1
    exact subscriptTail_builtinR (x := w) pl.isList.typeIs slot_list_getitem.lookup
      (wpAny_getItem_list_neg (Q := fun r s' => r = w ∧ EP X pins σ Q r s') pl.isList (by omega) (by rw [List.size_toArray] <;> omega) (by omega) (by rw [hj]; simpa using ew) ⟨rfl, fin⟩) hs
theorem ix_tup : IxR X (rIxT X.K) := by
  intro value slice pins s σ H x y v u Q I rx ry h hs
  obtain ⟨p, xs, i, z, rfl, rfl, hq, he, q⟩ := h
  cases rx
  obtain ⟨t, rfl⟩ := ry
  obtain ⟨its, r, pl, hz⟩ := I.tuple hq
  obtain ⟨j, h1, h2, h3, h4, h5⟩ := atI_get he
  obtain ⟨w, ew, rw'⟩ := r.get h2
  have hl := r.length
  have hn := line63
  have fin : EP X pins σ Q w s := ⟨z, H, I, rw', q⟩
  exact subscriptTail_builtinR (x := w) pl.typeIs slot_tuple_getitem.lookup
    (getItem_tuple (j := j) (Q := fun r s' => r = w ∧ EP X pins σ Q r s') pl (by omega) (by omega) (by rw [List.size_toArray, ← hl]; exact h1) (by simpa using ew) ⟨rfl, fin⟩) hs
theorem Inv.lst {pins : List (Addr × Obj)} {σ : St} {H : Hp} {s : Shared} {p : Addr} {xs : List V} (I : Inv X pins σ H s) (h : H p = some (.lst xs)) :
    ∃ (its : List Value) (n : Nat), Vals xs its ∧ s.heap.get? p = some { cls := .type "list", data := .seq its.toArray n } ∧ xs.length ≤ sizeLine := by
  obtain ⟨z, its, n, r, e⟩ := I.hok p _ h
  exact ⟨its, n, r, e, z⟩
/-! ### len, list(x), tuple(x) of any list or tuple that is read -/
theorem call_len_seq : CallR X (.builtin "len") (fun xs H Q => ∃ p ys, xs = [.ref p] ∧ (SqL X.K H p ys ∨ SqT X.K H p ys) ∧ Q (.int ys.length) H) := by
  intro pins s σ H xs us Q I r h
  obtain ⟨p, ys, rfl, hq, q⟩ := h
  obtain ⟨u, rfl, rx⟩ := vals1 r
  cases rx
  have hn := line63
  rcases hq with hq | hq
  · obtain ⟨its, r', pl, hz⟩ := I.list hq
    have hlen := r'.length
    exact Calls.call_len_list pl.isList (by simp only [List.size_toArray] <;> omega) ⟨.int ys.length, H, I.tok _, ⟨s.toks + 1, by rw [List.size_toArray, hlen]⟩, q⟩
  · obtain ⟨its, r', pl, hz⟩ := I.tuple hq
    have hlen := r'.length
    exact len_tuple pl (by simp only [List.size_toArray] <;> omega) ⟨.int ys.length, H, I.tok _, ⟨s.toks + 1, by rw [List.size_toArray, hlen]⟩, q⟩
variable {o e : Expr} {es : List Expr} {to : TE} {t : TA} {name : Str} {apos cpos : Pos} {T id : String} {r : V → List V → Hp → VK → Prop}
end
end L2

namespace L2
open PySem PySem.Spec PyProof.Rows

theorem Vals.two : ∀ {x y : V} {us : List Value}, Vals [x, y] us → ∃ u v, us = [u, v] ∧ RelV x u ∧ RelV y v
  | _, _, _, .cons r (.cons q .nil) => ⟨_, _, rfl, r, q⟩
theorem Vals.zero : ∀ {us : List Value}, Vals [] us → us = []
  | _, .nil => rfl
theorem Vals.rep {xs : List V} {us : List Value} (h : Vals xs us) : ∀ k : Nat, Vals (List.replicate k xs).flatten (List.replicate k us).flatten
  | 0 => .nil
  | k + 1 => by
    rw [List.replicate_succ, List.replicate_succ, List.flatten_cons, List.flatten_cons]
    exact Vals.append h (Vals.rep h k)
theorem foldl_rep (its : List Value) : ∀ (k : Nat) (acc : List Value),
    List.foldl (fun x1 x2 => x1 ++ x2) acc.toArray (List.replicate k its.toArray) = (acc ++ (List.replicate k its).flatten).toArray
  | 0, acc => by simp
  | k + 1, acc => by
    have e : acc.toArray ++ its.toArray = (acc ++ its).toArray := by simp
    have e2 : (acc ++ its) ++ (List.replicate k its).flatten = acc ++ (List.replicate (k + 1) its).flatten := by
      rw [List.replicate_succ, List.flatten_cons, List.append_assoc]
    rw [← e2, ← foldl_rep its k (acc ++ its), ← e, List.replicate_succ, List.foldl_cons]

section
variable {X : Cx} {pins : List (Addr × Obj)} {σ : St} {H : Hp} {s : Shared} {l b : Addr} {xs ys zs : List V}

theorem Inv.lnew {its : List Value} {t' : Nat} (I : Inv X pins σ H s) (hv : Vals ys its) (hz : ys.length ≤ sizeLine) :
    Inv X pins σ (upd H s.heap.objs.size (.lst ys)) { s with heap := s.heap.push { cls := .type "list", data := .seq its.toArray }, toks := t' } :=
  I.laid (fun _ _ q => Heap.get?_push_of_some _ q) (Nat.le_refl _) ⟨hz, its, 0, hv, Heap.get?_push_size _ rfl⟩
theorem Inv.fresh (I : Inv X pins σ H s) : H s.heap.objs.size = none := I.hok.fresh (Nat.le_refl _)
theorem Inv.lstM (I : Inv X pins σ H s) (hH : H l = some (.lst xs)) : xs.length ≤ sizeLine ∧ ∃ (its : List Value) (n : Nat), Vals xs its ∧ xs.length = its.length ∧ s.heap.get? l = some { cls := .type "list", data := .seq its.toArray n } := by
  obtain ⟨z, its, n, r, e⟩ := I.hok l _ hH
  exact ⟨z, its, n, r, r.length, e⟩

theorem notLongL {n : Nat} (h : n ≤ sizeLine) : Builtin.List.listTooLong n = false := by
  unfold Builtin.List.listTooLong
  exact decide_eq_false (by omega)
end

section
variable {X : Cx}

/-! ### list + list, list += list, list * int -/
def rCat : R2 := fun x y H Q => ∃ l b xs zs, x = .ref l ∧ y = .ref b ∧ H l = some (.lst xs) ∧ H b = some (.lst zs) ∧ xs.length + zs.length ≤ sizeLine ∧ ∀ p, H p = none → Q (.ref p) (upd H p (.lst (xs ++ zs)))
theorem op_cat : OpR X (binaryOp .Add) rCat := by
  intro pins s σ H x y v u Q I rx ry h
  obtain ⟨l, b, xs, zs, rfl, rfl, hH, hB, hz, q⟩ := h
  cases rx
  cases ry
  obtain ⟨z, its, n, r, hl, e⟩ := I.lstM hH
  obtain ⟨z2, its2, n2, r2, hl2, e2⟩ := I.lstM hB
  refine PySem.P.add_list e e2 ?_ (by rw [List.size_toArray, List.size_toArray]; omega)
  have ea : its.toArray ++ its2.toArray = (its ++ its2).toArray := by simp
  rw [ea]
  exact ⟨.ref _, _, I.lnew (t' := s.toks) (r.append r2) (by rw [List.length_append]; omega), rfl, q _ I.fresh⟩
def rRep : R2 := fun x y H Q => ∃ l k xs, x = .ref l ∧ y = .int k ∧ H l = some (.lst xs) ∧ -(2 ^ 63) ≤ k ∧ k < 2 ^ 63 ∧ xs.length * k.toNat ≤ sizeLine ∧
  ∀ p, H p = none → Q (.ref p) (upd H p (.lst (List.replicate k.toNat xs).flatten))
theorem len_rep {α : Type} (xs : List α) (k : Nat) : (List.replicate k xs).flatten.length = k * xs.length := by
  induction k with
  | zero => simp
  | succ k ih => rw [List.replicate_succ, List.flatten_cons, List.length_append, ih, Nat.succ_mul, Nat.add_comm]
theorem op_rep : OpR X (binaryOp .Mult) rRep := by
  intro pins s σ H x y v u Q I rx ry h
  obtain ⟨l, k, xs, rfl, rfl, hH, h1, h2, hz, q⟩ := h
  cases rx
  obtain ⟨t, rfl⟩ := ry
  obtain ⟨z, its, n, r, hl, e⟩ := I.lstM hH
  have hlen : its.toArray.size * k.toNat ≤ sizeLine := by rw [List.size_toArray, ← hl]; exact hz
  have hcap : ¬ its.toArray.size * k.toNat > (2 ^ 63 - 1) / 8 := by
    have : (sizeLine : Nat) ≤ (2 ^ 63 - 1) / 8 := by decide
    omega
  have hfit : ¬ (!Builtin.List.listFitsIndex k) = true := by
    rw [fitsIndex_both h1 h2]
    exact Bool.false_ne_true
  have hlong : ¬ Builtin.List.listTooLong (its.toArray.size * k.toNat) = true := by
    rw [notLongL hlen]
    exact Bool.false_ne_true
  have hnew : List.foldl (fun x1 x2 => x1 ++ x2) #[] (List.replicate (if its.toArray.isEmpty = true then 0 else k.toNat) its.toArray) = (List.replicate k.toNat its).flatten.toArray := by
    have f0 : ∀ m : Nat, List.foldl (fun x1 x2 => x1 ++ x2) #[] (List.replicate m its.toArray) = (List.replicate m its).flatten.toArray := fun m => by
      have := foldl_rep its m []
      rw [List.nil_append] at this
      exact this
    rw [f0]
    cases its with
    | nil => simp
    | cons a r' => rw [if_neg (by simp)]
  refine wpAny_binaryOp_repeat_ref (T := "list") (U := "int") (by decide) ⟨_, e, rfl⟩ (fun s' => typeIs_int s' k t) noFill_list_mul F.fills_int_mul F.slot_int_rmul repeat_list F.slot_int_index.lookup
    (call_meets F.slot_int_rmul (typeIs_int s k t) F.entry_int_rmul (F.args_int_rmul_2 _ _) (int___rmul___int_list k t l its.toArray n)
      ⟨e, rfl, ⟨_, e, rfl⟩, call_meets F.slot_list_mul ⟨_, e, rfl⟩ F.entry_list_mul (F.args_list_mul_2 _ _) (AutoListH.list___mul___list_int_3 l its.toArray n k t hfit hcap hlong) ⟨e, ?_⟩⟩)
  rw [hnew]
  exact ⟨.ref _, _, I.lnew (t' := s.toks) (r.rep k.toNat) (by rw [len_rep, Nat.mul_comm]; exact hz), rfl, q _ I.fresh⟩

end

/-! ### xs[a:b] = ys -/
section
variable {prog : Program} {w : World} {A : Around} {E : Value → Shared → Prop} {s : Shared}
theorem bounds_run {a c n : Nat} (hac : a ≤ c) (hc : c ≤ n) : sliceBounds (some (a : Int)) (some (c : Int)) none n = ((a : Int), (c : Int), 1) := by
  simp only [sliceBounds, Option.getD_none]
  have h1 : ¬ ((a : Int) < 0) := by omega
  have h2 : ¬ ((c : Int) < 0) := by omega
  simp only [h1, h2, if_false, show (1 : Int) > 0 by decide, if_true]
  congr 1
  · omega
  · congr 1; omega
set_option maxRecDepth 100000 in
theorem setItem_slice {l b sl : Addr} {items new : Array Value} {n n2 : Nat} {vl vu : Value} {a c : Nat} {Q : Unit → Shared → Prop}
    (e : s.heap.get? l = some { cls := .type "list", data := .seq items n }) (e2 : s.heap.get? b = some { cls := .type "list", data := .seq new n2 }) (hne : l ≠ b)
    (hs : s.heap.IsSliceOf sl vl vu .none) (pl : IsPart vl (some (a : Int))) (pu : IsPart vu (some (c : Int))) (hac : a ≤ c) (hc : c ≤ items.size)
    (hsz : items.size + new.size ≤ sizeLine) (h : Q () { s with heap := s.heap.update l (Obj.mapSeq fun xs => xs.extract 0 a ++ new ++ xs.extract c xs.size) }) :
    wpAny (model prog w) A (setItem (.ref l) (.ref sl) (.ref b)) Q E s := by
  have hl : s.heap.IsList l items := PySem.IsL.isList e
  have hb : s.heap.IsList b new := PySem.IsL.isList e2
  obtain ⟨os, hos, hcs, hds⟩ := id hs
  have hTs : s.TypeIs (.ref sl) "slice" := ⟨os, hos, hcs⟩
  have hstep : ¬ ((rawPart none == rawInt 0) = true) := Bool.false_ne_true
  have hsame : Builtin.List.listSameRef (.ref l) (.ref b) = false := by
    unfold Builtin.List.listSameRef
    exact beq_eq_false_iff_ne.mpr hne
  have hmax : (max (a : Int) (c : Int)).toNat = c := by omega
  have hz' : ((fun xs : Array Value => xs.extract 0 a ++ new ++ xs.extract c xs.size) items).size ≤ sizeLine + 1 := by
    simp only [Array.size_append, Array.size_extract]
    omega
  unfold setItem
  try with_reducible refine wpAny_holding ?_
  first | refine wpAny_bind (wpAny_pure ?_) | skip
  refine wpAny_bind (wpAny_sequenceKey hl.typeIs (by decide) ?_)
  refine wpAny_bind (wpAny_callSpecial?_slot (name := Str.ofString "__setitem__") hl.typeIs slot_list_setitem
    (wpAny_call_entry slot_list_setitem hl.typeIs entry_list_setitem ?_ (args_list_setitem _ _ _)))
  show wpAny _ _ (Builtin.List.listSubscript? (.ref sl) >>= _) _ _ s
  refine wpAny_bind ?_
  unfold Builtin.List.listSubscript?
  refine wpAny_bind (wpAny_specialOf hTs slice_no_index ?_)
  simp only [Option.isNone_none, if_true]
  refine wpAny_pure ?_
  show wpAny _ _ (typeOf (.ref sl) >>= _) _ _ s
  refine wpAny_bind (wpAny_typeOf hTs ?_)
  first
    | rw [if_neg (by decide)]
    | refine PySem.W.KFB.if_not (by decide) ?_
  rw [listSliceParts_eq]
  refine wpAny_bind (wpAny_bind (wpAny_field hos hds (x := .none) rfl (wpAny_bind (wpAny_listPart .none ?_))))
  rw [if_neg hstep]
  refine wpAny_bind (wpAny_field hos hds (x := vl) rfl (wpAny_bind (wpAny_listPart pl ?_)))
  refine wpAny_bind (wpAny_field hos hds (x := vu) rfl (wpAny_bind (wpAny_listPart pu (wpAny_pure ?_))))
  first
    | simp only [hsame, Bool.false_eq_true, if_false]
    | refine PySem.W.KFB.if_not hsame ?_
    | (dsimp only
       rw [if_neg (by rw [hsame]; exact Bool.false_ne_true)])
  refine wpAny_bind (m := Builtin.List.listAllItems (.ref b) "must assign iterable to extended slice") ?_
  unfold Builtin.List.listAllItems
  refine wpAny_bind (wpAny_typeOf hb.typeIs ?_)
  first
    | refine PySem.W.KFB.if_so (by decide) ?_
    | rw [if_pos (by decide)]
    | simp only [beq_self_eq_true, Bool.true_or, if_true]
  unfold Builtin.List.listItems
  refine wpAny_bind (wpAny_seqItems e2 rfl (wpAny_pure ?_))
  refine wpAny_bind (wpAny_bind (wpAny_seqItems e rfl (wpAny_pure ?_)))
  refine wpAny_bind (wpAny_of_eq ((sliceIndices_raw (some (a : Int)) (some (c : Int)) none items.size (by simp)).trans (congrArg (pure : Int × Int × Int → Sem (Int × Int × Int)) (bounds_run hac hc))) ?_)
  show wpAny _ _ (if ((1 : Int) == 1) = true then _ else _) _ _ s
  rw [if_pos (by decide)]
  refine wpAny_bind (wpAny_rule ?_)
  first
    | simp only [notLongL hsz, Bool.false_eq_true, if_false]
    | refine PySem.W.KFB.if_not (notLongL hsz) ?_
  first | refine wpAny_bind (wpAny_pure ?_) | skip
  show wpAny _ _ (updateSeq l (fun xs => xs.extract 0 ((a : Int)).toNat ++ new ++ xs.extract (max (a : Int) (c : Int)).toNat xs.size) >>= _) _ _ s
  rw [hmax, Int.toNat_natCast]
  refine wpAny_bind (wpAny_updateSeq (hz := Nat.le_trans (Nat.le_add_right _ _) hsz) (_hz' := hz') e rfl ?_)
  refine wpAny_bind (wpAny_letGo ?_)
  first
    | exact wpAny_bind (wpAny_pure (wpAny_pure ⟨.none, rfl, wpAny_pure h⟩))
    | exact wpAny_pure ⟨.none, rfl, wpAny_pure h⟩
end

section
variable {X : Cx}
end
end L2

namespace Att
open PySem PySem.W PySem.Calls PyProof.Rows

/-! ### the script -/
theorem ints_of_wellAll {P : Params} {h : Heap} : ∀ (ns : List Int) (vs : List Value), WellAll P h vs (ns.map WData.int) → IntsAre vs ns := by
  intro ns
  induction ns with
  | nil =>
    intro vs w
    rw [List.map_nil] at w
    cases w
    exact .nil
  | cons n ns ih =>
    intro vs w
    rw [List.map_cons] at w
    cases w with
    | cons a b =>
      cases a
      exact .cons _ _ (ih _ b)

theorem script_of {l : OpenLaw} {n : Nat} (hn : l.most = some n) {P : Params} {h : Heap} {args : List WData} {vals : List Value}
    (hpre : l.row.toRowW.claim.pre args = true) (hwl : WellAll P h vals args) :
    ∃ a vs ns, vals = [Value.ref a] ∧ args = [WData.list (ns.map WData.int)] ∧ h.get? a = some { cls := .type "list", data := .seq vs.toArray } ∧ IntsAre vs ns ∧ ns.length ≤ n := by
  have hsh : WShape.hasAll [] args [.list .int] = true := (pre_splitW hpre).1
  have hc : l.pre.holds [] { args := args } = true := (pre_splitW hpre).2
  obtain ⟨d, r, rfl, h1, h2⟩ := hasAllW_cons hsh
  obtain rfl := hasAllW_nil h2
  obtain ⟨xs, rfl, h3⟩ := hasW_list h1
  obtain ⟨ns, rfl⟩ := items_int h3
  have hlen : ns.length ≤ n := by
    unfold OpenLaw.pre at hc
    have h4 : (WTm.not (.lt (.lit (.int (n : Int))) (.len (.arg 0)))).holds [] { args := [.list (ns.map .int)] } = true := by
      have h4 := (holds_andW hc).1
      rw [hn] at h4
      exact h4
    have h5 := condW_of h4 (w_not (w_lt w_lit (w_len_list (w_arg rfl))))
    rw [List.length_map] at h5
    refine Nat.le_of_not_lt fun q => ?_
    have q' : (n : Int) < ((ns.length : Nat) : Int) := by omega
    first
      | (rw [decide_eq_true q'] at h5; exact absurd h5 (by decide))
      | (simp at h5; omega)
  cases hwl with
  | cons w1 w2 =>
    cases w2
    cases w1 with
    | list ho hall => exact ⟨_, _, ns, rfl, rfl, ho, ints_of_wellAll ns _ hall, hlen⟩

theorem post_true (l : OpenLaw) (args : List WData) : l.row.toRowW.claim.post args (.bool true) args = true :=
  postW_of (r := l.row.toRowW) (X := (true == true))
    (show WShape.has [] (.bool true) .bool = true by first | rfl | decide | simp [WShape.has, WShape.arms, WShape.armsAll])
    (show (WTm.eq .res (.lit (.bool true))).value [] { args := args, res := some (.bool true), after := args } = some (.bool (true == true)) from w_eq_bool (w_res rfl) w_lit) rfl

theorem attach_call {l : OpenLaw} {n : Nat} {q : Program} {loose : List Str} {XP : (Str → Option Value) → Heap → Prop} {YP : World → Heap → Prop} {d : DefRec}
    (hn : l.most = some n) (hdf : d.params.defaults = [])
    (call : ∀ (w : World) (s₀ s₁ : Shared) (mg mb : Str → Option Value) (fa : Addr) (o : Obj) (pm cd doc : Value) (a : Addr) (vs : List Value) (ns : List Int),
      Ground q loose [] XP w s₀ mg mb s₁.heap → YP w s₁.heap →
      s₁.heap.get? fa = some o → o.data = .func (docDef d.name d.params d.body d.scope pm cd doc) → s₁.heap.CodeRec cd d.name → mg d.name = some (.ref fa) →
      s₁.heap.get? a = some { cls := .type "list", data := .seq vs.toArray } → IntsAre vs ns → ns.length ≤ n → s₁.gens = #[] →
      codeAny (model l.prog w) callerA (.call (.ref fa) ⟨[.ref a], []⟩) (fun r s' => r = .ok (.ret (.bool true)) ∧ OldK s₁.heap s'.heap ∧ s'.os = s₁.os ∧ AllBare s'.gens) s₁) :
    WalkO q loose XP YP l.row.toRowW d [] (fun f vs => PySem.call f vs) := by
  intro w s₀ s₁ mg mb G Y fa o pm cd doc dV kV ho hd hcd hD hmg hg args vals as hpre hlay hrd hwl hlo
  obtain rfl : dV = .none := Dflts.none hD hdf
  obtain rfl : kV = .none := Dflts.noKw hD
  obtain ⟨a, vs, ns, rfl, rfl, hobj, hints, hlen⟩ := script_of hn hpre hwl
  refine enter_call (codeAny_mono (call w s₀ s₁ mg mb fa o pm cd doc a vs ns G Y ho (fd_plain hd) hcd hmg hobj hints hlen hg) fun r s' hq => ?_)
  obtain ⟨rfl, h2, h3, h4⟩ := hq
  exact ⟨.inl ⟨.bool true, .bool true, [], rfl, fun _ => rfl, .bool true, post_true l _, fun _ => ⟨List.Pairwise.nil, fun _ hm => (nomatch hm)⟩⟩, h2, h3, h4⟩

/-! ### rules over ANY heap (no ledger) from facts about the written part K: the library's own take a ledger (News) for what they write -/
section
variable {prog : Program} {w : World} {A : Around} {E : Value → Shared → Prop} {s : Shared} {K : Frag}

def ledger (h : Heap) (L d : Addr) : List (Addr × Obj) := (List.range h.objs.size).filterMap fun a => if a = L ∨ a = d then none else (h.get? a).map fun o => (a, o)
end
end Att

namespace L2
open PySem PySem.Spec PyProof.Rows

theorem vals_ints : ∀ {vs : List Value} {ns : List Int}, IntsAre vs ns → Vals (ns.map V.int) vs
  | _, _, .nil => .nil
  | _, _, .cons n t h => .cons ⟨t, rfl⟩ (vals_ints h)

def Only (H : Hp) : Prop := ∀ b, H b = none ∨ ∃ o xs, H b = some (.frz o (.lst xs))

theorem law_call {P : Program} {w : World} {K : PySem.W.Frag} {mg mb : Str → Option Value} {CX : CXT} {k : Nat} {fa a : Addr} {fd : FuncData} {x : Str} {sp : Sp} {s₁ : Shared} {vs : List Value} {ns : List Int}
    (KX : K.In s₁.heap) (hns : s₁.heap.Ns mainGlobals mg) (hb : s₁.heap.Ns builtinsNs mb) (hbb : ∀ x : Str, x ≠ "__name__" → mb x = bootBuiltins x) (hlim : s₁.heap.NoLimit) (hg : s₁.gens = #[])
    (ha : s₁.heap.get? a = some { cls := .type "list", data := .seq vs.toArray }) (hi : IntsAre vs ns) (hl : ns.length ≤ sizeLine) (hr : Room k callerA)
    (F : ∀ base : Heap, K.In base → base.Ns mainGlobals mg → FnOk P w K mg base CX k fa fd [x] sp) (hbind : ∀ (s : Shared) (u : Value), BindsTo s fd ⟨[u], []⟩ [(x, u)])
    (hsp : ∀ H : Hp, Only H → SqL K H a (ns.map V.int) → sp [.ref a] H (fun v _ => v = .bl true) fun _ _ _ => False)
    (hCX : ∀ H e s', CX [] H s₁ (fun _ _ _ => False) e s' → False) :
    codeAny (model P w) callerA (.call (.ref fa) ⟨[.ref a], []⟩) (fun r s' => r = .ok (.ret (.bool true)) ∧ OldK s₁.heap s'.heap ∧ s'.os = s₁.os ∧ AllBare s'.gens) s₁ := by
  have rv := vals_ints hi
  have lenV := hi.length
  -- from an abstract heap in which nothing but the script may be tracked
  have core : ∀ H : Hp, Only H → SqL K H a (ns.map V.int) → HOk P w H s₁.heap → (∀ b, H b ≠ none → b = a) → (H a ≠ none → K.lookup a = none) →
      codeAny (model P w) callerA (.call (.ref fa) ⟨[.ref a], []⟩) (fun r s' => r = .ok (.ret (.bool true)) ∧ OldK s₁.heap s'.heap ∧ s'.os = s₁.os ∧ AllBare s'.gens) s₁ := by
    intro H hO hS hok hA hK
    have base_of : ∀ {b : Addr} {o : Obj}, s₁.heap.get? b = some o → H b = none → (hidT s₁.heap H).get? b = some o := fun e n => hidT_get e n
    have noA : ∀ {b : Addr} {o : Obj} {es : Array DictEntry} {ep : Nat}, s₁.heap.get? b = some o → o.data = .dict es ep → H b = none := fun {b o es ep} e d => by
      cases q : H b with
      | none => rfl
      | some u =>
        have e' : b = a := hA b (by rw [q]; simp)
        subst e'
        rw [ha] at e; cases e
        have d' : Data.seq vs.toArray _ = Data.dict es ep := d
        cases d'
    have nsK : ∀ {b : Addr} {m : Str → Option Value}, s₁.heap.Ns b m → (hidT s₁.heap H).Ns b m := fun {b m} ⟨o, es, ep, e, d, r⟩ => ⟨o, es, ep, base_of e (noA e d), d, r⟩
    have hKb : K.In (hidT s₁.heap H) := fun b o e => base_of (KX b o e) (by
      cases q : H b with
      | none => rfl
      | some u =>
        have e' : b = a := hA b (by rw [q]; simp)
        subst e'
        rw [hK (by rw [q]; simp)] at e; cases e)
    have hM : Mod K mg (hidT s₁.heap H) := ⟨hKb, nsK hns, ⟨mb, nsK hb, hbb⟩, let ⟨mc, h1, h2⟩ := hlim; ⟨mc, nsK h1, h2⟩⟩
    have e0 : Env0 P w K mg (hidT s₁.heap H) callerA [] s₁ H := ⟨rfl, hM, fun b o e => of_hidT e, Nat.le_of_eq (hidT_size _ _), trivial, fun b hb => absurd (show b ∈ ([] : List Addr) from hb) (by simp), hok, .of_eq hg⟩
    refine codeAny_mono ((F _ hKb (nsK hns)).run callerA [] s₁ H ⟨[.ref a], []⟩ [.ref a] [.ref a] _ _ hr e0 (hbind s₁ (.ref a)) (.cons rfl .nil) (hsp H hO hS)) fun r s' h => ?_
    cases r with
    | error e => exact (hCX H e s' h).elim
    | ok fl =>
      cases fl with
      | next => exact False.elim h
      | brk => exact False.elim h
      | cont => exact False.elim h
      | ret u =>
        obtain ⟨v, H', os, bare, un, hok', r', q⟩ := h
        have q' : v = .bl true := q
        subst q'
        obtain rfl : u = Value.bool true := r'
        refine ⟨rfl, OldK.of_keep fun b o e => ?_, os, bare⟩
        cases q : H b with
        | none => exact un.keep b o e q (by intro z; exact absurd (show b ∈ ([] : List Addr) from z) (by simp)) (by simp)
        | some u =>
          rcases hO b with z | ⟨ob, xs, z⟩
          · rw [q] at z; cases z
          · have z2 := un.frzs b ob _ z
            obtain ⟨e1, _⟩ := hok b _ z
            obtain ⟨e2, _⟩ := hok' b _ z2
            rw [e] at e1; cases e1
            exact e2
  cases hk : K.lookup a with
  | some o =>
    -- the script is one of the module's own objects
    have e := KX a o hk
    rw [ha] at e
    cases e
    refine core (fun _ => none) (fun _ => .inl rfl) (.inr ⟨_, vs.toArray, _, hk, rfl, rfl, rfl, by rw [List.size_toArray, lenV]; exact hl, by simpa using rv⟩) (fun b u z => by have z' : (none : Option HO) = some u := z; cases z') (fun b z => absurd rfl z) fun z => absurd rfl z
  | none =>
    refine core (fun b => if b = a then some (.frz { cls := .type "list", data := .seq vs.toArray } (.lst (ns.map V.int))) else none) (fun b => ?_) (.inl (.inr ⟨{ cls := .type "list", data := .seq vs.toArray }, if_pos rfl⟩)) (fun b u z => ?_) (fun b z => ?_) fun _ => hk
    · by_cases hb : b = a
      · exact .inr ⟨_, _, if_pos hb⟩
      · exact .inl (if_neg hb)
    · by_cases hb : b = a
      · have z' := (if_pos hb).symm.trans z
        cases z'
        subst hb
        exact ⟨ha, by rw [List.length_map]; exact hl, vs, _, rv, ha⟩
      · have z' := (if_neg hb).symm.trans z
        cases z'
    · by_cases hb : b = a
      · exact hb
      · exact absurd (if_neg hb) z
end L2

namespace L2
open PySem PySem.Spec PyProof.Rows

abbrev KOf {K : PySem.W.Frag} {h : Heap} (_ : K.In h) : PySem.W.Frag := K

theorem walk_of {l : PySem.W.OpenLaw} {n k : Nat} {q : Program} {loose : List Str} {XP : (Str → Option Value) → Heap → Prop} {YP : World → Heap → Prop} {d : DefRec} {K : Params → PySem.W.Frag} {CX : World → CXT} {sp : World → Sp} {x : Str}
    (hn : l.most = some n) (hn2 : n ≤ sizeLine) (hdf : d.params.defaults = []) (hr : Room k callerA)
    (hY : ∀ (w : World) (h : Heap), YP w h → (K w.params).In h)
    (F : ∀ (w : World) (mg : Str → Option Value) (fa : Addr) (h : Heap), (K w.params).In h → h.Ns mainGlobals mg → mg d.name = some (.ref fa) →
      ∃ fd : FuncData, (∀ (s : Shared) (u : Value), BindsTo s fd ⟨[u], []⟩ [(x, u)]) ∧
        ∀ base : Heap, (K w.params).In base → base.Ns mainGlobals mg → FnOk l.prog w (K w.params) mg base (CX w) k fa fd [x] (sp w))
    (hsp : ∀ (w : World) (H : Hp) (a : Addr) (ns : List Int), ns.length ≤ n → Only H → SqL (K w.params) H a (ns.map V.int) → sp w [.ref a] H (fun v _ => v = .bl true) fun _ _ _ => False)
    (hCX : ∀ (w : World) (H : Hp) (s : Shared) (e : Value) (s' : Shared), CX w [] H s (fun _ _ _ => False) e s' → False) :
    PySem.W.WalkO q loose XP YP l.row.toRowW d [] (fun f vs => PySem.call f vs) := by
  refine Att.attach_call hn hdf fun w s₀ s₁ mg mb fa o pm cd doc a vs ns G Y ho hd hcd hmg hobj hints hlen hg => ?_
  have KX := hY w _ Y
  obtain ⟨fd, hb, hF⟩ := F w mg fa _ KX G.T.g hmg
  exact law_call KX G.T.g G.T.b G.T.builtins G.T.nolimit hg hobj hints (Nat.le_trans hlen hn2) hr hF hb (fun H hO hS => hsp w H a ns hlen hO hS) fun H e s' => hCX w H s₁ e s'
end L2

/- THE LAST THEOREM (shape; LID, My.* are yours):
   My.Adr: a structure of the addresses that your layer names (classes, functions); My.Txt K t: a structure (Prop) of the equations over K;
   My.txt_mk : {K} {implicit addresses ..} (e1 : nsIn K mainGlobals "law" = some (some (.ref f))) (e2 : K.lookup f = some ⟨oc, od, .func (fnOf "law" "law" params body scope dV kV doc pm an cdv ct), sl⟩) (e3 : codeIn K cdv "law" = true) .. : ∃ t, My.Txt K t

set_option maxRecDepth 100000 in
set_option maxHeartbeats 0 in
theorem PySem.Challenge.cw_LID_holds : PySem.Challenge.rw_LID.Holds := by
  w_on; o_law; k_head; (case hw => w_witness2)
  k_fill
  refine L2.walk_of (l := PySem.Challenge.rw_LID) (n := 63) (k := 40) (x := "script") (CX := fun w => ..) (sp := fun _ => My.sp_law) rfl (by decide) rfl ⟨rfl, by decide, by decide⟩ (fun w h Y => PySem.W.kIn_of Y) ?F ?S ?C
  case F =>
    intro w mg fa h KX G hmg
    have T : ∃ t, My.Txt (L2.KOf KX) t := by
      dsimp only [L2.KOf]                          -- K must stand as «<heap const> w.params» for k_is
      refine' My.txt_mk ?e1 ?e2 ?e3 ..
      (case e1 => PySem.W.k_is)                    -- in the order: a name -> its address -> its object -> its parts
      (case e2 => PySem.W.k_is)
      ..
    obtain ⟨t, T⟩ := T
    have e0 := hmg.symm.trans (PySem.W.mg_of KX G T.law)
    cases e0                                       -- fa is the law's own address
    exact ⟨_, fun s u => .of_eq rfl, fun base kb nb => My.law_fn T kb nb⟩     -- if «.of_eq rfl» comes too early: refine' ⟨_, ?b, fun base kb nb => My.law_fn T kb nb⟩; exact fun s u => .of_eq rfl
  case S => exact fun w H a ns hl hO hS => ..
  case C => exact ..
(the tactic k_is has no namespace: write k_is) -/

/-! SHORT WORDS over the layer: a def of the text, its body, what a loop and a test want. -/
namespace L2
open PySem PySem.Spec PyProof.Rows

def defArgs (s : Stmt) : Arguments := match s with
  | .FunctionDef _ a _ _ _ _ _ _ _ _ => a
  | _ => { posonlyargs := [], args := [], vararg := none, kwonlyargs := [], kw_defaults := [], kwarg := none, defaults := [] }
def defBody (s : Stmt) : List Stmt := match s with
  | .FunctionDef _ _ b _ _ _ _ _ _ _ => b
  | _ => []
def defScope (s : Stmt) : Scope := match s with
  | .FunctionDef _ _ _ _ _ _ sc _ _ _ => sc
  | _ => { kind := .function, names := [], isGenerator := false, isCoroutine := false }

/-! ### no exception leaves a def -/
abbrev CX0 : CXT := fun _ _ _ _ _ _ => False
abbrev E0 : XK := fun _ _ _ => False
theorem pass0 {X : Cx} : Passes CX0 X E0 := fun _ _ _ _ _ _ _ h => h.elim

/-! ### a def (or method) of the text as it stands behind the top -/
structure Fun (K : PySem.W.Frag) (x qual : Str) (st : Stmt) (f : Addr) (fd : FuncData) : Prop where
  ex : ∃ (oc : Value) (od : Option Addr) (kV doc pm : Value) (an : Option Addr) (cdv ct : Value) (osl : Array (Option Value)),
    fd = PySem.W.fnOf x qual (defArgs st) (defBody st) (defScope st) .none kV doc pm an cdv ct ∧ K.lookup f = some ⟨oc, od, .func fd, osl⟩ ∧ PySem.W.codeIn K cdv qual = true
  kp : PySem.W.keepIn K (.ref f) = true
section
variable {P : Program} {w : World} {K : PySem.W.Frag} {mg : Str → Option Value} {base : Heap}
theorem Fun.ok {x qual : Str} {st : Stmt} {f : Addr} {fd : FuncData} {N ps : List Str} {k : Nat} {sp : Sp} (F : Fun K x qual st f fd) (S : FnScope N ps (defScope st)) (len : ∀ vs H Q E, sp vs H Q E → vs.length = ps.length)
    (hbody : ∀ (cdv : Value) (A : Around) (outer : List Env) (s : Shared) (H : Hp) (vs : List V) (Q : VK) (E : XK), Room k (A.deeper (envOfC qual (defScope st) s.heap.objs.size f cdv)) → sp vs H Q E →
      ∃ t, PSs (cxOf CX0 P w K mg base N qual (defScope st) f cdv A outer s H E).nox (defBody st) t ∧ t { nx := fun _ H' => Q .non H', rt := Q } (start N vs) H) : FnOk P w K mg base CX0 (k + 1) f fd ps sp := by
  obtain ⟨oc, od, kV, doc, pm, an, cdv, ct, osl, rfl, lk, hcd⟩ := F.ex
  refine fn_of lk hcd S len fun A outer s H vs Q E hr hsp => ?_
  obtain ⟨t, h, q⟩ := hbody cdv A outer s H vs Q E hr hsp
  exact ⟨t, h.nox, q⟩
theorem Fun.binds {x qual : Str} {st : Stmt} {f : Addr} {fd : FuncData} {ps : List Str} (F : Fun K x qual st f fd)
    (h : ∀ (kV doc pm : Value) (an : Option Addr) (cdv ct : Value) (us : List Value), us.length = ps.length → bindArgs (PySem.W.fnOf x qual (defArgs st) (defBody st) (defScope st) .none kV doc pm an cdv ct) ⟨us, []⟩ = pure (ps.zip us)) : Binds K fd ps [] := by
  obtain ⟨oc, od, kV, doc, pm, an, cdv, ct, osl, rfl, lk, hcd⟩ := F.ex
  exact .all (h kV doc pm an cdv ct)
theorem fun_mk {x qual : Str} {st : Stmt} {f : Addr} {oc : Value} {od an : Option Addr} {osl : Array (Option Value)} {kV doc pm cdv ct : Value} (l : K.lookup f = some ⟨oc, od, .func (PySem.W.fnOf x qual (defArgs st) (defBody st) (defScope st) .none kV doc pm an cdv ct), osl⟩)
    (c : PySem.W.codeIn K cdv qual = true) (k : PySem.W.keepIn K (.ref f) = true) : Fun K x qual st f (PySem.W.fnOf x qual (defArgs st) (defBody st) (defScope st) .none kV doc pm an cdv ct) := ⟨⟨oc, od, kV, doc, pm, an, cdv, ct, osl, rfl, l, c⟩, k⟩
end
theorem small1000 {n : Nat} (h : n ≤ 1000) : n < sizeLine := Nat.lt_of_le_of_lt h (by decide)

/-! ### expressions in short: the name that stands in the i-th slot -/
section
variable {X : Cx}
end

/-! ### tests -/
theorem iteF {A B : Prop} (h : B) : if false = true then A else B := by
  rw [if_neg Bool.false_ne_true]
  exact h
theorem iteT {A B : Prop} (h : A) : if true = true then A else B := by
  rw [if_pos rfl]
  exact h
theorem ite2 {c A B : Prop} [Decidable c] (h1 : c → A) (h2 : ¬ c → B) : if c then A else B := by
  by_cases h : c
  · rw [if_pos h]
    exact h1 h
  · rw [if_neg h]
    exact h2 h
theorem iteNS {c A B : Prop} [Decidable c] (hc : c) (h : B) : if (!decide c) = true then A else B := by
  rw [decide_eq_true hc]
  exact iteF h

/-! ### heaps -/
/-- all that was tracked is as it was -/
def Same (H H' : Hp) : Prop := ∀ b o, H b = some o → H' b = some o
theorem Same.refl (H : Hp) : Same H H := fun _ _ h => h
theorem Same.trans {H H1 H2 : Hp} (a : Same H H1) (b : Same H1 H2) : Same H H2 := fun c o h => b c o (a c o h)
theorem Same.free {H H' : Hp} (e : Same H H') {l : Addr} (h : H' l = Option.none) : H l = Option.none := by
  cases q : H l with
  | none => rfl
  | some o =>
    rw [e l o q] at h
    cases h
theorem Same.seq {K : PySem.W.Frag} {H H' : Hp} {a : Addr} {xs : List V} (e : Same H H') (h : SqL K H a xs) : SqL K H' a xs := by
  rcases h with (h | ⟨o, h⟩) | h
  · exact .inl (.inl (e _ _ h))
  · exact .inl (.inr ⟨o, e _ _ h⟩)
  · exact .inr h

end L2

set_option Elab.async false
set_option linter.all false
set_option maxRecDepth 100000
/-! READINGS THAT REDUCE: the layer's rules once more, each reading by a match on the values, so that a body's reading unfolds by itself. -/
namespace L2.EX
open PySem PySem.Spec PyProof.Rows

section
variable {X : Cx}
theorem pe_imp {e : Expr} {t u : TE} (h : PE X e t) (k : ∀ σ H Q, u σ H Q → t σ H Q) : PE X e u := fun pins s σ H Q I q => h pins s σ H Q I (k σ H Q q)
theorem ps_imp {e : Stmt} {t u : TS} (h : PS X e t) (k : ∀ D σ H, u D σ H → t D σ H) : PS X e u := fun pins s σ H D I q => h pins s σ H D I (k D σ H q)
theorem call_imp {f : Value} {r u : List V → Hp → VK → Prop} (h : CallR X f r) (k : ∀ xs H Q, u xs H Q → r xs H Q) : CallR X f u := fun pins s σ H xs us Q I r q => h pins s σ H xs us Q I r (k xs H Q q)
def tCut (t : TS) : TS := fun D σ H => ∃ M : St → Hp → Prop, t { D with nx := M } σ H ∧ ∀ σ' H', M σ' H' → D.nx σ' H'
theorem ps_cut {st : Stmt} {t : TS} (h : PS X st t) : PS X st (tCut t) := by
  intro pins s σ H D I hw
  obtain ⟨M, h1, h2⟩ := hw
  refine thn (h pins s σ H { D with nx := M } I h1) fun f s' q => ?_
  cases f with
  | next =>
    obtain ⟨σ', H', I', m⟩ := q
    exact ⟨σ', H', I', h2 _ _ m⟩
  | brk => exact q
  | cont => exact q
  | ret v => exact q
/-! ### names -/
def sg : St → Nat → Option V
  | [], _ => none
  | v :: _, 0 => v
  | _ :: r, n + 1 => sg r n
theorem sg_ix : ∀ {σ : St} {i : Nat} {v : V}, sg σ i = some v → σ[i]? = some (some v)
  | [], _, _, h => nomatch h
  | w :: _, 0, v, h => by
    have e : w = some v := h
    rw [e]
    rfl
  | _ :: r, n + 1, v, h => by
    have e := sg_ix (σ := r) (i := n) (v := v) h
    simpa using e
def xV (i : Nat) (σ : St) (H : Hp) (Q : VK) : Prop := match sg σ i with
  | some v => Q v H
  | none => False
theorem cv (i : Nat) {x : Str} {pos : Pos} (hN : X.N[i]? = some x := by rfl) (hv : Vis X.env.scope x := by first | exact Or.inl rfl | exact Or.inr (Or.inl rfl) | exact Or.inr (Or.inr rfl)) (hd : (x == ("__debug__" : Str)) = false := by decide)
    (hcd : (x == ("__classdict__" : Str)) = false := by decide) : PE X (.Name x pos) (xV i) :=
  pe_imp (pe_var hN hv hd hcd) fun σ H Q q => by
    unfold xV at q
    split at q
    · rename_i v e
      exact ⟨v, sg_ix e, q⟩
    · exact q.elim
/-! ### two-place operations -/
def Bd (n : Nat) (i : Int) : Prop := i.natAbs < 2 ^ n
def uAdd (x y : V) (H : Hp) (Q : VK) : Prop := match x, y with
  | .int i, .int j => Q (.int (i + j)) H
  | .str i, .str j => i.length + j.length ≤ sizeLine ∧ Q (.str (i ++ j)) H
  | .ref l, .ref b => ∃ xs zs, H l = some (.lst xs) ∧ H b = some (.lst zs) ∧ xs.length + zs.length ≤ sizeLine ∧ ∀ p, H p = none → Q (.ref p) (upd H p (.lst (xs ++ zs)))
  | _, _ => False
def uSub (x y : V) (H : Hp) (Q : VK) : Prop := match x, y with
  | .int i, .int j => Q (.int (i - j)) H
  | _, _ => False
def uMul (x y : V) (H : Hp) (Q : VK) : Prop := match x, y with
  | .int i, .int j => IntMulOk i j ∧ Q (.int (i * j)) H
  | .ref l, .int k => ∃ xs, H l = some (.lst xs) ∧ -(2 ^ 63) ≤ k ∧ k < 2 ^ 63 ∧ xs.length * k.toNat ≤ sizeLine ∧ ∀ p, H p = none → Q (.ref p) (upd H p (.lst (List.replicate k.toNat xs).flatten))
  | _, _ => False
def uMod (x y : V) (H : Hp) (Q : VK) : Prop := match x, y with
  | .int i, .int j => 0 < j ∧ Q (.int (i % j)) H
  | _, _ => False
def uDiv (x y : V) (H : Hp) (Q : VK) : Prop := match x, y with
  | .int i, .int j => j ≠ 0 ∧ j.natAbs.log2 < 9000 ∧ Q (.int (i.fdiv j)) H
  | _, _ => False
def uPow (x y : V) (H : Hp) (Q : VK) : Prop := match x, y with
  | .int i, .int j => 0 ≤ j ∧ (Builtin.Int.intBits i : Int) * j ≤ 2 ^ 27 ∧ Q (.int (i ^ j.toNat)) H
  | _, _ => False
theorem uo_add : OpR X (binaryOp .Add) uAdd := by
  intro pins s σ H x y v u Q I rx ry h
  unfold uAdd at h
  split at h
  · exact op_add pins s σ H _ _ v u Q I rx ry ⟨_, _, rfl, rfl, h⟩
  · exact op_add_str pins s σ H _ _ v u Q I rx ry ⟨_, _, rfl, rfl, h.1, h.2⟩
  · obtain ⟨xs, zs, h1, h2, h3, h4⟩ := h
    exact op_cat pins s σ H _ _ v u Q I rx ry ⟨_, _, xs, zs, rfl, rfl, h1, h2, h3, h4⟩
  · exact h.elim
theorem uo_sub : OpR X (binaryOp .Sub) uSub := by
  intro pins s σ H x y v u Q I rx ry h
  unfold uSub at h
  split at h
  · exact op_sub pins s σ H _ _ v u Q I rx ry ⟨_, _, rfl, rfl, h⟩
  · exact h.elim
theorem mul_gen : OpR X (binaryOp .Mult) (rI IntMulOk fun i j => .int (i * j)) := opI fun _ _ _ _ _ _ _ hc q => mul_int q hc
theorem uo_mul : OpR X (binaryOp .Mult) uMul := by
  intro pins s σ H x y v u Q I rx ry h
  unfold uMul at h
  split at h
  · exact mul_gen pins s σ H _ _ v u Q I rx ry ⟨_, _, rfl, rfl, h.1, h.2⟩
  · obtain ⟨xs, h1, h2, h3, h4, h5⟩ := h
    exact op_rep pins s σ H _ _ v u Q I rx ry ⟨_, _, xs, rfl, rfl, h1, h2, h3, h4, h5⟩
  · exact h.elim
theorem uo_mod : OpR X (binaryOp .Mod) uMod := by
  intro pins s σ H x y v u Q I rx ry h
  unfold uMod at h
  split at h
  · exact op_mod pins s σ H _ _ v u Q I rx ry ⟨_, _, rfl, rfl, h.1, h.2⟩
  · exact h.elim
theorem div_gen : OpR X (binaryOp .FloorDiv) (rI (fun _ j => j ≠ 0 ∧ j.natAbs.log2 < 9000) fun i j => .int (i.fdiv j)) := opI fun _ _ _ _ _ _ _ hc q => floordiv_int hc.1 q (.inl (PyProof.noPylong_of_log2 hc.2))
theorem uo_div : OpR X (binaryOp .FloorDiv) uDiv := by
  intro pins s σ H x y v u Q I rx ry h
  unfold uDiv at h
  split at h
  · exact div_gen pins s σ H _ _ v u Q I rx ry ⟨_, _, rfl, rfl, ⟨h.1, h.2.1⟩, h.2.2⟩
  · exact h.elim
theorem pow_gen : OpR X (binaryOp .Pow) (rI (fun i j => 0 ≤ j ∧ (Builtin.Int.intBits i : Int) * j ≤ 2 ^ 27) fun i j => .int (i ^ j.toNat)) := opI fun _ _ _ _ _ _ _ hc q => pow_int hc.1 hc.2 q
theorem uo_pow : OpR X (binaryOp .Pow) uPow := by
  intro pins s σ H x y v u Q I rx ry h
  unfold uPow at h
  split at h
  · exact pow_gen pins s σ H _ _ v u Q I rx ry ⟨_, _, rfl, rfl, ⟨h.1, h.2.1⟩, h.2.2⟩
  · exact h.elim
def uNeg (x : V) (H : Hp) (Q : VK) : Prop := match x with
  | .int i => Q (.int (-i)) H
  | _ => False
theorem uo_neg : UnR X (unaryOp .USub) uNeg := by
  intro pins s σ H x v Q I rx h
  unfold uNeg at h
  split at h
  · exact un_neg pins s σ H _ v Q I rx ⟨_, rfl, h⟩
  · exact h.elim
/-! ### comparisons -/
def uEq (x y : V) (H : Hp) (Q : VK) : Prop := match x, y with
  | .int i, .int j => Q (.bl (decide (i = j))) H
  | .bl i, .bl j => Q (.bl (decide (i = j))) H
  | .str i, .str j => Q (.bl (decide (i = j))) H
  | x, y => scal x y = true ∧ Q (.bl (decide (x = y))) H
def uNe (x y : V) (H : Hp) (Q : VK) : Prop := match x, y with
  | .int i, .int j => Q (.bl (!decide (i = j))) H
  | .bl i, .bl j => Q (.bl (!decide (i = j))) H
  | .str i, .str j => Q (.bl (!decide (i = j))) H
  | x, y => scal x y = true ∧ Q (.bl (!decide (x = y))) H
def uLt (x y : V) (H : Hp) (Q : VK) : Prop := match x, y with
  | .int i, .int j => Q (.bl (decide (i < j))) H
  | _, _ => False
def uLe (x y : V) (H : Hp) (Q : VK) : Prop := match x, y with
  | .int i, .int j => Q (.bl (decide (i ≤ j))) H
  | _, _ => False
def uGt (x y : V) (H : Hp) (Q : VK) : Prop := match x, y with
  | .int i, .int j => Q (.bl (decide (j < i))) H
  | _, _ => False
def uGe (x y : V) (H : Hp) (Q : VK) : Prop := match x, y with
  | .int i, .int j => Q (.bl (decide (j ≤ i))) H
  | _, _ => False
theorem uo_eq : OpR X (compareOp .Eq) uEq := by
  intro pins s σ H x y v u Q I rx ry h
  unfold uEq at h
  split at h
  · rename_i i j
    refine op_eq pins s σ H _ _ v u Q I rx ry ⟨rfl, ?_⟩
    have e : decide (V.int i = V.int j) = decide (i = j) := by simp
    rw [e]
    exact h
  · rename_i i j
    refine op_eq pins s σ H _ _ v u Q I rx ry ⟨rfl, ?_⟩
    have e : decide (V.bl i = V.bl j) = decide (i = j) := by simp
    rw [e]
    exact h
  · rename_i i j
    refine op_eq pins s σ H _ _ v u Q I rx ry ⟨rfl, ?_⟩
    have e : decide (V.str i = V.str j) = decide (i = j) := by simp
    rw [e]
    exact h
  · exact op_eq pins s σ H _ _ v u Q I rx ry h
theorem uo_ne : OpR X (compareOp .NotEq) uNe := by
  intro pins s σ H x y v u Q I rx ry h
  unfold uNe at h
  split at h
  · rename_i i j
    refine op_ne pins s σ H _ _ v u Q I rx ry ⟨rfl, ?_⟩
    have e : decide (V.int i = V.int j) = decide (i = j) := by simp
    rw [e]
    exact h
  · rename_i i j
    refine op_ne pins s σ H _ _ v u Q I rx ry ⟨rfl, ?_⟩
    have e : decide (V.bl i = V.bl j) = decide (i = j) := by simp
    rw [e]
    exact h
  · rename_i i j
    refine op_ne pins s σ H _ _ v u Q I rx ry ⟨rfl, ?_⟩
    have e : decide (V.str i = V.str j) = decide (i = j) := by simp
    rw [e]
    exact h
  · exact op_ne pins s σ H _ _ v u Q I rx ry h
theorem uo_lt : OpR X (compareOp .Lt) uLt := by
  intro pins s σ H x y v u Q I rx ry h
  unfold uLt at h
  split at h
  · exact op_lt pins s σ H _ _ v u Q I rx ry ⟨_, _, rfl, rfl, h⟩
  · exact h.elim
theorem uo_gt : OpR X (compareOp .Gt) uGt := by
  intro pins s σ H x y v u Q I rx ry h
  unfold uGt at h
  split at h
  · exact op_gt pins s σ H _ _ v u Q I rx ry ⟨_, _, rfl, rfl, h⟩
  · exact h.elim
def uIs (x y : V) (H : Hp) (Q : VK) : Prop := match y with
  | .non => Q (.bl (decide (x = .non))) H
  | _ => False
theorem uo_is : OpR X (compareOp .Is) uIs := by
  intro pins s σ H x y v u Q I rx ry h
  unfold uIs at h
  split at h
  · exact op_isN pins s σ H _ _ v u Q I rx ry ⟨rfl, h⟩
  · exact h.elim
/-! ### tests -/
def onB (Q : Bool → Hp → Prop) (x : V) (H : Hp) : Prop := match x with
  | .bl k => Q k H
  | _ => False
theorem onB_is {Q : Bool → Hp → Prop} {x : V} {H : Hp} (h : onB Q x H) : ∃ k, x = .bl k ∧ Q k H := by
  unfold onB at h
  split at h
  · exact ⟨_, rfl, h⟩
  · exact h.elim
def xT (t : TE) (σ : St) (H : Hp) (Q : Bool → Hp → Prop) : Prop := t σ H (onB Q)
theorem ct_val {e : Expr} {t : TE} (h : PE X e t) (he : ∀ whole, isTrue e X.env whole = (do let v ← whole; standAt e.pos; holding [v] (truthy v)) := by intro _; rfl) : PT X e (xT t) := by
  intro pins s σ H Q I hw
  refine isTrue_plain (thn (h pins s σ H _ I hw) fun v s1 hq => ?_) (he _)
  obtain ⟨x, H1, I1, r1, q1⟩ := hq
  obtain ⟨d, rfl, q⟩ := onB_is q1
  cases r1
  exact wpAny_truthy_bool ⟨H1, I1, q⟩
variable {a b : Expr} {ta tb : TE} {pos : Pos} {rest : List Expr}
theorem ct_cmp {op : CmpOp} {r : R2} (ho : OpR X (compareOp op) r) (ha : PE X a ta) (hb : PE X b tb) (hm : behindInMarks op b = false) : PT X (.Compare a [op] [b] pos) (xT (tOp r ta tb)) := by
  intro pins s σ H Q I h
  refine wpAny_isTrue_Compare1 (thn (ha pins s σ H _ I h) fun v s1 h1 => ?_) hm
  obtain ⟨x, H1, I1, r1, q1⟩ := h1
  refine thn (hb pins s1 σ H1 _ I1 q1) fun u s2 h2 => ?_
  obtain ⟨y, H2, I2, r2, q2⟩ := h2
  refine thn (ho pins s2 σ H2 x y v u _ I2 r1 r2 q2) fun c s3 h3 => ?_
  obtain ⟨z, H3, I3, r3, q3⟩ := h3
  obtain ⟨k, rfl, q⟩ := onB_is q3
  cases r3
  exact wpAny_truthy_bool ⟨H3, I3, q⟩
def xAnd (ta tb : TE) (σ : St) (H : Hp) (Q : VK) : Prop := ta σ H (onB fun c H1 => if c = true then tb σ H1 Q else Q (.bl false) H1)
def xOr (ta tb : TE) (σ : St) (H : Hp) (Q : VK) : Prop := ta σ H (onB fun c H1 => if c = true then Q (.bl true) H1 else tb σ H1 Q)
def xNot (ta : TE) (σ : St) (H : Hp) (Q : VK) : Prop := ta σ H (onB fun c H1 => Q (.bl (!c)) H1)
theorem ce_and (ha : PE X a ta) (hb : PE X (.BoolOp .And (b :: rest) pos) tb) : PE X (.BoolOp .And (a :: b :: rest) pos) (xAnd ta tb) := by
  intro pins s σ H Q I h
  refine BoolOp_and (thn (ha pins s σ H _ I h) fun v s1 h1 => ?_)
  obtain ⟨x, H1, I1, r1, q1⟩ := h1
  obtain ⟨c, rfl, q⟩ := onB_is q1
  cases r1
  refine wpAny_truthy_bool ?_
  cases c with
  | true => exact hb pins s1 σ H1 Q I1 q
  | false => exact ⟨.bl false, H1, I1, rfl, q⟩
theorem ce_or (ha : PE X a ta) (hb : PE X (.BoolOp .Or (b :: rest) pos) tb) : PE X (.BoolOp .Or (a :: b :: rest) pos) (xOr ta tb) := by
  intro pins s σ H Q I h
  refine BoolOp_or (thn (ha pins s σ H _ I h) fun v s1 h1 => ?_)
  obtain ⟨x, H1, I1, r1, q1⟩ := h1
  obtain ⟨c, rfl, q⟩ := onB_is q1
  cases r1
  refine wpAny_truthy_bool ?_
  cases c with
  | false => exact hb pins s1 σ H1 Q I1 q
  | true => exact ⟨.bl true, H1, I1, rfl, q⟩
theorem ce_not (ha : PE X a ta) : PE X (.UnaryOp .Not a pos) (xNot ta) := by
  intro pins s σ H Q I h
  refine UnaryOp_ (thn (ha pins s σ H _ I h) fun v s1 h1 => ?_)
  obtain ⟨x, H1, I1, r1, q1⟩ := h1
  obtain ⟨c, rfl, q⟩ := onB_is q1
  cases r1
  exact not_of (wpAny_truthy_bool ⟨.bl (!c), H1, I1, rfl, q⟩)
/-! ### built-ins -/
def uAbs (xs : List V) (H : Hp) (Q : VK) : Prop := match xs with
  | [.int i] => Q (.int (if i < 0 then -i else i)) H
  | _ => False
theorem uc_abs : CallR X (.builtin "abs") uAbs := call_imp call_abs fun xs H Q h => by
  unfold uAbs at h
  split at h
  · exact ⟨_, rfl, h⟩
  · exact h.elim
def uMin2 (xs : List V) (H : Hp) (Q : VK) : Prop := match xs with
  | [.int i, .int j] => Q (.int (if j < i then j else i)) H
  | _ => False
theorem uc_min2 (hc : X.calm = true := by rfl) : CallR X (.builtin "min") uMin2 := call_imp (call_min2 hc) fun xs H Q h => by
  unfold uMin2 at h
  split at h
  · exact ⟨_, _, rfl, h⟩
  · exact h.elim
def uMax2 (xs : List V) (H : Hp) (Q : VK) : Prop := match xs with
  | [.int i, .int j] => Q (.int (if j > i then j else i)) H
  | _ => False
@[reducible] def uLen (K : PySem.W.Frag) (xs : List V) (H : Hp) (Q : VK) : Prop := match xs with
  | [.ref p] => ∃ ys, (SqL K H p ys ∨ SqT K H p ys) ∧ Q (.int ys.length) H
  | _ => False
theorem uc_len : CallR X (.builtin "len") (uLen X.K) := call_imp call_len_seq fun xs H Q h => by
  unfold uLen at h
  split at h
  · obtain ⟨ys, h1, h2⟩ := h
    exact ⟨_, ys, rfl, h1, h2⟩
  · exact h.elim
def uInt (xs : List V) (H : Hp) (Q : VK) : Prop := match xs with
  | [.int i] => Q (.int i) H
  | [.bl k] => Q (.int (if k then 1 else 0)) H
  | _ => False
@[reducible] def uList (K : PySem.W.Frag) (xs : List V) (H : Hp) (Q : VK) : Prop := match xs with
  | [.ref p] => ∃ ys, (SqL K H p ys ∨ SqT K H p ys) ∧ ∀ l, H l = none → Q (.ref l) (upd H l (.lst ys))
  | _ => False
/-! ### isinstance of built-in kinds -/
def tyN (H : Hp) (x : V) : Option String := match x with
  | .non => some "NoneType"
  | .bl _ => some "bool"
  | .int _ => some "int"
  | .str _ => some "str"
  | .ref a => match H a with
    | some (.lst _) => some "list"
    | some (.tup _) => some "tuple"
    | some (.dK _) => some "dict"
    | _ => none
  | _ => none
def isB (t c : String) : Bool := t == c || (t == "bool" && c == "int")
def okC (c : String) : Bool := ["int", "bool", "str", "list", "tuple", "dict"].contains c
theorem kit_all (K : PySem.W.Frag) {t c : String} (ht : t ∈ ["NoneType", "bool", "int", "str", "list", "tuple", "dict"]) (hc : c ∈ ["int", "bool", "str", "list", "tuple", "dict"]) : PySem.W.kitOne K (.type t) (.type c) = some (isB t c) := by
  simp only [List.mem_cons, List.not_mem_nil, or_false] at ht hc
  rcases ht with rfl | rfl | rfl | rfl | rfl | rfl | rfl <;> rcases hc with rfl | rfl | rfl | rfl | rfl | rfl <;> with_unfolding_all rfl
def uInst (xs : List V) (H : Hp) (Q : VK) : Prop := match xs with
  | [x, .ty c] => match tyN H x with
    | some t => okC c = true ∧ Q (.bl (isB t c)) H
    | none => False
  | _ => False
theorem uc_isinstance : CallR X (.builtin "isinstance") uInst := by
  intro pins s σ H xs us Q I r h
  unfold uInst at h
  split at h
  · rename_i x c
    split at h
    · rename_i t et
      obtain ⟨hc, q⟩ := h
      obtain ⟨u, w, rfl, rx, rc⟩ := vals2 r
      obtain rfl : w = Value.type c := rc
      have hc' : c ∈ ["int", "bool", "str", "list", "tuple", "dict"] := List.contains_iff_mem.mp hc
      have fin : ∀ tk, EP X pins σ Q (.bool (isB t c)) { s with toks := tk } := fun tk => ⟨.bl (isB t c), H, I.tok tk, rfl, q⟩
      have go : ∀ ty : TyOf X.K H x (.type t), t ∈ ["NoneType", "bool", "int", "str", "list", "tuple", "dict"] → wpAny (model X.prog X.w) X.A (call (.builtin "isinstance") [u, .type c]) (EP X pins σ Q) X.xe s := fun ty ht =>
        isinst_ok I rx ty (kit_all X.K ht hc') fin
      unfold tyN at et
      split at et
      · cases et; exact go .non (by decide)
      · cases et; exact go (.bl _) (by decide)
      · cases et; exact go (.int _) (by decide)
      · cases et; exact go (.str _) (by decide)
      · split at et
        · rename_i a xs e
          cases et; exact go (.lst e) (by decide)
        · rename_i a xs e
          cases et; exact go (.tup e) (by decide)
        · rename_i a kvs e
          cases et; exact go (.dK e) (by decide)
        · cases et
      · cases et
    · exact h.elim
  · exact h.elim
/-! ### places -/
@[reducible] def uIx (K : PySem.W.Frag) (x y : V) (H : Hp) (Q : VK) : Prop := match x, y with
  | .ref p, .int i => ∃ xs v, (SqL K H p xs ∨ SqT K H p xs) ∧ atI xs i = some v ∧ Q v H
  | _, _ => False
theorem ui_ix : IxR X (uIx X.K) := by
  intro value slice pins s σ H x y v u Q I rx ry h hs
  unfold uIx at h
  split at h
  · obtain ⟨xs, v', h1, h2, h3⟩ := h
    rcases h1 with h1 | h1
    · exact ix_list value slice pins s σ H _ _ v u Q I rx ry ⟨_, xs, _, v', rfl, rfl, h1, h2, h3⟩ hs
    · exact ix_tup value slice pins s σ H _ _ v u Q I rx ry ⟨_, xs, _, v', rfl, rfl, h1, h2, h3⟩ hs
  · exact h.elim
@[reducible] def uSl (K : PySem.W.Frag) (x : V) (lo hi : Option Int) (H : Hp) (Q : VK) : Prop := match x with
  | .ref a => ∃ xs, SqL K H a xs ∧ ∀ p, H p = none → Q (.ref p) (upd H p (.lst (cutV xs lo hi)))
  | _ => False
def xPart (t : TE) (σ : St) (H : Hp) (Q : Option Int → Hp → Prop) : Prop := t σ H fun x H1 => match x with
  | .int i => Q (some i) H1
  | _ => False
end
/-! ### calls of the text's own defs -/
/-- a def of the module keeps a promise -/
structure Def (P : Program) (w : World) (K : PySem.W.Frag) (mg : Str → Option Value) (base : Heap) (x : Str) (k : Nat) (ps : List Str) (sp : Sp) : Prop where
  is : ∃ (f : Addr) (fd : FuncData), FnOk P w K mg base CX0 k f fd ps sp ∧ Binds K fd ps [] ∧ mg x = some (.ref f) ∧ PySem.W.keepIn K (.ref f) = true
structure Top (K : PySem.W.Frag) (mg : Str → Option Value) (x : Str) (st : Stmt) (ps : List Str) : Prop where
  is : ∃ (f : Addr) (fd : FuncData), Fun K x x st f fd ∧ Binds K fd ps [] ∧ mg x = some (.ref f)
section
variable {X : Cx} {x : Str} {k : Nat} {ps : List Str} {sp : Sp} {e : Expr} {es : List Expr} {t : TA} {p pos : Pos}
def xCall (sp : Sp) (t : TA) (σ : St) (H : Hp) (Q : VK) : Prop := t σ H fun vs H1 => sp vs H1 Q E0
theorem ce_call (D : Def X.prog X.w X.K X.mg X.base x k ps sp) (hr : Room k X.A) (ha : PA X (e :: es) t) (hg : Gl X x := by rfl) (hdb : (x == ("__debug__" : Str)) = false := by decide)
    (he : starEach (e :: es) X.env = (false, eval e X.env) :: starEach es X.env := by rfl) (hpl : (backTo pos (starEach es X.env)).any (·.1) = false := by rfl) : PE X (.Call (.Name x p) (e :: es) [] pos) (xCall sp t) := by
  intro pins s σ H Q I h
  obtain ⟨f, fd, F, hb, hm, hk⟩ := D.is
  refine wpAny_Call_Name_kw (ld_glob I hg hm ?_ hdb)
  refine PySem.W.callWith_K (h₀ := X.base) I.ok.mod.kin hk (thn (ha pos pins s σ H _ I h) fun us s1 h1 => ?_) he hpl
  obtain ⟨vs, H1, I1, r, q⟩ := h1
  exact ⟨I1.kIn, run_fn (dvs := []) F hr hb .nil pass0 I1 r (by rw [List.append_nil]; exact q)⟩
variable {P : Program} {w : World} {K : PySem.W.Frag} {mg : Str → Option Value} {base : Heap} {N : List Str} {st : Stmt}
theorem mk_def (T : Top K mg x st ps) (S : FnScope N ps (defScope st)) (len : ∀ vs H Q E, sp vs H Q E → vs.length = ps.length)
    (body : ∀ (f : Addr) (cdv : Value) (A : Around) (outer : List Env) (s : Shared) (H : Hp) (vs : List V) (Q : VK) (E : XK), Room k (A.deeper (envOfC x (defScope st) s.heap.objs.size f cdv)) → sp vs H Q E →
      ∃ t, PSs (cxOf CX0 P w K mg base N x (defScope st) f cdv A outer s H E).nox (defBody st) t ∧ t { nx := fun _ H' => Q .non H', rt := Q } (start N vs) H) : Def P w K mg base x (k + 1) ps sp := by
  obtain ⟨f, fd, F, hb, hm⟩ := T.is
  exact ⟨f, fd, F.ok S len fun cdv A outer s H vs Q E hr h => body f cdv A outer s H vs Q E hr h, hb, hm, F.kp⟩
theorem Def.le {j : Nat} (D : Def P w K mg base x j ps sp) (h : j ≤ k) : Def P w K mg base x k ps sp := by
  obtain ⟨f, fd, F, r⟩ := D.is
  exact ⟨f, fd, F.mono h, r⟩
theorem rd {t : TS} {D : Ends} {σ σ' : St} {H : Hp} (e : σ = σ') (h : t D σ' H) : t D σ H := e ▸ h
end
end L2.EX

set_option Elab.async false
set_option linter.all false
set_option maxRecDepth 100000
/-! EXCEPTIONS of the text's own classes, 1: what kind one is. -/
namespace L2.EX
open PySem PySem.Spec PyProof.Rows
open Builtin Builtin.ObjectAttr
def ExcAt (a C : Addr) (h : Heap) : Prop := ∃ o vs, h.get? a = some o ∧ o.cls = .ref C ∧ o.data = .fields vs
structure ExcK (K : PySem.W.Frag) (C : Addr) : Prop where
  ga : PySem.W.findIn K (.ref C) "__getattribute__" = some (some (.builtin "BaseException.__getattribute__"))
  hook : PySem.W.findIn K (.ref C) "__getattr__" = some none
  cls : PySem.W.findIn K (.ref C) "__class__" = some (some (.builtin "object.__class__"))
  get : PySem.W.specialIn K (.builtin "object.__class__") "__get__" = some (some (.builtin "getset_descriptor.__get__"))
  take : PySem.W.takesIn K (.builtin "object.__class__") = some true
  obj : PySem.W.mroIn K C (.type "object") = some true
  bas : PySem.W.mroIn K C (.type "BaseException") = some true
  is : (PySem.W.clsIn K C).isSome = true
section
variable {K : PySem.W.Frag} {a C : Addr} {h : Heap} {M : Model}
theorem ExcAt.type (x : ExcAt a C h) : PySem.W.Looks M h (typeOf (.ref a)) (.ref C) := by
  obtain ⟨o, vs, e, c, _⟩ := x
  exact c ▸ (PySem.W.Looks.ld e).andThen .now
theorem ExcK.look (Z : ExcK K C) (X : K.In h) : PySem.W.Looks M h (find (.ref a) (.ref C) "__class__") (.bind (.builtin "getset_descriptor.__get__") (.builtin "object.__class__")) := by
  have l1 := PySem.W.looks_findIn (M := M) X Z.cls
  have l2 : PySem.W.Looks M h (getOf (some (.builtin "object.__class__"))) (some (.builtin "getset_descriptor.__get__")) := PySem.W.looks_specialIn X Z.get
  have l3 : PySem.W.Looks M h (dataDescriptor? (some (.builtin "object.__class__")) (some (.builtin "getset_descriptor.__get__"))) (some (.builtin "getset_descriptor.__get__", .builtin "object.__class__")) :=
    (PySem.W.looks_takesIn X Z.take).andThen .now
  exact l1.andThen (l2.andThen (l3.andThen (PySem.W.Looks.tag .now)))
theorem ExcK.isT (Z : ExcK K C) (X : K.In h) : PySem.W.Looks M h (isType (.ref C)) true := by
  have z := Z.is
  unfold PySem.W.clsIn at z
  split at z
  · rename_i c1 d1 cd1 sl1 ho
    intro A1 Q1 E1 s1 k q
    unfold isType loadHead
    exact wpAny_bind (wpAny_loadPart (k _ _ (X _ _ ho)) (wpAny_pure q))
  · cases z
end
section
variable {prog : Program} {w : World} {A : Around} {E : Value → Shared → Prop} {s : Shared} {K : PySem.W.Frag} {a C : Addr}
theorem exc_get {tp : Value} {R : Result → Shared → Prop} (Z : ExcK K C) (X : K.In s.heap) (x : ExcAt a C s.heap) (q : R (.ok (.ret (.ref C))) s) :
    codeAny (model prog w) A (.call (.builtin "getset_descriptor.__get__") ⟨[.builtin "object.__class__", .ref a, tp], []⟩) R s := by
  obtain ⟨hh, g, dr, t, os⟩ := s
  have L0 := x.type (M := model prog w)
  have L1 := PySem.W.looks_mroIn (M := model prog w) X Z.obj
  refine codeAny_call_builtin PySem.W.KF.slot_gs.plain PySem.W.KF.entry_gs (PySem.W.KF.slot_gs.check _ _ _ _ _ _ _ _ PySem.W.KF.type_class (PySem.W.KF.args_gs _ _ _) ?_)
  unfold Builtin.«getset_descriptor.__get__» Builtin.Getset_descriptor.descrGet
  rw [PySem.W.dga_obj]
  refine wpAny_bind (wpAny_pure ?_)
  unfold Builtin.Getset_descriptor.descrGetter Builtin.Getset_descriptor.descrCheckInstance Builtin.Getset_descriptor.descrNameAndClass isInstance
  simp only [PySem.W.KF.owner_class]
  repeat lk
  refine ⟨Code.quiet_builtin _ (by decide +kernel), codeAny_builtin PySem.W.KF.entry_class ?_⟩
  unfold Builtin.«object.__class__» shownTypeOf
  repeat lk
  exact q
theorem exc_body {tk : Tok} {Q : Fin → Shared → Prop} (Z : ExcK K C) (X : K.In s.heap) (x : ExcAt a C s.heap) (q : Q (.done (.ret (.ref C))) s) :
    wpAny (model prog w) A (Builtin.«object.__getattribute__» ⟨[.ref a, .str "__class__" tk], []⟩) Q E s := by
  obtain ⟨hh, g, dr, t, os⟩ := s
  have L0 := x.type (M := model prog w)
  have L1 := Z.look (M := model prog w) (a := a) X
  unfold Builtin.«object.__getattribute__»
  repeat (fail_if_success (with_reducible show wpAny _ _ (call _ _) _ _ _)); lk
  exact wpAny_call (exc_get Z X x (wpAny_pure q))
theorem ga_kind : builtinKind "BaseException.__getattribute__" = some .slot := by decide +kernel
theorem ga_split : splitId "BaseException.__getattribute__" = some ("BaseException", "__getattribute__") := by decide +kernel
theorem exc_check {v : Value} {Q : Unit → Shared → Prop} (Z : ExcK K C) (X : K.In s.heap) (x : ExcAt a C s.heap) (q : Q () s) : wpAny (model prog w) A (checkBuiltinCall "BaseException.__getattribute__" ⟨[.ref a, v], []⟩) Q E s := by
  have L : PySem.W.Looks (model prog w) s.heap (isInstance (.ref a) (.type "BaseException")) true := x.type.andThen (PySem.W.looks_mroIn X Z.bas)
  have ha := PySem.F.args_bexc_ga (.ref a) v
  exact PySem.W.check_slot (M := model prog w) (A := A) (E := E) (s := s) (i := "BaseException.__getattribute__") (owner := "BaseException") (n := "__getattribute__") (self := .ref a) (rest := [v]) (kw := []) (Q := Q) ga_kind ga_split L ha q
theorem exc_call {tk : Tok} {R : Result → Shared → Prop} (Z : ExcK K C) (X : K.In s.heap) (x : ExcAt a C s.heap) (q : R (.ok (.ret (.ref C))) s) :
    codeAny (model prog w) A (.call (.builtin "BaseException.__getattribute__") ⟨[.ref a, .str "__class__" tk], []⟩) R s :=
  codeAny_call_builtin PySem.F.attr_ValueError.ga.plain PySem.F.entry_bexc_ga (exc_check Z X x (exc_body Z X x q))
theorem exc_class {Q : Option Value → Shared → Prop} (Z : ExcK K C) (X : K.In s.heap) (x : ExcAt a C s.heap) (q : Q (some (.ref C)) { s with toks := s.toks + 1 }) : wpAny (model prog w) A (getAttr? (.ref a) "__class__") Q E s := by
  obtain ⟨hh, g, dr, t, os⟩ := s
  have L0 := x.type (M := model prog w)
  have L1 := PySem.W.looks_findIn (M := model prog w) X Z.ga
  have L2 := PySem.W.looks_findIn (M := model prog w) X Z.hook
  unfold getAttr? getAttrBy? getAttrBy
  refine wpAny_bind (wpAny_mkText (wpAny_bind (wpAny_attempt (wpAny_holding (wpAny_bind (L0.at (wpAny_bind (L1.at ?_))))))))
  have e1 : (Value.builtin "BaseException.__getattribute__" == Value.builtin "object.__getattribute__") = false := by decide +kernel
  have e2 : (onTheHeap (Value.ref C) && Value.builtin "BaseException.__getattribute__" == Value.builtin "object.__getattribute__") = false := by rw [e1]; rfl
  dsimp only
  rw [e2]
  simp only [Bool.false_eq_true, if_false]
  unfold getAttrByItsOwn hookBefore
  refine wpAny_bind ?_
  show wpAny _ _ (typeLookup (.ref C) "__getattr__") _ _ _
  refine L2.at ?_
  refine wpAny_bind (wpAny_attempt (wpAny_holding ?_))
  show wpAny _ _ (boundAndCalled _ _ _) _ _ _
  unfold boundAndCalled
  refine wpAny_bind (wpAny_of_eq (PySem.F.attr_ValueError.ga.bind (.ref a)) ?_)
  refine wpAny_call (exc_call Z X x ?_)
  show wpAny _ _ (handedOut (.ref C)) _ _ _
  exact wpAny_pure (wpAny_pure q)
theorem kitx_exc (Z : ExcK K C) : PySem.W.KitX K (.ref a) (.ref C) (ExcAt a C) where
  ty := fun _ _ _ x => x.type
  it := fun _ _ X _ => Z.isT X
  ne := fun h tp dd its n sl X htp => by
    refine Bool.eq_false_iff.mpr fun q => ?_
    have e : C = tp := Value.ref.inj (beq_iff_eq.mp q)
    subst e
    have z := Z.is
    unfold PySem.W.clsIn at z
    split at z
    · rename_i c1 d1 cd1 sl1 ho
      have y := (X _ _ ho).symm.trans htp
      cases y
    · cases z
  ca := fun X x k => exc_class Z X x k
end
def ExcO (a C : Addr) : HO := .ext (ExcAt a C)
theorem exc_ok {P : Program} {w : World} {H : Hp} {h : Heap} {a C : Addr} (x : ExcAt a C h) : ObjOk P w H h a (ExcO a C) := by
  refine ⟨x, ?_, fun h1 h2 y k => ?_⟩
  · obtain ⟨o, vs, e, _⟩ := x
    exact ⟨o, e⟩
  · obtain ⟨o, vs, e, r⟩ := y
    exact ⟨o, vs, k _ e, r⟩
section
variable {X : Cx}
theorem Inv.exc {pins : List (Addr × Obj)} {σ : St} {H : Hp} {s : Shared} {a C : Addr} (I : Inv X pins σ H s) (e : H a = some (ExcO a C)) : ExcAt a C s.heap := (I.hok a _ e).1
@[reducible] def uIsi (K : PySem.W.Frag) (xs : List V) (H : Hp) (Q : VK) : Prop := match xs with
  | [.ref a, .ref D] => ∃ C b, H a = some (ExcO a C) ∧ ExcK K C ∧ PySem.W.kitOne K (.ref C) (.ref D) = some b ∧ Q (.bl b) H
  | [.ref a, .ty T] => ∃ C b, H a = some (ExcO a C) ∧ ExcK K C ∧ PySem.W.kitOne K (.ref C) (.type T) = some b ∧ Q (.bl b) H
  | _ => False
theorem uc_isi : CallR X (.builtin "isinstance") (uIsi X.K) := by
  intro pins s σ H xs us Q I r h
  unfold uIsi at h
  split at h
  · obtain ⟨C, b, h1, h2, h3, h4⟩ := h
    obtain ⟨u, v, rfl, rx, rc⟩ := vals2 r
    cases rx
    cases rc
    exact PySem.W.kia_one (kitx_exc h2) I.kIn (Inv.exc I h1) h3 (by intro q; cases q) fun tk => ⟨.bl b, H, I.tok tk, rfl, h4⟩
  · obtain ⟨C, b, h1, h2, h3, h4⟩ := h
    obtain ⟨u, v, rfl, rx, rc⟩ := vals2 r
    cases rx
    cases rc
    exact PySem.W.kia_one (kitx_exc h2) I.kIn (Inv.exc I h1) h3 (by intro q; cases q) fun tk => ⟨.bl b, H, I.tok tk, rfl, h4⟩
  · exact h.elim
end
end L2.EX

set_option Elab.async false
set_option linter.all false
set_option maxRecDepth 100000
/-! EXCEPTIONS, 2: one is raised and leaves the def. -/
namespace L2.EX
open PySem PySem.Spec PyProof.Rows
def bmV : List Value := [.type "ValueError", .type "Exception", .type "BaseException", .type "object"]
structure ExcD (K : PySem.W.Frag) (mg : Str → Option Value) (x : Str) (C : Addr) : Prop where
  mg : mg x = some (.ref C)
  is : PySem.W.excIn K C bmV "ValueError.__new__" = true
  k : ExcK K C
def CXr (P : Program) (w : World) (C : Addr) : CXT := fun outer H s _ e s' => ∃ a t B, e = .ref a ∧ s'.os = s.os ∧ AllBare s'.gens ∧ Heap.FlyingW B outer a (.ref C) t s'.heap ∧ s.heap.get? a = none ∧ H a = none ∧
  ∀ h3 : Heap, B.StaysIn h3 → s'.heap.UpToSlots h3 → Un (frs outer) [] H H s.heap h3 ∧ HOk P w H h3
theorem ObjOk.some {P : Program} {w : World} {H : Hp} {h : Heap} {a : Addr} {o : HO} (x : ObjOk P w H h a o) : ∃ ob, h.get? a = .some ob := by
  cases o with
  | lst xs => obtain ⟨_, _, _, _, e⟩ := x; exact ⟨_, e⟩
  | tup xs => obtain ⟨_, _, _, _, e, _⟩ := x; exact ⟨_, e⟩
  | dK kvs => obtain ⟨_, _, _, _, o, _, _, e, _⟩ := x; exact ⟨_, e⟩
  | dT kvs => obtain ⟨_, _, _, _, o, _, _, e, _⟩ := x; exact ⟨_, e⟩
  | set S n => obtain ⟨o, _, _, _, e, _⟩ := x; exact ⟨_, e⟩
  | ins C dx fs => obtain ⟨_, _, _, e, _⟩ := x; exact ⟨_, e⟩
  | own y => obtain ⟨_, e⟩ := x; exact ⟨_, e⟩
  | xd fs => obtain ⟨_, ⟨_, _, _, e, _⟩, _⟩ := x; exact ⟨_, e⟩
  | rng lo hi => obtain ⟨_, _, _, e⟩ := x; exact ⟨_, e⟩
  | frz ob u => obtain ⟨e, _⟩ := x; exact ⟨_, e⟩
  | tbl ps => exact ⟨_, x⟩
  | met f y => exact ⟨_, x⟩
  | ext φ => obtain ⟨_, ⟨_, e⟩, _⟩ := x; exact ⟨_, e⟩
section
variable {X : Cx} {x : Str} {C : Addr} {e : Expr} {es : List Expr} {t : TA} {np cpos pos : Pos}
theorem own_mk {K : PySem.W.Frag} {mg : Str → Option Value} {h : Heap} (D : ExcD K mg x C) (W : K.In h) : OwnCls x C bmV "ValueError.__new__" mg h := by
  refine ⟨D.mg, ?_⟩
  have q := D.is
  unfold PySem.W.excIn at q
  split at q
  · rename_i di cl st lk
    split at q
    · rename_i C2 tl g0 g1 g2 g3 nw g5 em es'
      simp only [Bool.and_eq_true, beq_iff_eq, Bool.not_eq_true'] at q
      obtain ⟨⟨⟨⟨⟨rfl, rfl⟩, q3⟩, q4⟩, q5⟩, q6⟩ := q
      obtain ⟨c1, c2, c3, c4, c5, c6, c7, c8, c9, c10, c11⟩ := cl
      dsimp only at em q3 q5 q6
      subst em q3
      have est : st = #[g0, g1, g2, g3, some (.builtin "ValueError.__new__"), g5] := by
        obtain ⟨l⟩ := st
        exact congrArg Array.mk es'
      subst est
      exact ⟨tl, c4, c1, c5, c2, c6, c7, c8, c9, c10, di, g0, g1, g2, g3, g5, _, W _ _ lk, .of_isNs (PySem.W.isNs_of_in W q5), PySem.W.nsMap_none_of_in W q5 q6, PySem.W.tail_of_in W q4⟩
    · cases q
  · cases q
def xRaise (R : Hp → Prop) (t : TA) (D : Ends) (σ : St) (H : Hp) : Prop := t σ H fun vs H1 => vs.length ≤ sizeLine ∧ R H1
theorem cs_raise (O : ExcD X.K X.mg x C) (R : Hp → Prop) (ha : PA X (e :: es) t)
    (hxe : ∀ (pins : List (Addr × Obj)) (σ : St) (H1 : Hp) (s : Shared) (h' : Heap) (a : Addr) (us : List Value), Inv X pins σ H1 s → R H1 → Heap.MadeExcOf s.heap h' a (.ref C) us → X.xe (.ref a) { s with heap := h' })
    (hc : X.calm = true := by rfl) (hg : Gl X x := by rfl) (hdb : (x == ("__debug__" : Str)) = false := by decide)
    (he : starEach (e :: es) X.env = (false, eval e X.env) :: starEach es X.env := by rfl) (hpl : (backTo cpos (starEach es X.env)).any (·.1) = false := by rfl) :
    PS X (.Raise (some (.Call (.Name x np) (e :: es) [] cpos)) none pos) (xRaise R t) := by
  intro pins s σ H D I hw
  obtain ⟨bm, N, nm, q, bs, hdct, sn, sub, ab, col, dd, k0, k1, k2, k3, k5, mN, hC, hN, hni, T⟩ := (own_mk O I.mod.kin).obj
  refine wpAny_Raise_call_subT (C := C) (nm := nm) (q := q) (N := N) (bs := bs) (bm := bm) (hdct := hdct) (sn := sn) (sub := sub) (ab := ab) (col := col) (dd := dd) (k0 := k0) (k1 := k1) (k2 := k2) (k3 := k3) (k5 := k5) (mN := mN)
    PySem.F.excBase_ValueError (T.hasType PySem.F.excBase_ValueError.hasBase) (I.ok.hd hc) ?_ hni (ld_glob I hg O.mg ⟨rfl, ?_⟩ hdb)
  · rw [he]
    show (false || (backTo cpos (starEach es X.env)).any (·.1)) = false
    rw [hpl]
    rfl
  · have h2 := ha cpos pins s σ H _ I hw
    rw [he] at h2 ⊢
    refine Calls.evalArgs_plain (thn h2 fun us s1 h1 => ?_)
    obtain ⟨vs, H1, I1, r, z, q⟩ := h1
    exact ⟨rfl, by rw [← r.length]; exact z, I1.bk _ _ hC, hN.keeps I1.bk, T.keeps I1.bk, fun h' a m => hxe pins σ H1 s1 h' a us I1 q m⟩
end
section
variable {P : Program} {w : World} {K : PySem.W.Frag} {mg : Str → Option Value} {base : Heap} {N : List Str} {qual : Str} {scope : Scope} {f C : Addr} {cdv : Value} {A : Around} {outer : List Env} {s : Shared} {H : Hp} {E : XK}
theorem leave_r : ∀ (pins : List (Addr × Obj)) (σ : St) (H1 : Hp) (s1 : Shared) (h' : Heap) (a : Addr) (us : List Value), Inv (cxOf (CXr P w C) P w K mg base N qual scope f cdv A outer s H E) pins σ H1 s1 → H1 = H →
    Heap.MadeExcOf s1.heap h' a (.ref C) us → (cxOf (CXr P w C) P w K mg base N qual scope f cdv A outer s H E).xe (.ref a) { s1 with heap := h' } := by
  intro pins σ H1 s1 h' a us I eH hx
  subst eH
  have fr1 := I.stack
  have hin : ∀ env ∈ (envOfC qual scope s.heap.objs.size f cdv :: outer), ∀ b, env.frame = some b → b ∈ (envOfC qual scope s.heap.objs.size f cdv :: outer).filterMap (·.frame) := fun env he b hb => List.mem_filterMap.mpr ⟨env, he, hb⟩
  have hB : ∀ {b : Addr} {o : Obj}, s1.heap.get? b = some o → b ∉ (envOfC qual scope s.heap.objs.size f cdv :: outer).filterMap (·.frame) → (PySem.W.hideAll s1.heap ((envOfC qual scope s.heap.objs.size f cdv :: outer).filterMap (·.frame))).get? b = some o :=
    fun e n => PySem.W.hideAll_get _ e n
  have own : ∀ {b : Addr}, b ∉ frs outer → b < s.heap.objs.size → b ∉ (envOfC qual scope s.heap.objs.size f cdv :: outer).filterMap (·.frame) := fun {b} h1 h2 hm => by
    obtain ⟨env, he, hf⟩ := List.mem_filterMap.mp hm
    rcases List.mem_cons.mp he with rfl | he
    · exact Nat.lt_irrefl _ (Nat.lt_of_lt_of_le h2 (Nat.le_of_eq (Option.some.inj hf)))
    · exact h1 (List.mem_filterMap.mpr ⟨env, he, hf⟩)
  have new1 : s1.heap.get? a = none := hx.new
  show wpAny _ _ (leaving _ _) _ _ _
  refine wpAny_leaves_madeW (h := s1.heap) I.ok.frames rfl (fun b o q => PySem.W.of_hideAll _ q) (PySem.W.funFrames_hide fr1 hin) hx fun h2 t x1 x2 x3 x4 => ?_
  refine ⟨a, .ref t, _, rfl, I.os, I.bare, x1, ?_, ?_, fun h3 st up => ⟨⟨fun b o e n hb hx' => ?_, fun b o e n hb hx' => ?_, I.base.free, fun b o e hx' => ?_, I.base.tups, I.base.frzs, I.base.tbls⟩, fun b o e => ?_⟩⟩
  · cases q : s.heap.get? a with
    | none => rfl
    | some o =>
      obtain ⟨o', e1⟩ := I.base.there a o q (by simp [cxOf])
      rw [new1] at e1
      cases e1
  · cases q : H1 a with
    | none => rfl
    | some o =>
      obtain ⟨o', e1⟩ := ObjOk.some (I.hok a o q)
      rw [new1] at e1
      cases e1
  · exact st _ _ (hB (I.base.keep b o e n hb (by simp [cxOf])) (own hb (Heap.lt_size e)))
  · obtain ⟨sl, e1⟩ := I.base.slot b o e n hb (by simp [cxOf])
    obtain ⟨_, o', e2, nf⟩ := I.ok.funs.mem hb
    have e2' : s.heap.get? b = some o' := e2
    rw [e] at e2'
    cases e2'
    obtain ⟨sl2, e3⟩ := x4 b _ (hx.keeps _ _ e1) nf
    obtain ⟨sl3, e4⟩ := up b _ e3 nf
    exact ⟨sl3, e4⟩
  · by_cases hb : b ∈ frs outer
    · have n : H1 b = none := I.ok.frf b hb
      obtain ⟨sl, e1⟩ := I.base.slot b o e n hb (by simp [cxOf])
      obtain ⟨_, o', e2, nf⟩ := I.ok.funs.mem hb
      have e2' : s.heap.get? b = some o' := e2
      rw [e] at e2'
      cases e2'
      obtain ⟨sl2, e3⟩ := x4 b _ (hx.keeps _ _ e1) nf
      obtain ⟨sl3, e4⟩ := up b _ e3 nf
      exact ⟨_, e4⟩
    · obtain ⟨o', e1⟩ := I.base.there b o e (by simp [cxOf])
      exact ⟨o', st _ _ (hB e1 (own hb (Heap.lt_size e)))⟩
  · have trk : ∀ c u, H1 c ≠ none → s1.heap.get? c = some u → h3.get? c = some u := fun c u n e1 => st _ _ (hB e1 fun hm => n (I.stkFree c hm))
    refine (I.hok b o e).stay (fun c u hc q => ?_) (fun _ q => q) fun _ _ q => q
    rcases hc with z | z
    · exact trk c u (by rw [z, e]; simp) q
    · exact trk c u (by rw [z]; simp) q
end
structure DefX (P : Program) (w : World) (K : PySem.W.Frag) (mg : Str → Option Value) (base : Heap) (x : Str) (C : Addr) (k : Nat) (ps : List Str) (bad : List V → Prop) : Prop where
  is : ∃ (f : Addr) (fd : FuncData), FnOk P w K mg base (CXr P w C) k f fd ps (fun vs _ _ _ => bad vs ∧ vs.length = ps.length) ∧ Binds K fd ps [] ∧ mg x = some (.ref f) ∧ PySem.W.keepIn K (.ref f) = true
theorem mk_defX {P : Program} {w : World} {K : PySem.W.Frag} {mg : Str → Option Value} {base : Heap} {x : Str} {C : Addr} {k : Nat} {ps N : List Str} {st : Stmt} {bad : List V → Prop} (T : Top K mg x st ps) (S : FnScope N ps (defScope st))
    (body : ∀ (f : Addr) (cdv : Value) (A : Around) (outer : List Env) (s : Shared) (H : Hp) (vs : List V) (Q : VK) (E : XK), Room k (A.deeper (envOfC x (defScope st) s.heap.objs.size f cdv)) → bad vs →
      ∃ t, PSs (cxOf (CXr P w C) P w K mg base N x (defScope st) f cdv A outer s H E) (defBody st) t ∧ t { nx := fun _ H' => Q .non H', rt := Q } (start N vs) H) : DefX P w K mg base x C (k + 1) ps bad := by
  obtain ⟨f, fd, F, hb, hm⟩ := T.is
  refine ⟨f, fd, ?_, hb, hm, F.kp⟩
  obtain ⟨oc, od, kV, doc, pm, an, cdv, ct, osl, rfl, lk, hcd⟩ := F.ex
  exact fn_of lk hcd S (fun vs H Q E h => h.2) fun A outer s H vs Q E hr h => body f cdv A outer s H vs Q E hr h.1
end L2.EX

set_option Elab.async false
set_option linter.all false
set_option maxRecDepth 100000
/-! EXCEPTIONS, 3: one is caught. -/
namespace L2.EX
open PySem PySem.Spec PyProof.Rows
structure ExcY (K : PySem.W.Frag) (mg : Str → Option Value) (y : Str) (D C : Addr) : Prop where
  mg : mg y = some (.ref D)
  ty : PySem.W.typeIn K (.ref D) = some (.type "type")
  is : (PySem.W.clsIn K D).isSome = true
  bas : PySem.W.mroIn K D (.type "BaseException") = some true
  up : PySem.W.mroIn K C (.ref D) = some true
theorem exc_hits {K : PySem.W.Frag} {mg : Str → Option Value} {y : Str} {D C a : Addr} {M : Model} {A : Around} {E : Value → Shared → Prop} {s : Shared} {Q : Bool → Shared → Prop} (Y : ExcY K mg y D C) (W : K.In s.heap) (x : ExcAt a C s.heap) (q : Q true s) :
    wpAny M A (excMatches (.ref a) (.ref D)) Q E s := by
  obtain ⟨hh, g, dr, t, os⟩ := s
  have L0 : PySem.W.Looks M hh (isInstance (.ref D) (.type "tuple")) false := (PySem.W.looks_typeIn W Y.ty).andThen (PySem.W.Looks.of_pure tc_notTuple)
  have L1 : PySem.W.Looks M hh (isType (.ref D)) true := by
    have z := Y.is
    unfold PySem.W.clsIn at z
    split at z
    · rename_i c1 d1 cd1 sl1 ho
      intro A1 Q1 E1 s1 k q
      unfold isType loadHead
      exact wpAny_bind (wpAny_loadPart (k _ _ (W _ _ ho)) (wpAny_pure q))
    · cases z
  have L2 := PySem.W.looks_mroIn (M := M) W Y.bas
  have L3 := x.type (M := M)
  have L4 := PySem.W.looks_mroIn (M := M) W Y.up
  unfold excMatches
  repeat lk
  exact q
abbrev Cx.held (X : Cx) (a : Addr) : Cx := { X with A := X.A.mark (some (.ref a)), calm := false, xe := fun _ _ => False }
section
variable {X : Cx} {pins : List (Addr × Obj)} {σ : St} {H : Hp} {s : Shared} {a : Addr}
theorem Inv.held (I : Inv X pins σ H s) (a : Addr) : Inv (Cx.held X a) pins σ H s :=
  ⟨⟨I.ok.mod, I.ok.kind, I.ok.glob, I.ok.blt, I.ok.above, I.ok.inj, I.ok.has, I.ok.cab, (fun z => nomatch z), I.ok.frames, I.ok.stk, I.ok.exf, I.ok.bs, I.ok.bsz, I.ok.noex, I.ok.exfs, I.ok.funs, I.ok.frf⟩, I.os, I.bare, I.base, I.loc, I.cell, I.free, I.freeC, I.pin, I.hok, I.len⟩
theorem Inv.unheld (I : Inv (Cx.held X a) pins σ H s) (ok : X.Ok) : Inv X pins σ H s := ⟨ok, I.os, I.bare, I.base, I.loc, I.cell, I.free, I.freeC, I.pin, I.hok, I.len⟩
theorem Inv.gone {i : Nat} {n : Str} {m : Str → Option Value} {v : Option Value} {h' : Heap} {tk : Nat} (I : Inv X pins σ H s) (nd : X.N.Nodup) (hi : X.N[i]? = some n) (hn : s.heap.Ns X.env.locals m)
    (hl : ∀ (j : Nat) (x : Str) (v : V), X.N[j]? = some x → σ[j]? = some (some v) → Vis X.env.scope x → ∃ u, RelV v u ∧ Look X.env s.heap m x u)
    (hn' : h'.Ns X.env.locals (fun x => if x = n then v else m x)) (same : Heap.SameBut X.env.locals s.heap h') : Inv X pins (σ.set i none) H { s with heap := h', toks := tk } := by
  have lo : ∀ b o, X.s₀.heap.get? b = some o → b ≠ X.env.locals := fun b o e => Nat.ne_of_lt (Nat.lt_of_lt_of_le (Heap.lt_size e) I.ok.above)
  refine ⟨I.ok, I.os, I.bare, ⟨fun b o e n hb hx => ?_, fun b o e n hb hx => ?_, I.base.free, fun b o e hx => ?_, I.base.tups, I.base.frzs, I.base.tbls⟩, ⟨_, hn', fun j y u e1 e2 e3 => ?_⟩, fun y c e => ?_, I.free, I.freeC, fun p hp => ?_, fun b o e => ?_, by simpa using I.len⟩
  · exact (same.2 b (lo b o e)).trans (I.base.keep b o e n hb hx)
  · obtain ⟨sl, e1⟩ := I.base.slot b o e n hb hx
    exact ⟨sl, (same.2 b (lo b o e)).trans e1⟩
  · obtain ⟨o', e1⟩ := I.base.there b o e hx
    exact ⟨o', (same.2 b (lo b o e)).trans e1⟩
  · by_cases hj : j = i
    · subst hj
      rw [List.getElem?_set] at e2
      split at e2
      · split at e2
        · cases e2
        · cases e2
      · exact absurd rfl ‹_›
    · rw [List.getElem?_set_ne (Ne.symm hj)] at e2
      obtain ⟨u', r', q⟩ := hl j y u e1 e2 e3
      refine ⟨u', r', ?_⟩
      rcases q with ⟨k, e⟩ | ⟨k, c, e, z⟩
      · refine .inl ⟨k, ?_⟩
        have ne : y ≠ n := fun e => hj (nodup_ix nd e1 (e ▸ hi))
        simp [ne, e]
      · exact .inr ⟨k, c, e, z.sameBut same (I.cne y c e)⟩
  · obtain ⟨w', z⟩ := I.cell y c e
    exact ⟨w', z.sameBut same (I.cne y c e)⟩
  · obtain ⟨e, n, ne, nf, d⟩ := I.pin p hp
    exact ⟨(same.2 p.1 ne).trans e, n, ne, nf, d⟩
  · refine (I.hok b o e).stay (fun c w' hc q => (same.2 c ?_).trans q) (fun _ q => q) fun _ _ q => q
    rintro rfl
    rcases hc with rfl | hc
    · rw [I.free] at e; cases e
    · rw [I.free] at hc; cases hc
theorem Inv.caught {C : Addr} {s' : Shared} (I : Inv X pins σ H s) (ho : s'.os = s.os) (hg : AllBare s'.gens) (u : Un (frs X.stack) [] H H s.heap s'.heap) (k : HOk X.prog X.w H s'.heap) (n1 : s.heap.get? a = none) (n2 : H a = none)
    (x : ExcAt a C s'.heap) : Inv X pins σ (upd H a (ExcO a C)) s' := by
  refine I.call' (ch := []) ho ⟨u.keep, u.slot, fun b o e n hx => ?_, u.there, fun b xs e => ?_, fun b o v e => ?_, fun b ps e => ?_⟩ (fun b o e => ?_) hg (fun b z => absurd z (by simp))
  · rw [upd_ne (fun z => by rw [z, n1] at e; cases e)]
    exact u.free b o e n hx
  · rw [upd_ne (ne_of_none e n2)]
    exact u.tups b xs e
  · rw [upd_ne (ne_of_none e n2)]
    exact u.frzs b o v e
  · rw [upd_ne (ne_of_none e n2)]
    exact u.tbls b ps e
  · by_cases z : b = a
    · subst z
      rw [upd_same] at e
      cases e
      exact exc_ok x
    · rw [upd_ne z] at e
      exact (k b o e).stay (fun _ _ _ q => q) (fun c q => by rw [upd_ne (ne_of_none q n2)]; exact q) fun c xs q => by rw [upd_ne (ne_of_none q n2)]; exact q
end
section
variable {X : Cx} {fx y n : Str} {C D : Addr} {i k : Nat} {ps : List Str} {bad : List V → Prop} {e : Expr} {es : List Expr} {t : TA} {b₀ : Stmt} {suite : List Stmt} {ts : TS} {fp cpos xpos np hpos tpos : Pos}
def xTry (i C : Nat) (ps : List Str) (bad : List V → Prop) (t : TA) (ts : TS) (D : Ends) (σ : St) (H : Hp) : Prop := t σ H fun vs H1 => bad vs ∧ vs.length = ps.length ∧
  ∀ a, H1 a = none → ts { nx := fun σ' H' => D.nx (σ'.set i none) H', rt := D.rt } (σ.set i (some (.ref a))) (upd H1 a (ExcO a C))
theorem cs_try (i : Nat) (nd : X.N.Nodup) (F : DefX X.prog X.w X.K X.mg X.base fx C k ps bad) (hr : Room k X.A) (ha : PA X (e :: es) t) (Y : ExcY X.K X.mg y D C) (hs : ∀ a, PSs (Cx.held X a) (b₀ :: suite) ts)
    (hi : X.N[i]? = some n := by rfl) (hlo : X.env.scope.names.lookup n = some .local := by rfl) (hgf : Gl X fx := by rfl) (hgy : Gl X y := by rfl) (hdf : (fx == ("__debug__" : Str)) = false := by decide) (hdy : (y == ("__debug__" : Str)) = false := by decide)
    (hst : X.stack = X.env :: X.outer := by rfl) (hfr : X.env.frame = some X.env.locals := by rfl) (hxe : ∀ v s', X.xe v s' → False := by intro _ _ z; exact z)
    (he : starEach (e :: es) X.env = (false, eval e X.env) :: starEach es X.env := by rfl) (hpl : (backTo cpos (starEach es X.env)).any (·.1) = false := by rfl) (hsw : swapsWith (.Call (.Name fx fp) (e :: es) [] cpos) none xpos.line X.env = pure false := by rfl) :
    PS X (.Try [.Expr (.Call (.Name fx fp) (e :: es) [] cpos) xpos] [.ExceptHandler (some (.Name y np)) (some n) (b₀ :: suite) hpos] [] [] tpos) (xTry i C ps bad t ts) := by
  intro pins s σ H Dn I hw
  obtain ⟨f, fd, G, hb, hm, hk⟩ := F.is
  refine wpAny_Try_except (wpAny_execs_cons (wpAny_Expr_any ?_ I.quiet hsw))
  refine wpAny_Call_Name_kw (ld_glob I hgf hm ?_ hdf)
  refine PySem.W.callWith_K (h₀ := X.base) I.ok.mod.kin hk (wpAny_mono (ha cpos pins s σ H _ I hw) (fun us s1 h1 => ?_) (fun v s' z => (hxe v s' z).elim)) he hpl
  obtain ⟨vs, H1, I1, r, q1, q2, q3⟩ := h1
  refine ⟨I1.kIn, wpAny_call (codeAny_mono (G.run X.A X.stack s1 H1 ⟨us, []⟩ us vs (fun _ _ => False) (fun _ _ _ => True) hr I1.env0 (by
    have z := hb s1 us I1.kIn (by rw [List.append_nil, ← r.length]; exact q2)
    rw [List.append_nil] at z
    exact z) r ⟨q1, q2⟩) fun rs s2 hq => ?_)⟩
  cases rs with
  | ok fl =>
    cases fl with
    | ret u =>
      obtain ⟨_, _, _, _, _, _, _, z⟩ := hq
      exact z.elim
    | next => exact False.elim hq
    | brk => exact False.elim hq
    | cont => exact False.elim hq
  | error ex =>
    obtain ⟨a, a0, B, rfl, os2, br2, fly, n1, n2, cl⟩ := hq
    have hfrm : X.A.frames = some (X.env :: X.outer) := by rw [← hst]; exact I.ok.frames
    rw [hst] at fly
    refine wpAny_looks_onW hfrm hfr fly fun h4 held4 up4 => ?_
    refine wpAny_landsW held4 fun h5 fly5 up5 => ?_
    have c5 := cl h5 fly5.1 (up4.trans up5)
    have at_ : ∀ {h6 : Heap}, Heap.FlyingW B (X.env :: X.outer) a (.ref C) a0 h6 → ExcAt a C h6 := fun z => by
      obtain ⟨oe, ws, w1, w2, w3, _⟩ := z.first
      exact ⟨oe, ws, w1, w2, w3⟩
    have I5 : Inv X pins σ (upd H1 a (ExcO a C)) { s2 with heap := h5 } := Inv.caught I1 os2 br2 c5.1 c5.2 n1 n2 (at_ fly5)
    refine wpAny_handleBy_cons (codeAny_handlers_test ?_) (by intro q; cases q)
    refine ld_glob (X := Cx.held X a) (Inv.held I5 a) hgy Y.mg ?_ hdy
    refine exc_hits Y I5.kIn (at_ fly5) ?_
    refine codeAny_handlers_suite_as ?_
    refine lands_againW fly5 fun h6 fly6 up6 => ?_
    have c6 := cl h6 fly6.1 ((up4.trans up5).trans up6)
    have I6 : Inv X pins σ (upd H1 a (ExcO a C)) { s2 with heap := h6 } := Inv.caught I1 os2 br2 c6.1 c6.2 n1 n2 (at_ fly6)
    refine store_ok (X := X) (v := .ref a) I6 nd hi (.inl hlo) rfl (fun s7 I7 => ?_) (.inr hlo)
    refine wpAny_mono (hs a pins s7 _ _ _ (Inv.held I7 a) (q3 a n2)) (fun fl s8 h8 => ?_) (fun _ _ z => z.elim)
    have gone : ∀ {σ' : St} {H' : Hp} {fl : Flow}, Inv (Cx.held X a) pins σ' H' s8 → (∀ s9, Inv X pins (σ'.set i none) H' s9 → SP X pins Dn fl s9) →
        wpAny (model X.prog X.w) X.A (do bindName X.env n .none; unbindBehindTheSuite X.env n hpos) (fun _ s9 => SP X pins Dn fl s9) X.xe s8 := fun {σ' H' fl} J z => by
      have J' := Inv.unheld J I.ok
      obtain ⟨m, hn, hl⟩ := J'.loc
      exact wpAny_nameGoes_keeps hlo hn (by rw [I.ok.kind]; rfl) fun h' v hn' sm => z _ (Inv.gone J' nd hi hn hl hn' sm)
    cases fl with
    | next =>
      obtain ⟨σ', H', J, q⟩ := h8
      exact gone (fl := .next) J fun s9 I9 => ⟨_, H', I9, q⟩
    | ret u =>
      obtain ⟨v, σ', H', J, rv, q⟩ := h8
      exact gone (fl := .ret u) J fun s9 I9 => ⟨v, _, H', I9, rv, q⟩
    | brk => obtain ⟨_, _, _, z⟩ := h8; exact False.elim z
    | cont => obtain ⟨_, _, _, z⟩ := h8; exact False.elim z
end
end L2.EX

set_option Elab.async false
set_option linter.all false
set_option maxRecDepth 100000
namespace L2.EX
open PySem PySem.Spec PyProof.Rows
/-! ### loops -/
def ForGo (J : It) (g : TG) (tb : TS) (D : Ends) (σ : St) (H : Hp) : Prop := ∃ W : Nat → Nat → St → Hp → Prop, (∃ m, W 0 m σ H) ∧ ∀ i m σ H, W i m σ H →
  (J.stop i H ∧ D.nx σ H) ∨ (J.go i H ∧ ∃ N : St → Hp → Prop, (∀ σ' H', N σ' H' → ∃ m', m' < m ∧ W (i + 1) m' σ' H') ∧ ∀ x H', J.yld i H x H' → g x σ H' fun σ2 H2 => tb { D with nx := N, ct := N, bk := D.nx } σ2 H2)
def xFor (wi : TI) (g : TG) (tb : TS) (D : Ends) (σ : St) (H : Hp) : Prop := wi σ H fun J H1 => ForGo J g tb D σ H1
def xWhile (c : TT) (tb : TS) (D : Ends) (σ : St) (H : Hp) : Prop := ∃ (Pv : St → Hp → Prop) (μ : St → Hp → Nat), Pv σ H ∧ ∀ σ H, Pv σ H →
  c σ H fun b H1 => if b = true then tb { D with nx := fun σ' H' => Pv σ' H' ∧ μ σ' H' < μ σ H, ct := fun σ' H' => Pv σ' H' ∧ μ σ' H' < μ σ H, bk := D.nx } σ H1 else D.nx σ H1
def Itp (lo st : Int) (n : Nat) : It := ⟨fun i _ => i < n, fun i H x H' => H' = H ∧ x = .int (lo + i * st), fun i _ => n ≤ i⟩
def nSteps (lo hi st : Int) : Nat := (Builtin.Range.rangeSize lo hi st).toNat
def xSeq (K : PySem.W.Frag) (tl : TE) (σ : St) (H : Hp) (R : It → Hp → Prop) : Prop := tl σ H fun x H1 => match x with
  | .ref a => ((∃ xs, SqL K H1 a xs) ∧ R (Itl K a) H1) ∨ ((∃ xs, SqT K H1 a xs) ∧ R (Itt K a) H1)
  | _ => False
def xR1 (ta : TA) (σ : St) (H : Hp) (R : It → Hp → Prop) : Prop := ta σ H fun vs H1 => match vs with
  | [.int j] => (-(2 ^ 62) ≤ j ∧ j < 2 ^ 62) ∧ R (Itr 0 j.toNat) H1
  | _ => False
def xR2 (ta : TA) (σ : St) (H : Hp) (R : It → Hp → Prop) : Prop := ta σ H fun vs H1 => match vs with
  | [.int i, .int j] => (-(2 ^ 62) ≤ i ∧ i < 2 ^ 62 ∧ -(2 ^ 62) ≤ j ∧ j < 2 ^ 62) ∧ R (Itr i (j - i).toNat) H1
  | _ => False
def xR3 (ta : TA) (σ : St) (H : Hp) (R : It → Hp → Prop) : Prop := ta σ H fun vs H1 => match vs with
  | [.int i, .int j, .int c] => ((-(2 ^ 61) ≤ i ∧ i < 2 ^ 61 ∧ -(2 ^ 61) ≤ j ∧ j < 2 ^ 61) ∧ 0 < c ∧ c < 2 ^ 20) ∧ R (Itp i c (nSteps i j c)) H1
  | _ => False
section
variable {X : Cx} {tg : Expr}
theorem cs_for {iter : Expr} {body : List Stmt} {wi : TI} {g : TG} {tb : TS} {pos : Pos} (hi : PI X tg iter wi) (hg : PG X tg g) (hb : PSs X body tb) (hp : PassesOwn (model X.prog X.w) X.A X.env X.xe := by exact PassesOwn.never) (hc : X.calm = true := by rfl)
    (hs : ∀ x, foldedSetIterable iter X.env x = pure x := by intro _; rfl) : PS X (.For tg iter body [] pos) (xFor wi g tb) := ps_for hp hc hi hg hb hs
theorem cs_while {c : Expr} {body : List Stmt} {tc : TT} {tb : TS} {pos : Pos} (hc : PT X c tc) (hb : PSs X body tb) (hp : PassesOwn (model X.prog X.w) X.A X.env X.xe := by exact PassesOwn.never) : PS X (.While c body [] pos) (xWhile tc tb) := by
  intro pins s σ H D I h
  obtain ⟨Pv, μ, p0, turn⟩ := h
  refine wpAny_While (codeAny_whileLoop (fun n s' => ∃ σ' H', Inv X pins σ' H' s' ∧ Pv σ' H' ∧ n = μ σ' H') ?_ (μ σ H) ⟨σ, H, I, p0, rfl⟩)
  rintro n s1 ⟨σ1, H1, I1, w1, rfl⟩
  refine wpAny_passesOwn hp (thn (hc pins s1 σ1 H1 _ I1 (turn σ1 H1 w1)) fun b s2 h2 => ?_)
  obtain ⟨H2, I2, q2⟩ := h2
  cases b with
  | true =>
    rw [if_pos rfl] at q2 ⊢
    refine wpAny_passesOwn hp (thn (hb pins s2 σ1 H2 _ I2 q2) fun f s3 q3 => ?_)
    cases f with
    | next =>
      obtain ⟨σ3, H3, I3, n3, l3⟩ := q3
      exact ⟨_, l3, σ3, H3, I3, n3, rfl⟩
    | cont =>
      obtain ⟨σ3, H3, I3, n3, l3⟩ := q3
      exact ⟨_, l3, σ3, H3, I3, n3, rfl⟩
    | brk => exact q3
    | ret v => exact q3
  | false =>
    rw [if_neg Bool.false_ne_true] at q2 ⊢
    exact wpAny_execs_nil ⟨σ1, H2, I2, q2⟩
theorem ci_r1 {a : Expr} {ta : TA} {p pos : Pos} (hm : X.mg "range" = none) (ha : PA X [a] ta) (hg : Gl X "range" := by rfl) (hs : starEach [a] X.env = [(false, eval a X.env)] := by rfl) : PI X tg (.Call (.Name "range" p) [a] [] pos) (xR1 ta) := by
  intro pins s σ H R I h
  refine Call_ (ld_blt I hg hm boot_range (PyProof.Rows.callWith_type1 (thn (ha pos pins s σ H _ I h) fun us s1 h1 => ?_) hs rfl))
  obtain ⟨vs, H1, I1, r1, q1⟩ := h1
  split at q1
  · obtain ⟨u, rfl, t, rfl⟩ := vals1 r1
    obtain ⟨⟨q1, q2⟩, q⟩ := q1
    exact call_range_1 (range_it I1 (by omega) (by omega) q1 q2 (by simpa using q))
  · exact q1.elim
theorem turn_step {P : Program} {w : World} {K : PySem.W.Frag} (it : Addr) (lo st : Int) (n : Nat) : Turn P w K tg (Itp lo st n) [it] it (fun i h => IsRangeIter h it (lo + (i : Nat) * st) ((n : Int) - (i : Nat)) st) where
  mem := by simp
  obj := fun i h st' b hb => by
    have e : b = it := by simpa using hb
    subst e
    exact ⟨_, st', fun v z => by
      have z' : Data.fields _ = Data.cell v := z
      cases z'⟩
  keep := fun i h h' st' k => k it (by simp) _ st'
  item := by
    intro X hP hw hK hc i pins s σ H E I hf st' hg
    subst hP hw hK
    obtain ⟨f0, f1, f2, f3, f4, f5⟩ := hf it (by simp)
    have W := Walks.range (prog := X.prog) (w := X.w) (I.ok.hd hc) it lo st n
    refine W.item i s _ _ hg st' fun v h' tk hv st2 kk => ?_
    obtain ⟨t, rfl⟩ := hv
    have I1 : Inv X pins σ H { s with heap := h', toks := tk } := I.turned (fun b o hb e => kk b o (by simpa using hb) e) f0 f1 f3 f4 f5
    exact ⟨_, rfl, go_of (s := { s with heap := h', toks := tk }) (n := "range_iterator") st2 rfl rfl (by decide) ⟨.int (lo + i * st), H, I1, ⟨t, rfl⟩, ⟨rfl, rfl⟩, st2, fun b hb => (hf b hb).1⟩⟩
  done := by
    intro X hP hw hK hc i pins s σ H E I hf st' hg
    subst hP hw hK
    obtain ⟨f0, f1, f2, f3, f4, f5⟩ := hf it (by simp)
    exact wpAny_pyNext_range_end (I.ok.hd hc) st' (by have : n ≤ i := hg; omega) fun h' eb => ⟨rfl, I.turned (t' := s.toks) (fun b o hb e => eb b o hb e) f0 f1 f3 f4 f5⟩
  self := fun _ _ _ _ _ st' h => wpAny_pyIter_rangeiter st' h
theorem size_pos {lo hi c : Int} (hc : 0 < c) : 0 ≤ Builtin.Range.rangeSize lo hi c ∧ Builtin.Range.rangeSize lo hi c ≤ (hi - lo).toNat ∧ (∀ i : Nat, (i : Int) < Builtin.Range.rangeSize lo hi c → lo + i * c < hi) := by
  unfold Builtin.Range.rangeSize
  rw [if_pos hc]
  split
  · rename_i h
    have q0 : 0 ≤ (hi - lo - 1) / c := Int.ediv_nonneg (by omega) (by omega)
    have q1 : (hi - lo - 1) / c ≤ hi - lo - 1 := Int.ediv_le_self _ (by omega)
    have q2 : (hi - lo - 1) / c * c ≤ hi - lo - 1 := Int.ediv_mul_le _ (by omega)
    refine ⟨by omega, by omega, fun i hi' => ?_⟩
    have q3 : (i : Int) * c ≤ (hi - lo - 1) / c * c := Int.mul_le_mul_of_nonneg_right (by omega) (by omega)
    omega
  · exact ⟨by omega, by omega, fun i hi' => by omega⟩
theorem small_st {a b c : Int} (ha : -(2 ^ 61) ≤ a) (ha' : a < 2 ^ 61) (hb : -(2 ^ 61) ≤ b) (hb' : b < 2 ^ 61) (hc : 0 < c) (hc' : c < 2 ^ 20) : Builtin.Range.small a b c = true := by
  obtain ⟨h1, h2, _⟩ := size_pos (lo := a) (hi := b) hc
  unfold Builtin.Range.small
  simp only [Builtin.Range.rangeFitsLong, Bool.and_eq_true, Bool.or_eq_true, decide_eq_true_eq, beq_iff_eq, if_pos (show c > 0 from hc)]
  refine ⟨⟨⟨⟨by omega, by omega⟩, by omega, by omega⟩, by omega⟩, .inr ⟨by omega, by omega⟩⟩
theorem ci_r3 {a b c : Expr} {ta : TA} {p pos : Pos} (hm : X.mg "range" = none) (ha : PA X [a, b, c] ta) (hg : Gl X "range" := by rfl) (hs : starEach [a, b, c] X.env = [(false, eval a X.env), (false, eval b X.env), (false, eval c X.env)] := by rfl)
    (hs2 : starEach [b, c] X.env = [(false, eval b X.env), (false, eval c X.env)] := by rfl) : PI X tg (.Call (.Name "range" p) [a, b, c] [] pos) (xR3 ta) := by
  intro pins s σ H R I h
  refine Call_ (ld_blt I hg hm boot_range (PyProof.Rows.callWith_type1 (thn (ha pos pins s σ H _ I h) fun us s1 h1 => ?_) (by rw [hs, hs2]) (by rw [hs2]; rfl)))
  obtain ⟨vs, H1, I1, r1, q1⟩ := h1
  split at q1
  · rename_i i j c'
    obtain ⟨⟨⟨q1, q2, q3, q4⟩, q5, q6⟩, q⟩ := q1
    obtain ⟨u1, u2, u3, rfl, ⟨t1, rfl⟩, ⟨t2, rfl⟩, ⟨t3, rfl⟩⟩ : ∃ u1 u2 u3, us = [u1, u2, u3] ∧ RelV (.int i) u1 ∧ RelV (.int j) u2 ∧ RelV (.int c') u3 := by
      cases r1 with
      | cons r1 r2 =>
        cases r2 with
        | cons r3 r4 =>
          cases r4 with
          | cons r5 r6 =>
            cases r6
            exact ⟨_, _, _, rfl, r1, r3, r5⟩
    refine call_range_3 (by omega) ?_ (.inl (PyProof.noPylong_small (by omega)))
    have I2 : Inv X pins σ H1 { s1 with heap := s1.heap.push { cls := .type "range", data := .fields #[.int i t1, .int j t2, .int c' t3] }, toks := s1.toks } := I1.kept fun b o e => Heap.get?_push_of_some _ e
    refine wpAny_pyIter_range (IsRange.new ..) (small_st q1 q2 q3 q4 q5 q6) ?_
    refine ⟨_, [_], _, _, H1, rfl, I2.kept (t' := s1.toks) fun b o e => Heap.get?_push_of_some _ e, turn_step _ i c' (nSteps i j c'), ?_, fun b hb => ?_, q⟩
    · have e1 : i + ((0 : Nat) : Int) * c' = i := by simp
      have e2 : ((nSteps i j c' : Nat) : Int) - ((0 : Nat) : Int) = Builtin.Range.rangeSize i j c' := by
        have := (size_pos (lo := i) (hi := j) q5).1
        unfold nSteps
        omega
      show IsRangeIter _ _ (i + ((0 : Nat) : Int) * c') (((nSteps i j c' : Nat) : Int) - ((0 : Nat) : Int)) c'
      rw [e1, e2]
      exact Heap.get?_push_size _ rfl
    · have e : b = _ := List.mem_singleton.mp hb
      subst e
      exact I2.fpOk (Nat.le_refl _) (I2.hok.fresh (Nat.le_refl _))
  · exact q1.elim
end
/-! ### the forms one uses -/
section
variable {K : PySem.W.Frag} {g : TG} {tb : TS} {D : Ends} {σ : St} {H : Hp}
theorem go_step {lo st : Int} {n : Nat} (Pv : Nat → St → Hp → Prop) (h0 : Pv 0 σ H)
    (hs : ∀ i σ H, i < n → Pv i σ H → g (.int (lo + i * st)) σ H fun σ2 H2 => tb { D with nx := Pv (i + 1), ct := Pv (i + 1), bk := D.nx } σ2 H2) (hd : ∀ σ H, Pv n σ H → D.nx σ H) : ForGo (Itp lo st n) g tb D σ H := by
  refine ⟨fun i m σ H => m = n - i ∧ i ≤ n ∧ Pv i σ H, ⟨n, by simp, Nat.zero_le _, h0⟩, ?_⟩
  rintro i m σ H ⟨rfl, hi, p⟩
  by_cases hlt : i < n
  · refine .inr ⟨hlt, Pv (i + 1), fun σ' H' p' => ⟨n - (i + 1), by omega, rfl, hlt, p'⟩, fun x H' y => ?_⟩
    obtain ⟨e, y⟩ := y
    subst e y
    exact hs i σ _ hlt p
  · have e : i = n := by omega
    subst e
    exact .inl ⟨Nat.le_refl _, hd σ H p⟩
end
/-! ### targets -/
section
variable {X : Cx} {pos : Pos}
def xT2 (K : PySem.W.Frag) (i j : Nat) (v : V) (σ : St) (H : Hp) (Q : St → Hp → Prop) : Prop := match v with
  | .ref a => ∃ x y, SqT K H a [x, y] ∧ Q ((σ.set i (some x)).set j (some y)) H
  | _ => False
def xT3 (K : PySem.W.Frag) (i j k : Nat) (v : V) (σ : St) (H : Hp) (Q : St → Hp → Prop) : Prop := match v with
  | .ref a => ∃ x y z, SqT K H a [x, y, z] ∧ Q (((σ.set i (some x)).set j (some y)).set k (some z)) H
  | _ => False
theorem cg_name (i : Nat) {x : Str} (hN : X.N.Nodup) (hi : X.N[i]? = some x := by rfl) (hx : Loc X.env.scope x := by first | exact Or.inl rfl | exact Or.inr rfl) (hf : X.fn x = true ∨ X.env.scope.names.lookup x = some .local := by first | exact .inl rfl | exact .inr rfl) : PG X (.Name x pos) (gName i) := pg_name hN hi hx hf
theorem cs_set (i : Nat) {x : Str} {e : Expr} {te : TE} {pos' : Pos} (hN : X.N.Nodup) (he : PE X e te) (hi : X.N[i]? = some x := by rfl) (hx : Loc X.env.scope x := by first | exact Or.inl rfl | exact Or.inr rfl) (hs : swapsWith e (some (.Name x pos')) pos.line X.env = pure false := by rfl)
    (hf : X.fn x = true ∨ X.env.scope.names.lookup x = some .local := by first | exact .inl rfl | exact .inr rfl) : PS X (.Assign [.Name x pos'] e pos) (tAsg te (gName i)) := ps_set hN hi hx he hs hf
def xPar (i j : Nat) (ta : TA) (D : Ends) (σ : St) (H : Hp) : Prop := ta σ H fun vs H1 => match vs with
  | [v, w] => D.nx ((σ.set i (some v)).set j (some w)) H1
  | _ => False
end
end L2.EX

set_option Elab.async false
set_option linter.all false
set_option maxRecDepth 100000
namespace L2.EX
open PySem PySem.Spec PyProof.Rows
theorem bt_abs : bootBuiltins "abs" = some (.builtin "abs") := by decide +kernel
theorem bt_min : bootBuiltins "min" = some (.builtin "min") := by decide +kernel
theorem bt_isinstance : bootBuiltins "isinstance" = some (.builtin "isinstance") := by decide +kernel
theorem bt_int : bootBuiltins "int" = some (.type "int") := by decide +kernel
theorem bt_bool : bootBuiltins "bool" = some (.type "bool") := by decide +kernel
theorem bt_tuple : bootBuiltins "tuple" = some (.type "tuple") := by decide +kernel
section
variable {X : Cx} {x : Str} {p pos : Pos} {e : Expr} {es : List Expr} {t : TA} {id T : String} {r : List V → Hp → VK → Prop}
theorem ce_b (hc : CallR X (.builtin id) r) (hm : X.mg x = none) (hv : bootBuiltins x = some (.builtin id)) (ha : PA X (e :: es) t) (hg : Gl X x := by rfl) (hn : x ≠ "__name__" := by decide) (hdb : (x == ("__debug__" : Str)) = false := by decide)
    (he : starEach (e :: es) X.env = (false, eval e X.env) :: starEach es X.env := by rfl) (hpl : (backTo pos (starEach es X.env)).any (·.1) = false := by rfl) : PE X (.Call (.Name x p) (e :: es) [] pos) (tCB r t) := pe_callB hc hg hm hv ha hn hdb he hpl
theorem ce_ty (hm : X.mg x = none) (hv : bootBuiltins x = some (.type T)) (hg : Gl X x := by rfl) (hn : x ≠ "__name__" := by decide) (hd : (x == ("__debug__" : Str)) = false := by decide) : PE X (.Name x pos) (tC (.ty T)) := pe_bltn hg hm hv rfl hn hd
theorem pa_mono {es : List Expr} {t : TA} (h : PA X es t) : PA X es (fun σ H Q => ∃ R, t σ H R ∧ ∀ vs H1, R vs H1 → Q vs H1) := by
  intro pos pins s σ H Q I hw
  obtain ⟨R, h1, h2⟩ := hw
  refine thn (h pos pins s σ H R I h1) fun us s1 hq => ?_
  obtain ⟨vs, H1, I1, r, q⟩ := hq
  exact ⟨vs, H1, I1, r, h2 _ _ q⟩
theorem cs_par (i j : Nat) {y : Str} {a b : Expr} {ta : TA} {px py pt : Pos} {kt k2 pt2} (hN : X.N.Nodup) (ha : PA X [a, b] ta) (hi : X.N[i]? = some x := by rfl) (hj : X.N[j]? = some y := by rfl) (hij : i ≠ j := by decide)
    (hx : X.env.scope.names.lookup x = some .local := by rfl) (hy : X.env.scope.names.lookup y = some .local := by rfl)
    (hw : swappedStores [.Tuple [.Name x px, .Name y py] kt pt] (.Tuple [a, b] k2 pt2) X.env = pure (some [x, y]) := by with_unfolding_all rfl)
    (hs : swapsWithSole [.Tuple [.Name x px, .Name y py] kt pt] (.Tuple [a, b] k2 pt2) pos.line X.env = pure false := by rfl) (hc : X.calm = true := by rfl) :
    PS X (.Assign [.Tuple [.Name x px, .Name y py] kt pt] (.Tuple [a, b] k2 pt2) pos) (xPar i j ta) :=
  ps_imp (ps_par hc hN hi hj hij hx hy (pa_mono ha) hw hs) fun D σ H h => ⟨_, h, fun vs H1 q => by
    split at q
    · exact ⟨_, _, rfl, q⟩
    · exact q.elim⟩
end
/-! ### sizes -/
theorem mulOk {i j : Int} {m n : Nat} (hi : Bd m i) (hj : Bd n j) (h : m + n ≤ 134217728) : IntMulOk i j := IntMulOk.of_le (intBits_le_iff.mpr hi) (intBits_le_iff.mpr hj) h
theorem log_of {j : Int} {n : Nat} (h : Bd n j) (hn : n ≤ 9000) (h0 : j ≠ 0) : j.natAbs.log2 < 9000 := by
  have h1 : j.natAbs < 2 ^ n := h
  have h2 : j.natAbs.log2 < n := (Nat.log2_lt (by omega)).mpr h1
  omega
theorem Bd.le {i : Int} {m n : Nat} (h : Bd m i) (k : m ≤ n) : Bd n i := Nat.lt_of_lt_of_le h (Nat.pow_le_pow_right (by decide) k)
theorem sz {n : Nat} (h : n ≤ 1000) : n ≤ sizeLine := Nat.le_of_lt (small1000 h)
/-! ### the law's head -/
/-- what law(script) promises: True of every list of at most 63 ints -/
def spLaw (K : PySem.W.Frag) : Sp := fun vs H Q _ => ∃ (a : Addr) (ns : List Int), vs = [.ref a] ∧ SqL K H a (ns.map V.int) ∧ ns.length ≤ 63 ∧ ∀ H', Q (.bl true) H'
theorem top_mk {K : PySem.W.Frag} {mg : Str → Option Value} {h : Heap} {x : Str} {st : Stmt} {ps : List Str} {f : Addr} {oc : Value} {od an : Option Addr} {osl : Array (Option Value)} {kV doc pm cdv ct : Value} (X : K.In h) (G : h.Ns mainGlobals mg)
    (a : PySem.W.nsIn K mainGlobals x = some (some (.ref f))) (l : K.lookup f = some ⟨oc, od, .func (PySem.W.fnOf x x (defArgs st) (defBody st) (defScope st) .none kV doc pm an cdv ct), osl⟩)
    (c : PySem.W.codeIn K cdv x = true) (k : PySem.W.keepIn K (.ref f) = true)
    (b : ∀ (kV doc pm : Value) (an : Option Addr) (cdv ct : Value) (us : List Value), us.length = ps.length → bindArgs (PySem.W.fnOf x x (defArgs st) (defBody st) (defScope st) .none kV doc pm an cdv ct) ⟨us, []⟩ = pure (ps.zip us)) : Top K mg x st ps :=
  ⟨f, _, fun_mk l c k, (fun_mk l c k).binds b, PySem.W.mg_of X G a⟩
theorem law_mk {l : PySem.W.OpenLaw} {w : World} {K : PySem.W.Frag} {mg : Str → Option Value} {h : Heap} {st : Stmt} {fa f : Addr} {k : Nat} {oc : Value} {od an : Option Addr} {osl : Array (Option Value)} {kV doc pm cdv ct : Value} (X : K.In h) (G : h.Ns mainGlobals mg)
    (hfa : mg "law" = some (.ref fa)) (a : PySem.W.nsIn K mainGlobals "law" = some (some (.ref f))) (lk : K.lookup f = some ⟨oc, od, .func (PySem.W.fnOf "law" "law" (defArgs st) (defBody st) (defScope st) .none kV doc pm an cdv ct), osl⟩)
    (c : PySem.W.codeIn K cdv "law" = true) (kp : PySem.W.keepIn K (.ref f) = true)
    (b : ∀ (s : Shared) (v : Value), BindsTo s (PySem.W.fnOf "law" "law" (defArgs st) (defBody st) (defScope st) .none kV doc pm an cdv ct) ⟨[v], []⟩ [("_law_script", v)])
    (D : ∀ (f : Addr) (fd : FuncData), Fun K "law" "law" st f fd → ∀ base : Heap, FnOk l.prog w K mg base CX0 k f fd ["_law_script"] (spLaw K)) :
    ∃ fd : FuncData, (∀ (s : Shared) (v : Value), BindsTo s fd ⟨[v], []⟩ [("_law_script", v)]) ∧ ∀ base : Heap, K.In base → base.Ns mainGlobals mg → FnOk l.prog w K mg base CX0 k fa fd ["_law_script"] (spLaw K) := by
  have e := hfa.symm.trans (PySem.W.mg_of X G a)
  cases e
  exact ⟨_, b, fun base _ _ => D _ _ (fun_mk lk c kp) base⟩
theorem walk {l : PySem.W.OpenLaw} {q : Program} {loose : List Str} {XP : (Str → Option Value) → Heap → Prop} {YP : World → Heap → Prop} {d : DefRec} {K : Params → PySem.W.Frag} (k : Nat) (hn : l.most = some 63) (hdf : d.params.defaults = []) (hr : Room k callerA)
    (hY : ∀ (w : World) (h : Heap), YP w h → (K w.params).In h)
    (F : ∀ (w : World) (mg : Str → Option Value) (fa : Addr) (h : Heap), (K w.params).In h → h.Ns mainGlobals mg → mg d.name = some (.ref fa) →
      ∃ fd : FuncData, (∀ (s : Shared) (u : Value), BindsTo s fd ⟨[u], []⟩ [("_law_script", u)]) ∧ ∀ base : Heap, (K w.params).In base → base.Ns mainGlobals mg → FnOk l.prog w (K w.params) mg base CX0 k fa fd ["_law_script"] (spLaw (K w.params))) :
    PySem.W.WalkO q loose XP YP l.row.toRowW d [] (fun f vs => PySem.call f vs) :=
  L2.walk_of (n := 63) (k := k) (x := "_law_script") (CX := fun _ => CX0) (sp := fun w => spLaw (K w.params)) hn (by decide) hdf hr hY F (fun _ _ a ns hl _ hS => ⟨a, ns, rfl, hS, hl, fun _ => rfl⟩) fun _ _ _ _ _ z => z
end L2.EX

set_option Elab.async false
set_option linter.all false
set_option maxRecDepth 100000
namespace L2.EX
open PySem PySem.Spec PyProof.Rows
/-! ### [e for t in xs if c] -/
theorem clo_go {env : Env} : ∀ (ns : List (Str × NameKind)) (acc : List (Str × Addr)), (∀ y ∈ ns, y.2 = .free → ∃ c, env.cells.lookup y.1 = some c) → (∀ x c, acc.lookup x = some c → env.cells.lookup x = some c) →
    ∃ cl : List (Str × Addr), (forIn ns acc (fun (x : Str × NameKind) (r : List (Str × Addr)) => match x with | (name, kind) => if (kind == NameKind.free) = true then do let c ← cellOf env name; pure (ForInStep.yield ((name, c) :: r)) else pure (ForInStep.yield r)) : Sem (List (Str × Addr))) = pure cl ∧
      (∀ x c, cl.lookup x = some c → env.cells.lookup x = some c) ∧ (∀ x c, acc.lookup x = some c → ∃ c', cl.lookup x = some c') ∧ ∀ y ∈ ns, y.2 = .free → ∃ c, cl.lookup y.1 = some c
  | [], acc, _, h2 => ⟨acc, rfl, h2, fun x c e => ⟨c, e⟩, fun y hy => nomatch hy⟩
  | (n, k) :: r, acc, h1, h2 => by
    have h1' : ∀ y ∈ r, y.2 = .free → ∃ c, env.cells.lookup y.1 = some c := fun y hy => h1 y (List.mem_cons_of_mem _ hy)
    by_cases hk : k = .free
    · subst hk
      obtain ⟨c, hc⟩ := h1 (n, .free) List.mem_cons_self rfl
      have hc' : env.cells.lookup n = some c := hc
      have h2' : ∀ x d, ((n, c) :: acc).lookup x = some d → env.cells.lookup x = some d := fun x d e => by
        rw [List.lookup_cons] at e
        cases hx : x == n with
        | true =>
          rw [hx] at e
          cases e
          rw [beq_iff_eq.mp hx]
          exact hc'
        | false =>
          rw [hx] at e
          exact h2 x d e
      obtain ⟨cl, e, a, b, d⟩ := clo_go r ((n, c) :: acc) h1' h2'
      have kp : ∀ x c', acc.lookup x = some c' → ∃ c'', ((n, c) :: acc).lookup x = some c'' := fun x c' q => by
        rw [List.lookup_cons]
        cases hx : x == n with
        | true => exact ⟨c, rfl⟩
        | false => exact ⟨c', q⟩
      refine ⟨cl, ?_, a, fun x c' q => let ⟨c'', q'⟩ := kp x c' q; b x c'' q', fun y hy hf => ?_⟩
      · rw [List.forIn_cons]
        have ec : cellOf env n = pure c := by unfold cellOf; rw [hc']
        simp only [beq_self_eq_true, if_true, ec, pure_bind]
        exact e
      · rcases List.mem_cons.mp hy with rfl | hy
        · exact b n c (by rw [List.lookup_cons]; simp)
        · exact d y hy hf
    · have hb : (k == NameKind.free) = false := by simpa using hk
      obtain ⟨cl, e, a, b, d⟩ := clo_go r acc h1' h2
      refine ⟨cl, ?_, a, b, fun y hy hf => ?_⟩
      · rw [List.forIn_cons]
        simp only [hb, Bool.false_eq_true, if_false, pure_bind]
        exact e
      · rcases List.mem_cons.mp hy with rfl | hy
        · exact absurd hf hk
        · exact d y hy hf
theorem closure_of {scope : Scope} {env : Env} (h : ∀ y ∈ scope.names, y.2 = .free → ∃ c, env.cells.lookup y.1 = some c) :
    ∃ cl, closureFor scope env = pure cl ∧ (∀ x c, cl.lookup x = some c → env.cells.lookup x = some c) ∧ ∀ y ∈ scope.names, y.2 = .free → ∃ c, cl.lookup y.1 = some c := by
  obtain ⟨cl, e, a, _, d⟩ := clo_go scope.names [] h (fun x c e => by simp at e)
  refine ⟨cl, ?_, a, d⟩
  unfold closureFor
  exact (congrArg (· >>= pure) e).trans (pure_bind _ _)
section
variable {prog : Program} {w : World} {A : Around} {R : Result → Shared → Prop} {s : Shared}
abbrev NoE : Value → Shared → Prop := fun _ _ => False
theorem comp_loop {elt target iter : Expr} {ifs : List Expr} {scope : Scope} {pos : Pos} {it acc : Value} {env : Env} (J : Nat → Shared → Prop)
    (turn : ∀ n s, J n s → wpAny (model prog w) A (pyNext it) (fun r s₁ => match r with
      | none => R (.ok .next) s₁
      | some v => wpAny (model prog w) A (letOwnedTupleGo target it v) (fun _ s₂ => wpAny (model prog w) A (assign target env v) (fun _ s₃ =>
          wpAny (model prog w) A (forIn ifs true fun c r => if r = true then do let ok ← isTrue c env (eval c env); pure (ForInStep.yield ok) else pure (ForInStep.yield r)) (fun ok s₄ =>
            if ok = true then wpAny (model prog w) A (eval elt env) (fun x s₅ => wpAny (model prog w) A (call (.builtin "list.append") [acc, x]) (fun _ s₆ => ∃ m, m < n ∧ J m s₆) NoE s₅) NoE s₄
            else ∃ m, m < n ∧ J m s₄) NoE s₃) NoE s₂) NoE s₁) NoE s)
    (n : Nat) (h : J n s) : codeAny (model prog w) A (.compLoop (.ListComp elt [⟨target, iter, ifs, 0⟩] scope pos) 0 it acc env) R s := by
  refine codeAny_loop rfl J (fun n s hJ => ?_) n h
  refine wpAny_noted (m := compTurn (.ListComp elt [⟨target, iter, ifs, 0⟩] scope pos) 0 it acc env) ?_
  rw [compTurn_list]
  refine wpAny_bind (wpAny_standAt (wpAny_bind (wpAny_mono (turn n s hJ) (fun r s₁ h₁ => ?_) fun _ _ z => z.elim)))
  cases r with
  | none => exact wpAny_pure h₁
  | some v =>
    refine wpAny_bind (wpAny_mono h₁ (fun _ s₂ h₂ => ?_) fun _ _ z => z.elim)
    refine wpAny_bind (wpAny_mono h₂ (fun _ s₃ h₃ => ?_) fun _ _ z => z.elim)
    refine wpAny_bind (wpAny_mono h₃ (fun ok s₄ h₄ => ?_) fun _ _ z => z.elim)
    cases ok with
    | false => exact wpAny_pure ⟨rfl, h₄⟩
    | true =>
      refine wpAny_bind (wpAny_bind (wpAny_mono h₄ (fun x s₅ h₅ => ?_) fun _ _ z => z.elim))
      exact wpAny_bind (wpAny_mono h₅ (fun _ s₆ h₆ => wpAny_pure (wpAny_pure ⟨rfl, h₆⟩)) fun _ _ z => z.elim)
end

theorem relabel_at {env : Env} {x : Str} {k' : NameKind} : ∀ {names : List (Str × NameKind)}, (names.map fun (n, k) => if (k == NameKind.free && env.scope.kind == .function && env.kindOf n == some .cell) then (n, NameKind.cell) else (n, k)).lookup x = some k' →
    ∃ k, names.lookup x = some k ∧ (k' = k ∨ (k = .free ∧ k' = .cell))
  | [], h => nomatch h
  | (n, k) :: r, h => by
    have ih := @relabel_at env x k' r
    rw [List.map_cons] at h
    cases hx : x == n with
    | true =>
      refine ⟨k, by simp [List.lookup_cons, hx], ?_⟩
      by_cases hc : (k == NameKind.free && env.scope.kind == .function && env.kindOf n == some .cell) = true
      · have h' : some NameKind.cell = some k' := by simpa [hc, List.lookup_cons, hx] using h
        rw [Bool.and_eq_true, Bool.and_eq_true] at hc
        exact .inr ⟨beq_iff_eq.mp hc.1.1, (Option.some.inj h').symm⟩
      · have h' : some k = some k' := by simpa [hc, List.lookup_cons, hx] using h
        exact .inl (Option.some.inj h').symm
    | false =>
      have h' : (r.map fun (n, k) => if (k == NameKind.free && env.scope.kind == .function && env.kindOf n == some .cell) then (n, NameKind.cell) else (n, k)).lookup x = some k' := by
        by_cases hc : (k == NameKind.free && env.scope.kind == .function && env.kindOf n == some .cell) = true
        · simpa [hc, List.lookup_cons, hx] using h
        · simpa [hc, List.lookup_cons, hx] using h
      obtain ⟨k1, e1, e2⟩ := ih h'
      exact ⟨k1, by simp [List.lookup_cons, hx, e1], e2⟩
theorem relabel_free {env : Env} {x : Str} {names : List (Str × NameKind)} (h : names.lookup x = some .free) :
    (names.map fun (n, k) => if (k == NameKind.free && env.scope.kind == .function && env.kindOf n == some .cell) then (n, NameKind.cell) else (n, k)).lookup x = some .cell ∨
    (names.map fun (n, k) => if (k == NameKind.free && env.scope.kind == .function && env.kindOf n == some .cell) then (n, NameKind.cell) else (n, k)).lookup x = some .free := by
  induction names with
  | nil => exact nomatch h
  | cons p r ih =>
    obtain ⟨n, k⟩ := p
    rw [List.map_cons]
    cases hx : x == n with
    | true =>
      have hk : k = .free := by simpa [List.lookup_cons, hx] using h
      subst hk
      have go : ∀ c : Bool, (((if c = true then (n, NameKind.cell) else (n, NameKind.free)) :: (r.map fun (n, k) => if (k == NameKind.free && env.scope.kind == .function && env.kindOf n == some .cell) then (n, NameKind.cell) else (n, k))).lookup x = some .cell) ∨
          (((if c = true then (n, NameKind.cell) else (n, NameKind.free)) :: (r.map fun (n, k) => if (k == NameKind.free && env.scope.kind == .function && env.kindOf n == some .cell) then (n, NameKind.cell) else (n, k))).lookup x = some .free) := fun c => by
        cases c
        · right; simp [List.lookup_cons, hx]
        · left; simp [List.lookup_cons, hx]
      exact go _
    | false =>
      have ih' := ih (by simpa [List.lookup_cons, hx] using h)
      by_cases hc : (k == NameKind.free && env.scope.kind == .function && env.kindOf n == some .cell) = true
      · simpa [hc, List.lookup_cons, hx] using ih'
      · simpa [hc, List.lookup_cons, hx] using ih'
structure CC where
  cl : List (Str × Addr)
  C : Addr
  s : Shared
  H : Hp
  ex : List Addr
def compCx (X : Cx) (scope : Scope) (N : List Str) (c : CC) : Cx where
  prog := X.prog
  w := X.w
  K := X.K
  mg := X.mg
  base := X.base
  A := X.A
  N := N
  s₀ := c.s
  H₀ := c.H
  env := compEnvC scope c.cl c.C X.env
  outer := X.stack
  stack := X.stack
  ex := c.ex
  fn := fun _ => false
  calm := X.calm
  pn := []
  xe := fun _ _ => False
def CompGo (J : It) (g : TG) (tt : TT) (te : TE) (σ0 : St) (Q : VK) (H : Hp) : Prop := ∃ W : Nat → Nat → List V → Hp → Prop, (∃ m, W 0 m [] H) ∧ ∀ i m ys H, W i m ys H →
  (J.stop i H ∧ ys.length ≤ sizeLine ∧ ∀ l, H l = none → Q (.ref l) (upd H l (.lst ys))) ∨
  (J.go i H ∧ ys.length < sizeLine ∧ ∀ x H', J.yld i H x H' → g x σ0 H' fun σ2 H2 => tt σ2 H2 fun b H3 => if b = true then te σ2 H3 fun y H4 => ∃ m', m' < m ∧ W (i + 1) m' (ys ++ [y]) H4 else ∃ m', m' < m ∧ W (i + 1) m' ys H3)
def xComp (wi : TI) (n : Nat) (fr : List Nat) (g : TG) (tt : TT) (te : TE) (σ : St) (H : Hp) (Q : VK) : Prop := wi σ H fun J H1 => CompGo J g tt te (List.replicate n none ++ fr.map (sg σ)) Q H1
def FreeIn (env : Env) : List Str → Prop
  | [] => True
  | x :: r => (env.kindOf x = some .cell ∨ env.kindOf x = some .free) ∧ FreeIn env r
theorem FreeIn.mem {env : Env} {x : Str} : ∀ {l : List Str}, FreeIn env l → x ∈ l → env.kindOf x = some .cell ∨ env.kindOf x = some .free
  | _ :: _, h, hx => by
    rcases List.mem_cons.mp hx with rfl | hx
    · exact h.1
    · exact FreeIn.mem h.2 hx
theorem track {X : Cx} {pins : List (Addr × Obj)} {σ : St} {H : Hp} {s : Shared} {l : Addr} {o : HO} (I : Inv X pins σ H s) (hn : H l = none) (h1 : X.s₀.heap.objs.size ≤ l) (hL : l ≠ X.env.locals) (h2 : ∀ x c, X.env.cells.lookup x = some c → c ≠ l) (h3 : ∀ p ∈ X.pn ++ pins, p.1 ≠ l)
    (new : ObjOk X.prog X.w (upd H l o) s.heap l o) : Inv X pins σ (upd H l o) s := by
  have old : ∀ b u, H b = some u → upd H l o b = some u := fun b u e => by rw [upd_ne (ne_of_none e hn)]; exact e
  refine ⟨I.ok, I.os, I.bare, ⟨I.base.keep, I.base.slot, fun b o' e n hx => ?_, I.base.there, fun b xs e => old b _ (I.base.tups b xs e), fun b o' u e => old b _ (I.base.frzs b o' u e), fun b ps e => ?_⟩, I.loc, I.cell, ?_, fun x c e => ?_, fun p hp => ?_, fun b u e => ?_, I.len⟩
  · rw [upd_ne (Nat.ne_of_lt (Nat.lt_of_lt_of_le (Heap.lt_size e) h1))]
    exact I.base.free b o' e n hx
  · obtain ⟨more, q⟩ := I.base.tbls b ps e
    exact ⟨more, old b _ q⟩
  · rw [upd_ne (Ne.symm hL)]; exact I.free
  · rw [upd_ne (h2 x c e)]; exact I.freeC x c e
  · obtain ⟨e, n, r⟩ := I.pin p hp
    exact ⟨e, by rw [upd_ne (h3 p hp)]; exact n, r⟩
  · by_cases hb : b = l
    · subst hb; rw [upd_same] at e; cases e; exact new
    · rw [upd_ne hb] at e
      exact (I.hok b u e).stay (fun _ _ _ q => q) (fun c q => old c _ q) fun c xs q => old c _ q

def GOk (n : Nat) (g : TG) : Prop := ∀ x σ H Q, g x σ H Q → g x σ H fun σ2 H2 => (∀ i, n ≤ i → σ2[i]? = σ[i]?) ∧ Q σ2 H2
theorem gok_name {n i : Nat} (h : i < n) : GOk n (gName i) := fun x σ H Q q => ⟨fun j hj => List.getElem?_set_ne (by omega), q⟩
theorem gok_t2 {n i j : Nat} {K : PySem.W.Frag} (h1 : i < n) (h2 : j < n) : GOk n (xT2 K i j) := fun x σ H Q q => by
  unfold xT2 at q ⊢
  split at q
  · obtain ⟨u, v, q1, q2⟩ := q
    exact ⟨u, v, q1, fun k hk => by rw [List.getElem?_set_ne (by omega), List.getElem?_set_ne (by omega)], q2⟩
  · exact q.elim
theorem gok_t3 {n i j k : Nat} {K : PySem.W.Frag} (h1 : i < n) (h2 : j < n) (h3 : k < n) : GOk n (xT3 K i j k) := fun x σ H Q q => by
  unfold xT3 at q ⊢
  split at q
  · obtain ⟨u, v, z, q1, q2⟩ := q
    exact ⟨u, v, z, q1, fun k hk => by rw [List.getElem?_set_ne (by omega), List.getElem?_set_ne (by omega), List.getElem?_set_ne (by omega)], q2⟩
  · exact q.elim
section
variable {X : Cx}
theorem comp_inv {scope : Scope} {N : List Str} {fr : List Nat} {n : Nat} {cl : List (Str × Addr)} {pins : List (Addr × Obj)} {σ : St} {H : Hp} {s : Shared} {C : Addr} {h₁ : Heap} {m : Str → Option Value} {fp : List Addr} {tk : Nat}
    (I : Inv X pins σ H s) (hf : ∀ b ∈ fp, FpOk X pins H b) (hfl : ∀ b ∈ fp, b < s.heap.objs.size) (hC : s.heap.objs.size ≤ C) (old : ∀ b o, s.heap.get? b = some o → h₁.get? b = some o) (hns : h₁.Ns C m)
    (hn : N.length = n + fr.length) (hfr : fr.map (fun i => X.N[i]?) = (N.drop n).map some) (hsc : ∀ x ∈ N.drop n, scope.names.lookup x = some .free)
    (hkind : scope.kind = .function) (hcell : ∀ y ∈ scope.names, y.2 ≠ .cell) (hF : FreeIn X.env ((scope.names.filter fun y => y.2 == .free).map (·.1)))
    (cl1 : ∀ x c, cl.lookup x = some c → X.env.cells.lookup x = some c) (cl2 : ∀ y ∈ scope.names, y.2 = .free → ∃ c, cl.lookup y.1 = some c) :
    Inv (compCx X scope N ⟨cl, C, s, H, fp⟩) (X.pn ++ pins) (List.replicate n none ++ fr.map (sg σ)) H { s with heap := h₁, toks := tk } := by
  have freeAt : ∀ x, scope.names.lookup x = some .free → X.env.kindOf x = some .cell ∨ X.env.kindOf x = some .free := fun x e =>
    hF.mem (List.mem_map.mpr ⟨(x, .free), List.mem_filter.mpr ⟨PySem.mem_of_lookup e, rfl⟩, rfl⟩)
  have kinds : ∀ x, ((relabel scope X.env).names.lookup x = some .cell ∨ (relabel scope X.env).names.lookup x = some .free) → scope.names.lookup x = some .free := fun x hx => by
    rcases hx with hx | hx
    · obtain ⟨k, e, z⟩ := relabel_at (env := X.env) hx
      rcases z with z | ⟨z, _⟩
      · subst z; exact absurd rfl (hcell _ (PySem.mem_of_lookup e))
      · subst z; exact e
    · obtain ⟨k, e, z⟩ := relabel_at (env := X.env) hx
      rcases z with z | ⟨z, z'⟩
      · subst z; exact e
      · cases z'
  have fsX : ∀ b, b ≠ X.env.locals → b ∉ X.fs → b ∉ frs X.stack := fun b h1 h2 z => (List.mem_cons.mp (I.stkSub b z)).elim h1 h2
  refine ⟨⟨I.ok.mod, hkind, I.ok.glob, I.ok.blt, hC, fun x y c h1 h2 => I.ok.inj x y c (cl1 x c h1) (cl1 y c h2), fun x hx => ?_, fun x c hx => absurd hx (by simp [compCx]), I.ok.hd, I.ok.frames, .inl rfl, fun b hb => ⟨?_, fun x c e => (hf b hb).2.2.2.2.1 x c (cl1 x c e)⟩, I.bs, Nat.le_trans I.ok.bsz I.sz, fun b o e hb => ?_, fun b hb => fsX b (hf b hb).2.1 (hf b hb).2.2.1, I.stack, I.stkFree⟩,
    rfl, I.bare, Un.kept old, ⟨m, hns, fun i x v e1 e2 e3 => ?_⟩, fun x c e => ?_, I.hok.fresh hC, fun x c e => I.freeC x c (cl1 x c e), fun p hp => ?_, I.hok.kept old, ?_⟩
  · obtain ⟨c, e⟩ := cl2 (x, .free) (PySem.mem_of_lookup (kinds x hx)) rfl
    exact ⟨c, e⟩
  · exact Nat.ne_of_lt (Nat.lt_of_lt_of_le (hfl b hb) hC)
  · rcases (hf b hb).2.2.2.1 with z | z
    · exact I.ok.noex b o e z
    · exact absurd (Nat.lt_of_lt_of_le (Heap.lt_size e) (Nat.le_trans I.ok.bsz z)) (Nat.lt_irrefl _)
  · -- a slot of the block's frame that is known: one of the free names
    have hi : n ≤ i := by
      rcases Nat.lt_or_ge i n with z | z
      · rw [List.getElem?_append_left (by simpa using z), List.getElem?_replicate, if_pos z] at e2
        cases e2
      · exact z
    rw [List.getElem?_append_right (by simpa using hi), List.length_replicate, List.getElem?_map] at e2
    obtain ⟨j, ej, e2'⟩ := Option.map_eq_some_iff.mp e2
    have ex : X.N[j]? = some x := by
      have q := congrArg (fun l => l[i - n]?) hfr
      simp only [List.getElem?_map, ej, Option.map_some, List.getElem?_drop] at q
      have e1' : N[n + (i - n)]? = some x := by rw [show n + (i - n) = i by omega]; exact e1
      rw [e1'] at q
      simpa using q
    have hx : scope.names.lookup x = some .free := hsc x (by
      have e1' : N[n + (i - n)]? = some x := by rw [show n + (i - n) = i by omega]; exact e1
      rw [← List.getElem?_drop] at e1'
      exact List.mem_of_getElem? e1')
    obtain ⟨m', _, hl⟩ := I.loc
    have hv : Vis X.env.scope x := by
      rcases freeAt x hx with z | z
      · exact .inr (.inl z)
      · exact .inr (.inr z)
    obtain ⟨u, r, lk⟩ := hl j x v ex (sg_ix e2') hv
    refine ⟨u, r, .inr ⟨?_, ?_⟩⟩
    · rcases relabel_free (env := X.env) hx with z | z
      · exact .inl z
      · exact .inr z
    · obtain ⟨c, ec⟩ := cl2 (x, .free) (PySem.mem_of_lookup hx) rfl
      rcases lk with ⟨z, _⟩ | ⟨_, c', ec', o, ho, hd⟩
      · rcases freeAt x hx with y | y
        · rw [y] at z; cases z
        · rw [y] at z; cases z
      · have q := cl1 x c ec
        rw [ec'] at q; cases q
        exact ⟨c, ec, o, old _ _ ho, hd⟩
  · obtain ⟨v, o, ho, hd⟩ := I.cell x c (cl1 x c e)
    exact ⟨v, o, old _ _ ho, hd⟩
  · have hp' : p ∈ X.pn ++ pins := by simpa [compCx] using hp
    obtain ⟨e, z, ne, nf, d⟩ := I.pin p hp'
    exact ⟨old _ _ e, z, Nat.ne_of_lt (Nat.lt_of_lt_of_le (Heap.lt_size e) hC), fsX _ ne nf, d⟩
  · show _ = N.length
    rw [List.length_append, List.length_replicate, List.length_map, hn]
end
end L2.EX

set_option Elab.async false
set_option linter.all false
set_option maxRecDepth 100000
namespace L2.EX
open PySem PySem.Spec PyProof.Rows
section
variable {X : Cx}
theorem comp_core {elt tg iter : Expr} {ifs : List Expr} {scope : Scope} {pos pos1 : Pos} {N : List Str} {fr : List Nat} {wi : TI} {g : TG} {tt : TT} {te : TE} {use : Option (Value → Sem Unit)} {QQ : Value → Shared → Prop} {pins : List (Addr × Obj)} {σ : St} {H : Hp} {s : Shared} {Q : VK} (n : Nat)
    (I : Inv X pins σ H s) (h : xComp wi n fr g tt te σ H Q)
    (hend : ∀ (s6 : Shared) (H6 : Hp) (l C : Addr) (oC : Obj) (mC : Str → Option Value), Inv X pins σ H6 s6 → Q (.ref l) H6 → s6.heap.get? C = some oC → LCg.NsObj oC mC → FpOk X pins H6 C → compPost (model X.prog X.w) X.A X.xe use QQ (.ref l) C (.ok .next) s6)
    (hi : PI X tg iter wi) (hg : ∀ c : CC, PG (compCx X scope N c) tg g) (hgk : GOk n g)
    (ht : ∀ (c : CC) (pins : List (Addr × Obj)) (s : Shared) (σ : St) (H : Hp) (Q : Bool → Hp → Prop), Inv (compCx X scope N c) pins σ H s → tt σ H Q →
      wpAny (model X.prog X.w) X.A (forIn ifs true fun c' r => if r = true then do let ok ← isTrue c' (compEnvC scope c.cl c.C X.env) (eval c' (compEnvC scope c.cl c.C X.env)); pure (ForInStep.yield ok) else pure (ForInStep.yield r)) (TP (compCx X scope N c) pins σ Q) NoE s)
    (he : ∀ c : CC, PE (compCx X scope N c) elt te) (hn : N.length = n + fr.length)
    (hfr : fr.map (fun i => X.N[i]?) = (N.drop n).map some) (hsc : ∀ x ∈ N.drop n, scope.names.lookup x = some .free)
    (hF : FreeIn X.env ((scope.names.filter fun y => y.2 == .free).map (·.1)))
    (hkind : scope.kind = .function) (hcell : ∀ y ∈ scope.names, y.2 ≠ .cell) (hnames : ∀ y ∈ scope.names, y.2 = .local → scope.names.lookup y.1 = some .local) (hcalm : X.calm = true)
    (hs : ∀ x, foldedSetIterable iter X.env x = pure x) : wpAny (model X.prog X.w) X.A (comprehension (.ListComp elt [⟨tg, iter, ifs, 0⟩] scope pos) scope X.env pos1 (newList []) false (eval iter X.env) use) QQ X.xe s := by
  have hcl0 : ∀ y ∈ scope.names, y.2 = .free → ∃ c, X.env.cells.lookup y.1 = some c := fun y hy hf => I.ok.has y.1 (hF.mem (List.mem_map.mpr ⟨y, List.mem_filter.mpr ⟨hy, by rw [hf]; rfl⟩, rfl⟩))
  obtain ⟨cl, ecl, cl1, cl2⟩ := closure_of hcl0
  refine wpAny_comprehension_free (use := use) rfl hs ecl hkind hnames (thn (hi pins s σ H _ I h) fun v s1 h1 => thn h1 fun itv s2 h2 => ?_)
  obtain ⟨it, fp, tn, J, H2, rfl, I2, T, st2, f2, W, ⟨m0, w0⟩, turn⟩ := h2
  have hfl : ∀ b ∈ fp, b < s2.heap.objs.size := fun b hb => let ⟨o, e, _⟩ := T.obj _ _ st2 b hb; Heap.lt_size e
  refine wpAny_newObj_type (wpAny_newFunctionEnv hcell (by intro y hy; simp at hy) (fun h₁ hns₁ hsb₁ => ?_) hkind)
  dsimp only at hns₁ hsb₁ ⊢
  generalize hH2 : s2.heap.push { cls := .type "list", dict := none, data := .seq ([] : List Value).toArray } = HA at hns₁ hsb₁ ⊢
  have hC : HA.objs.size = s2.heap.objs.size + 1 := by rw [← hH2, Heap.size_push]
  have hlC : s2.heap.objs.size ≠ HA.objs.size := by rw [hC]; exact Nat.ne_of_lt (Nat.lt_succ_self _)
  have hCle : s2.heap.objs.size ≤ HA.objs.size := by rw [hC]; exact Nat.le_succ _
  have old : ∀ b o, s2.heap.get? b = some o → h₁.get? b = some o := fun b o e =>
    hsb₁.extBut b o (by rw [hC]; exact Nat.ne_of_lt (Nat.lt_succ_of_lt (Heap.lt_size e))) (Heap.get?_push_of_some _ (hH2 ▸ Heap.get?_push_of_some _ e))
  have hacc : h₁.PlainList s2.heap.objs.size #[] := ⟨_, hsb₁.extBut _ _ hlC (Heap.get?_push_of_some _ (hH2 ▸ Heap.get?_push_size _ rfl))⟩
  generalize hl : s2.heap.objs.size = l at hacc hlC
  generalize hCe : HA.objs.size = C at hns₁ hsb₁ hlC hCle
  have hCl : s2.heap.objs.size ≤ C := hCle
  have hll : s2.heap.objs.size ≤ l := Nat.le_of_eq hl
  let cc : CC := ⟨cl, C, s2, H2, fp⟩
  let σ0 : St := List.replicate n none ++ fr.map (sg σ)
  have I3 : Inv (compCx X scope N cc) (X.pn ++ pins) σ0 H2 { s2 with heap := h₁, toks := s2.toks + ([] : List (Str × Value)).length } := comp_inv I2 f2 hfl hCl old hns₁ hn hfr hsc hkind hcell hF cl1 cl2
  have lfp : l ∉ fp := fun z => absurd (hfl l z) (Nat.not_lt.mpr hll)
  have lpin : ∀ p ∈ X.pn ++ pins, p.1 ≠ l := fun p hp => by
    rw [← hl]; exact Nat.ne_of_lt (Heap.lt_size (I2.pin p hp).1)
  have lcell : ∀ x c, cl.lookup x = some c → c ≠ l := fun x c e => by
    obtain ⟨v, q⟩ := I2.cell x c (cl1 x c e)
    rw [← hl]; exact Nat.ne_of_lt q.lt
  have lfs : l ∉ frs X.stack := fun z => by
    rcases List.mem_cons.mp (I2.stkSub l z) with z | z
    · rw [z] at hll; exact absurd I2.lt (Nat.not_lt.mpr hll)
    · exact I2.nofs hll z
  have fsX : ∀ b ∈ fp, b ∉ frs X.stack := fun b hb z => (List.mem_cons.mp (I2.stkSub b z)).elim (f2 b hb).2.1 (f2 b hb).2.2.1
  have stat : ∀ {H' : Hp} {more : List (Addr × Obj)}, (∀ b ∈ fp, H' b = none) → (∀ p ∈ more, p.1 = l) → ∀ b ∈ fp, FpOk (compCx X scope N cc) (X.pn ++ pins ++ more) H' b := fun {H' more} hz hm b hb =>
    ⟨hz b hb, Nat.ne_of_lt (Nat.lt_of_lt_of_le (hfl b hb) hCl), fsX b hb, .inl hb, fun x c e => (f2 b hb).2.2.2.2.1 x c (cl1 x c e), fun p hp => by
      have hp' : p ∈ X.pn ++ pins ∨ p ∈ more := by simpa [compCx, List.append_assoc, or_assoc] using hp
      rcases hp' with z | z
      · exact (f2 b hb).2.2.2.2.2 p z
      · rw [hm p z]; exact fun q => lfp (q ▸ hb)⟩
  have pinL : ∀ {H' : Hp} {s' : Shared} {σ' : St} {o : Obj}, Inv (compCx X scope N cc) (X.pn ++ pins) σ' H' s' → s'.heap.get? l = some o → (∀ v, o.data ≠ .cell v) → H' l = none → Inv (compCx X scope N cc) (X.pn ++ pins ++ [(l, o)]) σ' H' s' := fun {H' s' σ' o} I' e d hz =>
    I'.pins_of fun p hp => (List.mem_append.mp hp).elim (fun z => I'.pin p (List.mem_append_right _ z)) fun z => by
      have q : p = (l, o) := List.mem_singleton.mp z
      subst q
      exact ⟨e, hz, hlC, lfs, d⟩
  have loop : ∀ s₃ : Shared, s₃ = { s2 with heap := h₁, toks := s2.toks + ([] : List (Str × Value)).length } →
      codeAny (model X.prog X.w) X.A (.compLoop (.ListComp elt [⟨tg, iter, ifs, 0⟩] scope pos) 0 (.ref it) (.ref l) (compEnvC scope cl C X.env)) (compPost (model X.prog X.w) X.A X.xe use QQ (.ref l) C) s₃ := by
    rintro s₃ rfl
    refine comp_loop (fun m s' => ∃ i ys H', Inv (compCx X scope N cc) (X.pn ++ pins) σ0 H' s' ∧ tn i s'.heap ∧ (∀ b ∈ fp, H' b = none) ∧ W i m ys H' ∧ (∃ its : List Value, Vals ys its ∧ s'.heap.PlainList l its.toArray) ∧ H' l = none) ?_ m0
      ⟨0, [], H2, I3, T.keep _ _ _ st2 fun b hb o e => old b o e, fun b hb => (f2 b hb).1, w0, ⟨[], .nil, hacc⟩, by rw [← hl]; exact I2.hok.fresh (Nat.le_refl _)⟩
    rintro m s5 ⟨i, ys, H5, I5, st5, fr5, w5, ⟨its, rv, n5, hpl⟩, hl5⟩
    have I5' := pinL I5 hpl (fun v z => by cases z) hl5
    have f5 := stat (more := [(l, ({ cls := .type "list", data := .seq its.toArray n5 } : Obj))]) fr5 (fun p hp => congrArg Prod.fst (List.mem_singleton.mp hp))
    rcases turn i m ys H5 w5 with ⟨stop, hz, q⟩ | ⟨go, hz, step⟩
    · refine thn (T.done (compCx X scope N cc) rfl rfl rfl hcalm i _ s5 σ0 H5 NoE I5' f5 st5 stop) fun r s6 hq => ?_
      obtain ⟨rfl, I6⟩ := hq
      have e6 : s6.heap.get? l = some ({ cls := .type "list", data := .seq its.toArray n5 } : Obj) := (I6.pin (l, ({ cls := .type "list", data := .seq its.toArray n5 } : Obj)) (List.mem_append_right _ (List.mem_append_right _ (List.mem_singleton.mpr rfl)))).1
      obtain ⟨mC, hnC, _⟩ := I6.loc
      have IA : Inv X pins σ H5 s6 := I2.call' (ch := fp) I6.os I6.base I6.hok I6.bare fun b hb => ⟨(f2 b hb).2.2.2.1, (f2 b hb).2.1, (f2 b hb).2.2.2.2.1, (f2 b hb).2.2.2.2.2⟩
      have cl' : ∀ x c, X.env.cells.lookup x = some c → c ≠ l := fun x c e => by
        obtain ⟨v, z⟩ := I2.cell x c e
        rw [← hl]; exact Nat.ne_of_lt z.lt
      have IB : Inv X pins σ (upd H5 l (.lst ys)) s6 := track IA hl5 (by rw [← hl]; exact I2.sz) (by rw [← hl]; exact Nat.ne_of_gt I2.lt) cl' lpin ⟨hz, its, n5, rv, e6⟩
      obtain ⟨oC, eC, nC⟩ := LCg.ns_obj hnC
      refine hend s6 _ l C oC mC IB (q l hl5) eC nC (I2.fpOk hCl ?_)
      rw [upd_ne (Ne.symm hlC)]
      exact I6.free
    · refine thn (T.item (compCx X scope N cc) rfl rfl rfl hcalm i _ s5 σ0 H5 NoE I5' f5 st5 go) fun r s6 hq => ?_
      obtain ⟨u, rfl, hq⟩ := hq
      refine thn hq fun _ s7 hq7 => ?_
      obtain ⟨x, H7, I7, r7, y7, st7, fr7⟩ := hq7
      have I7' := I7.pinned (stat (more := [(l, ({ cls := .type "list", data := .seq its.toArray n5 } : Obj))]) fr7 (fun p hp => congrArg Prod.fst (List.mem_singleton.mp hp))) (T.obj _ _ st7)
      refine thn (hg cc _ s7 σ0 H7 x u _ I7' r7 (hgk x σ0 H7 _ (step x H7 y7))) fun _ s8 hq8 => ?_
      obtain ⟨σ8, H8, I8, k8, q8⟩ := hq8
      have back : ∀ {H' : Hp} {s' : Shared}, Inv (compCx X scope N cc) (X.pn ++ pins ++ [(l, ({ cls := .type "list", data := .seq its.toArray n5 } : Obj))] ++ pinsAt fp s7.heap) σ8 H' s' → Inv (compCx X scope N cc) (X.pn ++ pins) σ0 H' s' ∧ tn (i + 1) s'.heap ∧ (∀ b ∈ fp, H' b = none) ∧ s'.heap.get? l = some ({ cls := .type "list", data := .seq its.toArray n5 } : Obj) ∧ H' l = none := fun {H' s'} I' => by
        have pf : ∀ b ∈ fp, ∀ o, s7.heap.get? b = some o → s'.heap.get? b = some o ∧ H' b = none := fun b hb o e =>
          let z := I'.pin (b, o) (List.mem_append_right _ (List.mem_append_right _ (mem_pinsAt hb e)))
          ⟨z.1, z.2.1⟩
        have pl := I'.pin (l, ({ cls := .type "list", data := .seq its.toArray n5 } : Obj)) (List.mem_append_right _ (List.mem_append_left _ (List.mem_append_right _ (List.mem_singleton.mpr rfl))))
        refine ⟨(I'.unpinned.unpinned).weak ?_ ?_, T.keep _ _ _ st7 fun b hb o e => (pf b hb o e).1, fun b hb => ?_, pl.1, pl.2.1⟩
        · rw [I3.len, I'.len]
        · intro j v ej
          have hj : n ≤ j := by
            rcases Nat.lt_or_ge j n with z | z
            · have ej' : (List.replicate n none ++ fr.map (sg σ))[j]? = some (some v) := ej
              rw [List.getElem?_append_left (by simpa using z), List.getElem?_replicate, if_pos z] at ej'
              cases ej'
            · exact z
          rw [k8 j hj]; exact ej
        · obtain ⟨o, e, _⟩ := T.obj _ _ st7 b hb
          exact (pf b hb o e).2
      refine thn (ht cc _ s8 σ8 H8 _ I8 q8) fun ok s9 hq9 => ?_
      obtain ⟨H9, I9, q9⟩ := hq9
      cases ok with
      | false =>
        obtain ⟨m', hm, w9⟩ := q9
        obtain ⟨b1, b2, b3, b4, b5⟩ := back I9
        exact ⟨m', hm, i + 1, ys, H9, b1, b2, b3, w9, ⟨its, rv, n5, b4⟩, b5⟩
      | true =>
        refine thn (he cc _ s9 σ8 H9 _ I9 q9) fun y sA hqA => ?_
        obtain ⟨yv, HA', IA, rA, m', hm, wA⟩ := hqA
        obtain ⟨b1, b2, b3, b4, b5⟩ := back IA
        refine wpAny_list_append_plain (items := its.toArray) ⟨n5, b4⟩ (fun h' hp' hsb => ?_) (by have := rv.length; rw [List.size_toArray]; omega)
        refine ⟨m', hm, i + 1, ys ++ [yv], HA', b1.turned (t' := sA.toks) (it := l) (fun b o hb e => hsb.extBut b o hb e) b5 hlC (.inr hll) lcell (fun p hp => lpin p (by simpa [compCx] using hp)), ?_, b3, wA, ⟨its ++ [y], rv.append (.cons rA .nil), by simpa using hp'⟩, b5⟩
        exact T.keep _ _ _ b2 fun b hb o e => hsb.extBut b o (fun z => lfp (z ▸ hb)) e
  exact codeAny_compStart_list (loop _ rfl) (T.self _ 0 _ _ _ (T.keep _ _ _ st2 fun b hb o e => old b o e) (loop _ rfl))
theorem ce_compG {elt tg iter : Expr} {ifs : List Expr} {scope : Scope} {pos : Pos} {N : List Str} {fr : List Nat} {wi : TI} {g : TG} {tt : TT} {te : TE} (n : Nat)
    (hi : PI X tg iter wi) (hg : ∀ c : CC, PG (compCx X scope N c) tg g) (hgk : GOk n g)
    (ht : ∀ (c : CC) (pins : List (Addr × Obj)) (s : Shared) (σ : St) (H : Hp) (Q : Bool → Hp → Prop), Inv (compCx X scope N c) pins σ H s → tt σ H Q →
      wpAny (model X.prog X.w) X.A (forIn ifs true fun c' r => if r = true then do let ok ← isTrue c' (compEnvC scope c.cl c.C X.env) (eval c' (compEnvC scope c.cl c.C X.env)); pure (ForInStep.yield ok) else pure (ForInStep.yield r)) (TP (compCx X scope N c) pins σ Q) NoE s)
    (he : ∀ c : CC, PE (compCx X scope N c) elt te) (hn : N.length = n + fr.length)
    (hfr : fr.map (fun i => X.N[i]?) = (N.drop n).map some) (hsc : ∀ x ∈ N.drop n, scope.names.lookup x = some .free)
    (hF : FreeIn X.env ((scope.names.filter fun y => y.2 == .free).map (·.1)))
    (hkind : scope.kind = .function) (hcell : ∀ y ∈ scope.names, y.2 ≠ .cell) (hnames : ∀ y ∈ scope.names, y.2 = .local → scope.names.lookup y.1 = some .local) (hcalm : X.calm = true)
    (hs : ∀ x, foldedSetIterable iter X.env x = pure x) : PE X (.ListComp elt [⟨tg, iter, ifs, 0⟩] scope pos) (xComp wi n fr g tt te) := by
  intro pins s σ H Q I h
  rw [eval_ListComp]
  refine comp_core (use := none) n I h (fun s6 H6 l C oC mC I6 q eC nC fC => ?_) hi hg hgk ht he hn hfr hsc hF hkind hcell hnames hcalm hs
  refine ⟨mC, nC.ns eC, fun h' hsb => ⟨.ref l, H6, ?_, rfl, q⟩⟩
  exact I6.turned (t' := s6.toks) (it := C) (fun b o hb e => hsb.extBut b o hb e) fC.1 fC.2.1 fC.2.2.2.1 fC.2.2.2.2.1 fC.2.2.2.2.2
def tYes : TT := fun _ H Q => Q true H
theorem ce_comp {elt tg iter : Expr} {scope : Scope} {pos : Pos} {N : List Str} {fr : List Nat} {wi : TI} {g : TG} {te : TE} (n : Nat)
    (hi : PI X tg iter wi) (hg : ∀ c : CC, N.Nodup → PG (compCx X scope N c) tg g) (he : ∀ c : CC, N.Nodup → PE (compCx X scope N c) elt te)
    (hN : N.Nodup := by decide +kernel) (hgk : GOk n g := by first | exact gok_name (by decide) | exact gok_t2 (by decide) (by decide) | exact gok_t3 (by decide) (by decide) (by decide)) (hn : N.length = n + fr.length := by rfl)
    (hfr : fr.map (fun i => X.N[i]?) = (N.drop n).map some := by rfl) (hsc : ∀ x ∈ N.drop n, scope.names.lookup x = some .free := by decide +kernel)
    (hF : FreeIn X.env ((scope.names.filter fun y => y.2 == .free).map (·.1)) := by repeat (first | exact True.intro | refine And.intro (Or.inl rfl) ?_ | refine And.intro (Or.inr rfl) ?_))
    (hkind : scope.kind = .function := by rfl) (hcell : ∀ y ∈ scope.names, y.2 ≠ .cell := by decide +kernel) (hnames : ∀ y ∈ scope.names, y.2 = .local → scope.names.lookup y.1 = some .local := by decide +kernel) (hcalm : X.calm = true := by rfl)
    (hs : ∀ x, foldedSetIterable iter X.env x = pure x := by intro _; rfl) : PE X (.ListComp elt [⟨tg, iter, [], 0⟩] scope pos) (xComp wi n fr g tYes te) :=
  ce_compG n hi (fun c => hg c hN) hgk (fun c pins s σ H Q I q => wpAny_tests_nil ⟨H, I, q⟩) (fun c => he c hN) hn hfr hsc hF hkind hcell hnames hcalm hs
end
end L2.EX

set_option Elab.async false
set_option linter.all false
set_option maxRecDepth 100000
namespace L2.EX
open PySem PySem.Spec PyProof.Rows
section
variable {X : Cx} {pins : List (Addr × Obj)} {σ : St} {H : Hp} {s : Shared} {h' : Heap}
end
/-! ### enumerate(xs), two names -/
def Ite (K : PySem.W.Frag) (a : Addr) : It :=
  ⟨fun i H => ∃ xs x, SqL K H a xs ∧ xs[i]? = some x, fun i H x H' => ∃ p v, H p = none ∧ x = .ref p ∧ H' = upd H p (.tup [.int i, v]) ∧ ∀ xs, SqL K H a xs → xs[i]? = some v, fun i H => ∃ xs, SqL K H a xs ∧ xs.length ≤ i⟩
section
variable {X : Cx}
def xEnum (K : PySem.W.Frag) (tl : TE) (σ : St) (H : Hp) (R : It → Hp → Prop) : Prop := tl σ H fun x H1 => match x with
  | .ref a => (∃ xs, SqL K H1 a xs) ∧ R (Ite K a) H1
  | _ => False
end
end L2.EX

set_option Elab.async false
set_option linter.all false
set_option maxRecDepth 100000
namespace L2.EX
open PySem PySem.Spec PyProof.Rows
/-! ### own objects -/
structure ClsF (K : PySem.W.Frag) (C : Addr) (f : Str) : Prop where
  cl : Cls K C
  no : NoAttr K C f
structure MDef (P : Program) (w : World) (K : PySem.W.Frag) (mg : Str → Option Value) (base : Heap) (C : Addr) (m : Str) (k : Nat) (ps : List Str) (sp : Sp) : Prop where
  is : ∃ (f : Addr) (fd : FuncData), FnOk P w K mg base CX0 k f fd ps sp ∧ Binds K fd ps [] ∧ Meth K C m f
  cl : Cls K C
structure MTop (K : PySem.W.Frag) (C : Addr) (m qual : Str) (st : Stmt) (ps : List Str) : Prop where
  is : ∃ (f : Addr) (fd : FuncData), Fun K m qual st f fd ∧ Binds K fd ps [] ∧ Meth K C m f
  cl : Cls K C
structure CDef (P : Program) (w : World) (K : PySem.W.Frag) (mg : Str → Option Value) (base : Heap) (x : Str) (C : Addr) (k : Nat) (ps : List Str) (sp : Sp) : Prop where
  is : ∃ (f : Addr) (fd : FuncData), FnOk P w K mg base CX0 k f fd ps sp ∧ Binds K fd ps [] ∧ Mk K C f
  mg : mg x = some (.ref C)
section
variable {X : Cx} {C : Addr} {f m : Str} {e o value : Expr} {es : List Expr} {ta tv : TE} {t : TA} {pos pos' apos cpos p : Pos} {k : Nat} {ps : List Str} {sp : Sp} {x : Str}
def xFld (C : Addr) (f : Str) (t : TE) (σ : St) (H : Hp) (Q : VK) : Prop := t σ H fun x H1 => match x with
  | .ref a => ∃ dx fs v, H1 a = some (.ins C dx fs) ∧ fs.lookup f = some v ∧ Q v H1
  | _ => False
def xSFld (C : Addr) (f : Str) (ta tv : TE) (D : Ends) (σ : St) (H : Hp) : Prop := tv σ H fun y H1 => ta σ H1 fun x H2 => match x with
  | .ref a => ∃ dx fs, H2 a = some (.ins C dx fs) ∧ fs.length < 1000 ∧ D.nx σ (upd H2 a (.ins C dx (putF f y fs)))
  | _ => False
def xMeth (C : Addr) (m : Str) (sp : Sp) (ta : TE) (t : TA) (σ : St) (H : Hp) (Q : VK) : Prop := ta σ H fun x H1 => match x with
  | .ref a => ∃ dx fs, H1 a = some (.ins C dx fs) ∧ fs.lookup m = none ∧ t σ H1 fun vs H2 => sp (.ref a :: vs) H2 Q E0
  | _ => False
def xMake (C : Addr) (sp : Sp) (t : TA) (σ : St) (H : Hp) (Q : VK) : Prop := t σ H fun vs H1 => ∀ x dx, H1 x = none → H1 dx = none → dx ≠ x →
  sp (.ref x :: vs) (upd (upd H1 dx (.own x)) x (.ins C dx [])) (fun v H2 => v = .non ∧ Q (.ref x) H2) E0
variable {P : Program} {w : World} {K : PySem.W.Frag} {mg : Str → Option Value} {base : Heap} {N : List Str} {st : Stmt} {qual : Str}
/-! ### a list's places and methods -/
@[reducible] def uSet (o i v : V) (H : Hp) (Q : Hp → Prop) : Prop := match o, i with
  | .ref p, .int k => ∃ xs j, H p = some (.lst xs) ∧ ixN xs.length k = some j ∧ Q (upd H p (.lst (xs.set j v)))
  | _, _ => False
def uGet (o i : V) (H : Hp) (Q : VK) : Prop := match o, i with
  | .ref p, .int k => ∃ xs v, H p = some (.lst xs) ∧ 0 ≤ k ∧ xs[k.toNat]? = some v ∧ Q v H
  | _, _ => False
def uIpAdd (x y : V) (H : Hp) (Q : VK) : Prop := match x, y with
  | .int i, .int j => Q (.int (i + j)) H
  | _, _ => False
def uIpSub (x y : V) (H : Hp) (Q : VK) : Prop := match x, y with
  | .int i, .int j => Q (.int (i - j)) H
  | _, _ => False
def xApp (ta : TE) (t : TA) (σ : St) (H : Hp) (Q : VK) : Prop := ta σ H fun x H1 => match x with
  | .ref l => (∃ xs, H1 l = some (.lst xs)) ∧ t σ H1 fun vs H2 => match vs with
    | [y] => ∃ xs, H2 l = some (.lst xs) ∧ xs.length < sizeLine ∧ Q .non (upd H2 l (.lst (xs ++ [y])))
    | _ => False
  | _ => False
def xPop (ta : TE) (σ : St) (H : Hp) (Q : VK) : Prop := ta σ H fun x H1 => match x with
  | .ref l => ∃ xs y, H1 l = some (.lst xs) ∧ xs[xs.length - 1]? = some y ∧ Q y (upd H1 l (.lst xs.dropLast))
  | _ => False
def xClear (ta : TE) (σ : St) (H : Hp) (Q : VK) : Prop := ta σ H fun x H1 => match x with
  | .ref l => ∃ xs, H1 l = some (.lst xs) ∧ Q .non (upd H1 l (.lst []))
  | _ => False
def xSl (K : PySem.W.Frag) (te : TE) (tl th : TO) (σ : St) (H : Hp) (Q : VK) : Prop := te σ H fun x H1 => tl σ H1 fun l H2 => th σ H2 fun u H3 => uSl K x l u H3 Q
end
end L2.EX

set_option Elab.async false
set_option linter.all false
set_option maxRecDepth 100000
namespace L2.EX
open PySem PySem.Spec PyProof.Rows
/-! ### values as plain data -/
theorem Same.tup {K : PySem.W.Frag} {H H' : Hp} {a : Addr} {xs : List V} (e : Same H H') (h : SqT K H a xs) : SqT K H' a xs := by
  rcases h with (h | ⟨o, h⟩) | h
  · exact .inl (.inl (e _ _ h))
  · exact .inl (.inr ⟨o, e _ _ h⟩)
  · exact .inr h
theorem same_new {H : Hp} {p : Addr} (h : H p = none) (o : HO) : Same H (upd H p o) := fun b u q => by rw [upd_ne (ne_of_none q h)]; exact q
mutual
def Is (K : PySem.W.Frag) (H : Hp) : V → PyData → Prop
  | v, .none => v = .non
  | v, .bool b => v = .bl b
  | v, .int i => v = .int i
  | v, .str x => v = .str x
  | v, .list ds => ∃ a xs, v = .ref a ∧ H a = some (.lst xs) ∧ IsAll K H xs ds
  | v, .tuple ds => ∃ a xs, v = .ref a ∧ H a = some (.tup xs) ∧ IsAll K H xs ds
  | _, .dict _ => False
def IsAll (K : PySem.W.Frag) (H : Hp) : List V → List PyData → Prop
  | xs, [] => xs = []
  | xs, d :: ds => ∃ v vs, xs = v :: vs ∧ Is K H v d ∧ IsAll K H vs ds
end
mutual
theorem Is.same {K : PySem.W.Frag} {H H' : Hp} (s : Same H H') : ∀ (d : PyData) (v : V), Is K H v d → Is K H' v d
  | .none, v, h => by simp only [Is] at h ⊢; exact h
  | .bool b, v, h => by simp only [Is] at h ⊢; exact h
  | .int i, v, h => by simp only [Is] at h ⊢; exact h
  | .str x, v, h => by simp only [Is] at h ⊢; exact h
  | .list ds, v, h => by
    simp only [Is] at h ⊢
    obtain ⟨a, xs, e, q, r⟩ := h
    exact ⟨a, xs, e, s _ _ q, IsAll.same s ds xs r⟩
  | .tuple ds, v, h => by
    simp only [Is] at h ⊢
    obtain ⟨a, xs, e, q, r⟩ := h
    exact ⟨a, xs, e, s _ _ q, IsAll.same s ds xs r⟩
  | .dict _, v, h => by simp only [Is] at h
theorem IsAll.same {K : PySem.W.Frag} {H H' : Hp} (s : Same H H') : ∀ (ds : List PyData) (xs : List V), IsAll K H xs ds → IsAll K H' xs ds
  | [], xs, h => by simp only [IsAll] at h ⊢; exact h
  | d :: ds, xs, h => by
    simp only [IsAll] at h ⊢
    obtain ⟨v, vs, e, q, r⟩ := h
    exact ⟨v, vs, e, Is.same s d v q, IsAll.same s ds vs r⟩
end
section
variable {X : Cx} {pins : List (Addr × Obj)} {σ : St} {H : Hp} {s : Shared}
mutual
theorem Is.reads (I : Inv X pins σ H s) : ∀ (d : PyData) (v : V) (u : Value), Is X.K H v d → RelV v u → ∃ as, Reads s.heap u d as
  | .none, v, u, h, r => by
    simp only [Is] at h
    subst h
    cases r
    exact ⟨_, .none⟩
  | .bool b, v, u, h, r => by
    simp only [Is] at h
    subst h
    cases r
    exact ⟨_, .bool b⟩
  | .int i, v, u, h, r => by
    simp only [Is] at h
    subst h
    obtain ⟨t, rfl⟩ := r
    exact ⟨_, .int i t⟩
  | .str x, v, u, h, r => by
    simp only [Is] at h
    subst h
    obtain ⟨t, rfl⟩ := r
    exact ⟨_, .str x t⟩
  | .list ds, v, u, h, r => by
    simp only [Is] at h
    obtain ⟨a, xs, rfl, q, al⟩ := h
    cases r
    obtain ⟨its, rv, ⟨o, n, e, c, _, hd⟩, _⟩ := I.list (SqL.of q)
    obtain ⟨as, ra⟩ := IsAll.reads I ds xs its al rv
    exact ⟨_, .list e c hd (by simpa using ra)⟩
  | .tuple ds, v, u, h, r => by
    simp only [Is] at h
    obtain ⟨a, xs, rfl, q, al⟩ := h
    cases r
    obtain ⟨its, rv, ⟨o, e, c, n, hd⟩, _⟩ := I.tuple (SqT.of q)
    obtain ⟨as, ra⟩ := IsAll.reads I ds xs its al rv
    exact ⟨_, .tuple e c hd (by simpa using ra)⟩
  | .dict _, v, u, h, r => by simp only [Is] at h
theorem IsAll.reads (I : Inv X pins σ H s) : ∀ (ds : List PyData) (xs : List V) (us : List Value), IsAll X.K H xs ds → Vals xs us → ∃ as, ReadsAll s.heap us ds as
  | [], xs, us, h, r => by
    simp only [IsAll] at h
    subst h
    cases r
    exact ⟨_, .nil⟩
  | d :: ds, xs, us, h, r => by
    simp only [IsAll] at h
    obtain ⟨v, vs, rfl, q, al⟩ := h
    cases r with
    | cons r1 r2 =>
      obtain ⟨as, ra⟩ := Is.reads I d v _ q r1
      obtain ⟨bs, rb⟩ := IsAll.reads I ds vs _ al r2
      exact ⟨_, .cons ra rb⟩
end
end
theorem isAll_at {K : PySem.W.Frag} {H : Hp} : ∀ {ds : List PyData} {xs : List V} {i : Nat} {x : V}, IsAll K H xs ds → xs[i]? = some x → ∃ d, ds[i]? = some d ∧ Is K H x d
  | [], xs, i, x, h, e => by simp only [IsAll] at h; subst h; simp at e
  | d :: ds, xs, i, x, h, e => by
    simp only [IsAll] at h
    obtain ⟨v, vs, rfl, q, al⟩ := h
    cases i with
    | zero => simp at e; subst e; exact ⟨d, rfl, q⟩
    | succ i =>
      obtain ⟨d', h1, h2⟩ := isAll_at (i := i) al (by simpa using e)
      exact ⟨d', by simpa using h1, h2⟩
theorem isAll_get {K : PySem.W.Frag} {H : Hp} : ∀ {ds : List PyData} {xs : List V} {i : Nat} {d : PyData}, IsAll K H xs ds → ds[i]? = some d → ∃ x, xs[i]? = some x ∧ Is K H x d
  | [], xs, i, x, h, e => by simp at e
  | d :: ds, xs, i, x, h, e => by
    simp only [IsAll] at h
    obtain ⟨v, vs, rfl, q, al⟩ := h
    cases i with
    | zero => simp at e; subst e; exact ⟨v, rfl, q⟩
    | succ i =>
      obtain ⟨d', h1, h2⟩ := isAll_get (i := i) al (by simpa using e)
      exact ⟨d', by simpa using h1, h2⟩
theorem isAll_app {K : PySem.W.Frag} {H : Hp} : ∀ {ds es : List PyData} {xs ys : List V}, IsAll K H xs ds → IsAll K H ys es → IsAll K H (xs ++ ys) (ds ++ es)
  | [], es, xs, ys, h, g => by simp only [IsAll] at h; subst h; exact g
  | d :: ds, es, xs, ys, h, g => by
    simp only [IsAll] at h
    obtain ⟨v, vs, rfl, q, al⟩ := h
    show IsAll K H (v :: (vs ++ ys)) (d :: (ds ++ es))
    simp only [IsAll]
    exact ⟨v, vs ++ ys, rfl, q, isAll_app al g⟩
theorem isAll_one {K : PySem.W.Frag} {H : Hp} {v : V} {d : PyData} (h : Is K H v d) : IsAll K H [v] [d] := by
  simp only [IsAll]
  exact ⟨v, [], rfl, h, rfl⟩
theorem isAll_nil {K : PySem.W.Frag} {H : Hp} : IsAll K H [] [] := by simp only [IsAll]
theorem isAll_cons {K : PySem.W.Frag} {H : Hp} {v : V} {vs : List V} {d : PyData} {ds : List PyData} (h : Is K H v d) (g : IsAll K H vs ds) : IsAll K H (v :: vs) (d :: ds) := by
  simp only [IsAll]
  exact ⟨v, vs, rfl, h, g⟩
theorem isAll_snoc {K : PySem.W.Frag} {H : Hp} {v : V} {vs : List V} {d : PyData} {ds : List PyData} (g : IsAll K H vs ds) (h : Is K H v d) : IsAll K H (vs ++ [v]) (ds ++ [d]) := isAll_app g (isAll_one h)
theorem isAll_ints {K : PySem.W.Frag} {H : Hp} : ∀ (ns : List Int), IsAll K H (ns.map V.int) (ns.map PyData.int)
  | [] => isAll_nil
  | n :: ns => isAll_cons (by simp only [Is]) (isAll_ints ns)
theorem isAll_bls {K : PySem.W.Frag} {H : Hp} : ∀ (ns : List Bool), IsAll K H (ns.map V.bl) (ns.map PyData.bool)
  | [] => isAll_nil
  | n :: ns => isAll_cons (by simp only [Is]) (isAll_bls ns)
theorem is_list {K : PySem.W.Frag} {H : Hp} {v : V} {ds : List PyData} : Is K H v (.list ds) ↔ ∃ a xs, v = .ref a ∧ H a = some (.lst xs) ∧ IsAll K H xs ds := by simp only [Is]
theorem is_tuple {K : PySem.W.Frag} {H : Hp} {v : V} {ds : List PyData} : Is K H v (.tuple ds) ↔ ∃ a xs, v = .ref a ∧ H a = some (.tup xs) ∧ IsAll K H xs ds := by simp only [Is]
def frac (n d : Int) : PyData := .tuple [.int n, .int d]
theorem is_frac {K : PySem.W.Frag} {H : Hp} {v : V} {n d : Int} : Is K H v (frac n d) ↔ ∃ a, v = .ref a ∧ H a = some (.tup [.int n, .int d]) := by
  unfold frac
  rw [is_tuple]
  constructor
  · rintro ⟨a, xs, rfl, h, al⟩
    simp only [IsAll, Is] at al
    obtain ⟨_, _, rfl, rfl, _, _, rfl, rfl, rfl⟩ := al
    exact ⟨a, rfl, h⟩
  · rintro ⟨a, rfl, h⟩
    exact ⟨a, _, rfl, h, isAll_ints [n, d]⟩
def Sh (n : Nat) (d : PyData) : Prop := d.canLay0 = true ∧ d.depth ≤ n
theorem sh_int {n : Nat} (i : Int) : Sh n (.int i) := ⟨by simp only [PyData.canLay0], by simp only [PyData.depth]; omega⟩
theorem sh_bool {n : Nat} (i : Bool) : Sh n (.bool i) := ⟨by simp only [PyData.canLay0], by simp only [PyData.depth]; omega⟩
theorem sh_all {n : Nat} {ds : List PyData} (h : ∀ d ∈ ds, Sh n d) : PyData.canLayAll0 ds = true ∧ PyData.depthAll ds ≤ n := by
  induction ds with
  | nil => exact ⟨by simp only [PyData.canLayAll0], by simp only [PyData.depthAll]; omega⟩
  | cons d ds ih =>
    obtain ⟨h1, h2⟩ := h d List.mem_cons_self
    obtain ⟨h3, h4⟩ := ih fun x hx => h x (List.mem_cons_of_mem _ hx)
    refine ⟨by simp only [PyData.canLayAll0, h1, h3, Bool.and_self], ?_⟩
    simp only [PyData.depthAll]
    omega
theorem sh_list {n : Nat} {ds : List PyData} (h : ∀ d ∈ ds, Sh n d) : Sh (n + 1) (.list ds) := ⟨by simp only [PyData.canLay0]; exact (sh_all h).1, by simp only [PyData.depth]; have := (sh_all h).2; omega⟩
theorem sh_tuple {n : Nat} {ds : List PyData} (h : ∀ d ∈ ds, Sh n d) : Sh (n + 1) (.tuple ds) := ⟨by simp only [PyData.canLay0]; exact (sh_all h).1, by simp only [PyData.depth]; have := (sh_all h).2; omega⟩
theorem sh_frac {n : Nat} (a b : Int) : Sh (n + 1) (frac a b) := sh_tuple fun d hd => by
  simp only [List.mem_cons, List.not_mem_nil, or_false] at hd
  rcases hd with rfl | rfl <;> exact sh_int _
theorem sh_bls {n : Nat} (ns : List Bool) : Sh (n + 1) (.list (ns.map PyData.bool)) := sh_list fun d hd => by
  obtain ⟨i, _, rfl⟩ := List.mem_map.mp hd
  exact sh_bool _
theorem Sh.shaped {d : PyData} (h : Sh 60 d) : PySem.SeqAt.shaped d = true := by
  unfold PySem.SeqAt.shaped
  rw [h.1, decide_eq_true (Nat.le_trans h.2 (by decide))]
  rfl
theorem Sh.le {m n : Nat} {d : PyData} (h : Sh m d) (k : m ≤ n) : Sh n d := ⟨h.1, Nat.le_trans h.2 k⟩
theorem eqv_same {d : PyData} (h : Sh 60 d) : PyData.eqv d d = true := PySem.SeqAt.eqv_refl d h.1
section
variable {X : Cx}
def uEqD (K : PySem.W.Frag) (x y : V) (H : Hp) (Q : VK) : Prop := ∃ d d', Is K H x d ∧ Is K H y d' ∧ Sh 60 d ∧ Sh 60 d' ∧ Q (.bl (PyData.eqv d d')) H
def uNeD (K : PySem.W.Frag) (x y : V) (H : Hp) (Q : VK) : Prop := ∃ d d', Is K H x d ∧ Is K H y d' ∧ Sh 60 d ∧ Sh 60 d' ∧ Q (.bl (!PyData.eqv d d')) H
theorem hu64 {k : Nat} {A : Around} (hr : Room k A) : A.units + 64 < cLine := by have := hr.un; omega
theorem uo_eqD {k : Nat} (hr : Room k X.A) : OpR X (compareOp .Eq) (uEqD X.K) := by
  intro pins s σ H x y v u Q I rx ry h
  obtain ⟨d, d', h1, h2, s1, s2, q⟩ := h
  obtain ⟨as, ra⟩ := Is.reads I d x v h1 rx
  obtain ⟨bs, rb⟩ := Is.reads I d' y u h2 ry
  exact PySem.SeqAt.compareEq_shaped ra rb s1.shaped s2.shaped (hu64 hr) ⟨.bl (PyData.eqv d d'), H, I, rfl, q⟩
theorem uo_neD {k : Nat} (hr : Room k X.A) : OpR X (compareOp .NotEq) (uNeD X.K) := by
  intro pins s σ H x y v u Q I rx ry h
  obtain ⟨d, d', h1, h2, s1, s2, q⟩ := h
  obtain ⟨as, ra⟩ := Is.reads I d x v h1 rx
  obtain ⟨bs, rb⟩ := Is.reads I d' y u h2 ry
  exact PySem.SeqAt.compareNe_shaped ra rb s1.shaped s2.shaped (hu64 hr) ⟨.bl (!PyData.eqv d d'), H, I, rfl, q⟩
def xNever : TS := fun _ _ _ => False
theorem cs_never {st : Stmt} : PS X st xNever := fun _ _ _ _ _ _ h => h.elim
def xWhileM (c : TT) (tb : TS) (D : Ends) (σ : St) (H : Hp) : Prop := ∃ W : Nat → St → Hp → Prop, (∃ m, W m σ H) ∧ ∀ m σ H, W m σ H →
  c σ H fun b H1 => if b = true then tb { D with nx := fun σ' H' => ∃ m', m' < m ∧ W m' σ' H', ct := fun σ' H' => ∃ m', m' < m ∧ W m' σ' H', bk := D.nx } σ H1 else D.nx σ H1
end
end L2.EX

set_option Elab.async false
set_option linter.all false
set_option maxRecDepth 100000
namespace L2.EX
open PySem PySem.Spec PyProof.Rows
/-! ### any, sum, min of a list -/
section
variable {X : Cx}
theorem walked {pins : List (Addr × Obj)} {σ : St} {H : Hp} {s : Shared} (I : Inv X pins σ H s) {o : Obj} {h' : Heap} {tk : Nat} (hk : ∀ b ob, b ∉ [s.heap.objs.size] → (s.heap.push o).get? b = some ob → h'.get? b = some ob) : Inv X pins σ H { s with heap := h', toks := tk } :=
  I.kept (t' := tk) fun b ob e => hk b ob (by
    intro z
    have e1 : b = s.heap.objs.size := List.mem_singleton.mp z
    have e2 := Heap.lt_size e
    rw [e1] at e2
    exact Nat.lt_irrefl _ e2) (Heap.get?_push_of_some _ e)
def uAny (K : PySem.W.Frag) (xs : List V) (H : Hp) (Q : VK) : Prop := match xs with
  | [.ref p] => ∃ bs : List Bool, SqL K H p (bs.map V.bl) ∧ Q (.bl (bs.any id)) H
  | _ => False
@[reducible] def uSum (K : PySem.W.Frag) (xs : List V) (H : Hp) (Q : VK) : Prop := match xs with
  | [.ref p] => ∃ ns : List Int, (SqL K H p (ns.map V.int)) ∧ Q (.int ns.sum) H
  | _ => False
@[reducible] def uMin1 (K : PySem.W.Frag) (xs : List V) (H : Hp) (Q : VK) : Prop := match xs with
  | [.ref p] => ∃ ns : List Int, SqL K H p (ns.map V.int) ∧ ns ≠ [] ∧ ∀ z, z ∈ ns → (∀ y ∈ ns, z ≤ y) → Q (.int z) H
  | _ => False
end
end L2.EX

namespace PM
/-! The mathematics of a pour: ends, ties, loads, ways. -/
structure Net where
  G : Nat
  nE : Nat
  ends : List (Nat × Nat)
  at' : List (List Nat)
structure Net.WF (N : Net) : Prop where
  gle : N.G ≤ N.nE
  len : N.at'.length = N.nE
  lo : ∀ (k : Nat) p, N.ends[k]? = some p → p.1 < N.G ∧ N.G ≤ p.2 ∧ p.2 < N.nE
  mem : ∀ (e : Nat) l k, N.at'[e]? = some l → (k ∈ l ↔ ∃ p, N.ends[k]? = some p ∧ (p.1 = e ∨ p.2 = e))
def inc (p : Nat × Nat) (e : Nat) : Bool := decide (p.1 = e ∨ p.2 = e)
def load : List (Nat × Nat) → List Int → Nat → Int
  | p :: r, s :: q, e => (if inc p e then s else 0) + load r q e
  | _, _, _ => 0
def addAll (a : Int) (sent : List Int) (l : List Nat) : List Int := l.foldl (fun s k => s.set k (s.getD k 0 + a)) sent
def alt {α : Type} : Bool → List α → List α
  | _, [] => []
  | true, x :: r => x :: alt false r
  | false, _ :: r => alt true r
def Tie (N : Net) (a k b : Nat) : Prop := ∃ p, N.ends[k]? = some p ∧ ((p.1 = a ∧ p.2 = b) ∨ (p.2 = a ∧ p.1 = b))
def one (c : Prop) [Decidable c] : Int := if c then 1 else 0
structure Flow (N : Net) (cap sent spare : List Int) : Prop where
  ls : sent.length = N.ends.length
  lc : cap.length = N.nE
  lp : spare.length = N.nE
  nn : ∀ (k : Nat) s, sent[k]? = some s → 0 ≤ s
  eq : ∀ (e : Nat) c s, cap[e]? = some c → spare[e]? = some s → s = c - load N.ends sent e
  sp : ∀ (e : Nat) s, spare[e]? = some s → 0 ≤ s
def Go (N : Net) (sent : List Int) (a k : Nat) : Prop := a < N.G ∨ ∃ s, sent[k]? = some s ∧ 0 < s
def Lv (steps : List Int) (e : Nat) : Int := steps.getD e (-1)
structure Path (N : Net) (steps sent : List Int) (es way : List Nat) : Prop where
  len : es.length = way.length + 1
  link : ∀ (i : Nat) k, way[i]? = some k → ∃ a b, es[i]? = some a ∧ es[i + 1]? = some b ∧ Tie N a k b ∧ Go N sent a k ∧ Lv steps b = Lv steps a + 1
theorem Path.lev {N : Net} {steps sent : List Int} {es way : List Nat} (P : Path N steps sent es way) {g : Nat} (h0 : es[0]? = some g) : ∀ {i e : Nat}, es[i]? = some e → Lv steps e = Lv steps g + i
  | 0, e, h => by
    rw [h0] at h
    cases h
    simp
  | i + 1, e, h => by
    have hi : i + 1 < es.length := (List.getElem?_eq_some_iff.mp h).1
    have hw : i < way.length := by have := P.len; omega
    obtain ⟨a, b, ea, eb, _, _, hl⟩ := P.link i way[i] (List.getElem?_eq_getElem hw)
    rw [h] at eb
    cases eb
    have := P.lev h0 ea
    rw [hl, this]
    push_cast
    omega
def sendBy (a : Int) (sent : List Int) (way : List Nat) : List Int := addAll (-a) (addAll a sent (alt true way)) (alt false way)
structure Steps (N : Net) (sent spare steps : List Int) : Prop where
  len : steps.length = N.nE
  zero : ∀ e, Lv steps e = 0 → e < N.G ∧ ∃ x, spare[e]? = some x ∧ 0 < x
  src : ∀ (g : Nat) x, g < N.G → spare[g]? = some x → 0 < x → Lv steps g = 0
  pred : ∀ e, 1 ≤ Lv steps e → ∃ a k, Tie N a k e ∧ Go N sent a k ∧ Lv steps a + 1 = Lv steps e
def Room (N : Net) (spare : List Int) (e : Nat) : Prop := N.G ≤ e ∧ ∃ x, spare[e]? = some x ∧ 0 < x
def Closed (N : Net) (sent steps : List Int) : Prop := ∀ a k b, Tie N a k b → Go N sent a k → 0 ≤ Lv steps a → 0 ≤ Lv steps b
def Leads (N : Net) (sent steps : List Int) (a k b : Nat) : Prop := Tie N a k b ∧ Go N sent a k ∧ Lv steps b = Lv steps a + 1
def Exh (N : Net) (spare tried : List Int) (e : Nat) : Prop := ¬ Room N spare e ∧ ∃ l, N.at'[e]? = some l ∧ tried[e]? = some (l.length : Int)
def Dead (N : Net) (sent spare steps tried : List Int) : Prop := ∀ (e : Nat) l (j : Nat) k t, N.at'[e]? = some l → l[j]? = some k → tried[e]? = some t → (j : Int) < t → ∀ b, Leads N sent steps e k b → Exh N spare tried b
theorem Tie.mem {N : Net} (W : N.WF) {a k b : Nat} {l : List Nat} (t : Tie N a k b) (h : N.at'[a]? = some l) : k ∈ l := by
  obtain ⟨p, e, q⟩ := t
  refine (W.mem a l k h).mpr ⟨p, e, ?_⟩
  rcases q with ⟨q, _⟩ | ⟨q, _⟩
  · exact .inl q
  · exact .inr q
theorem Dead.next {N : Net} (W : N.WF) {sent spare steps tried : List Int} (D : Dead N sent spare steps tried) {a k b : Nat} (x : Exh N spare tried a) (h : Leads N sent steps a k b) : Exh N spare tried b := by
  obtain ⟨_, l, h1, h2⟩ := x
  have hm := h.1.mem W h1
  obtain ⟨j, hj⟩ := List.getElem?_of_mem hm
  have hjl : j < l.length := (List.getElem?_eq_some_iff.mp hj).1
  exact D a l j k _ h1 hj h2 (by omega) b h
theorem Dead.all {N : Net} (W : N.WF) {sent spare steps tried : List Int} (S : Steps N sent spare steps) (D : Dead N sent spare steps tried) (h : ∀ g, Lv steps g = 0 → Exh N spare tried g) : ∀ (d : Nat) e, Lv steps e = d → Exh N spare tried e
  | 0, e, he => h e (by simpa using he)
  | d + 1, e, he => by
    obtain ⟨a, k, t, g, l⟩ := S.pred e (by rw [he]; push_cast; omega)
    have ha : Lv steps a = d := by push_cast at he; omega
    exact D.next W (Dead.all W S D h d a ha) ⟨t, g, by omega⟩
theorem Steps.least {N : Net} {sent spare steps : List Int} (S : Steps N sent spare steps) (T : Nat → Prop) (h1 : ∀ (g : Nat) x, g < N.G → spare[g]? = some x → 0 < x → T g) (h2 : ∀ a k b, Tie N a k b → Go N sent a k → T a → T b) : ∀ (d : Nat) e, Lv steps e = d → T e
  | 0, e, he => by
    obtain ⟨hg, x, hx, h0⟩ := S.zero e (by simpa using he)
    exact h1 e x hg hx h0
  | d + 1, e, he => by
    obtain ⟨a, k, t, g, l⟩ := S.pred e (by rw [he]; push_cast; omega)
    exact h2 a k e t g (Steps.least S T h1 h2 d a (by push_cast at he; omega))
theorem Tie.symm {N : Net} {a k b : Nat} (t : Tie N a k b) : Tie N b k a := by
  obtain ⟨p, e, h⟩ := t
  exact ⟨p, e, h.symm.imp (fun z => ⟨z.2, z.1⟩) (fun z => ⟨z.2, z.1⟩)⟩

structure Rows (N : Net) (sent spare : List Int) (d : Nat) (row : List Nat) (steps : List Int) : Prop where
  st : Steps N sent spare steps
  row : ∀ e, e ∈ row ↔ Lv steps e = d
  top : ∀ e, Lv steps e ≤ d
  exp : ∀ a k b, Tie N a k b → Go N sent a k → 0 ≤ Lv steps a → Lv steps a < d → 0 ≤ Lv steps b
  dry : ∀ e, 0 ≤ Lv steps e → Lv steps e < d → ¬ Room N spare e
structure Behind (N : Net) (sent : List Int) (d : Nat) (row : List Nat) (steps0 : List Int) (done : Nat → Nat → Prop) (steps : List Int) (behind : List Nat) : Prop where
  len : steps.length = steps0.length
  old : ∀ e, 0 ≤ Lv steps0 e → Lv steps e = Lv steps0 e
  new : ∀ e, Lv steps0 e < 0 → (Lv steps e = d + 1 ∧ e ∈ behind ∧ ∃ a k, a ∈ row ∧ Tie N a k e ∧ Go N sent a k) ∨ (Lv steps e < 0 ∧ e ∉ behind)
  beh : ∀ e ∈ behind, Lv steps0 e < 0
  cl : ∀ a k b, done a k → Tie N a k b → Go N sent a k → 0 ≤ Lv steps b
theorem Rows.next {N : Net} {sent spare : List Int} {d : Nat} {row : List Nat} {steps0 steps : List Int} {behind : List Nat} (R : Rows N sent spare d row steps0) (B : Behind N sent d row steps0 (fun a _ => a ∈ row) steps behind) (hd : ∀ e ∈ row, ¬ Room N spare e) : Rows N sent spare (d + 1) behind steps := by
  have up : ∀ e, 0 ≤ Lv steps e → 0 ≤ Lv steps0 e ∨ (Lv steps e = d + 1 ∧ e ∈ behind ∧ ∃ a k, a ∈ row ∧ Tie N a k e ∧ Go N sent a k) := fun e he => by
    rcases Int.lt_or_le (Lv steps0 e) 0 with z | z
    · rcases B.new e z with h | ⟨h, _⟩
      · exact .inr h
      · omega
    · exact .inl z
  refine ⟨⟨by rw [B.len]; exact R.st.len, fun e he => ?_, fun g x hg hx h0 => ?_, fun e he => ?_⟩, fun e => ⟨fun he => ?_, fun he => ?_⟩, fun e => ?_, fun a k b t g h0 h1 => ?_, fun e h0 h1 => ?_⟩
  · rcases up e (by omega) with z | ⟨z, _⟩
    · exact R.st.zero e (by rw [← B.old e z]; exact he)
    · omega
  · have := R.st.src g x hg hx h0
    rw [B.old g (by omega)]
    exact this
  · rcases up e (by omega) with z | ⟨z, _, a, k, ha, t, g⟩
    · obtain ⟨a, k, t, g, l⟩ := R.st.pred e (by rw [← B.old e z]; exact he)
      have h1 := B.old e z
      have h2 := B.old a (by omega)
      exact ⟨a, k, t, g, by omega⟩
    · have h1 := (R.row a).mp ha
      have h2 := B.old a (by omega)
      exact ⟨a, k, t, g, by omega⟩
  · rcases B.new e (B.beh e he) with ⟨h, _⟩ | ⟨_, h⟩
    · push_cast; exact h
    · exact absurd he h
  · push_cast at he
    rcases up e (by omega) with z | ⟨_, z, _⟩
    · have := B.old e z
      have := R.top e
      omega
    · exact z
  · rcases Int.lt_or_le (Lv steps e) 0 with z | z
    · omega
    · rcases up e z with z' | ⟨z', _⟩
      · have := B.old e z'
        have := R.top e
        push_cast; omega
      · push_cast; omega
  · push_cast at h1
    rcases up a h0 with z | ⟨z, _⟩
    · have h2 := B.old a z
      rcases Int.lt_or_le (Lv steps a) d with h3 | h3
      · have := R.exp a k b t g z (by omega)
        have := B.old b this
        omega
      · exact B.cl a k b ((R.row a).mpr (by omega)) t g
    · omega
  · push_cast at h1
    rcases up e h0 with z | ⟨z, _⟩
    · have h2 := B.old e z
      rcases Int.lt_or_le (Lv steps e) d with h3 | h3
      · exact R.dry e z (by omega)
      · exact hd e ((R.row e).mpr (by omega))
    · omega
end PM

set_option linter.all false
namespace PM
/-! ### the walk along the steps -/
structure Tr (N : Net) (tried : List Int) : Prop where
  len : tried.length = N.nE
  ok : ∀ (e : Nat) l t, N.at'[e]? = some l → tried[e]? = some t → 0 ≤ t ∧ t ≤ l.length
theorem set_at {l : List Int} {e b : Nat} {v : Int} (h : b ≠ e) : (l.set e v)[b]? = l[b]? := List.getElem?_set_ne (Ne.symm h)
theorem Exh.keep {N : Net} {spare tried : List Int} {e b : Nat} {l : List Nat} {t v : Int} (x : Exh N spare tried b) (h1 : N.at'[e]? = some l) (h2 : tried[e]? = some t) (h3 : t < l.length) : Exh N spare (tried.set e v) b := by
  obtain ⟨n, l', h4, h5⟩ := x
  refine ⟨n, l', h4, ?_⟩
  have hne : b ≠ e := by
    rintro rfl
    rw [h1] at h4
    cases h4
    rw [h2] at h5
    cases h5
    omega
  rw [set_at hne]
  exact h5
theorem Dead.step {N : Net} {sent spare steps tried : List Int} (D : Dead N sent spare steps tried) {e : Nat} {l : List Nat} {t k : Nat} (h1 : N.at'[e]? = some l) (h2 : tried[e]? = some (t : Int)) (h3 : l[t]? = some k)
    (h : ∀ b, Leads N sent steps e k b → Exh N spare tried b) : Dead N sent spare steps (tried.set e ((t : Int) + 1)) := by
  have hl : t < l.length := (List.getElem?_eq_some_iff.mp h3).1
  have he : e < tried.length := (List.getElem?_eq_some_iff.mp h2).1
  intro e' l' j k' t' g1 g2 g3 g4 b L
  have kp : Exh N spare tried b → Exh N spare (tried.set e ((t : Int) + 1)) b := fun x => x.keep h1 h2 (by omega)
  by_cases q : e' = e
  · subst q
    rw [h1] at g1
    cases g1
    rw [List.getElem?_set_self he] at g3
    cases g3
    by_cases q : j = t
    · subst q
      rw [h3] at g2
      cases g2
      exact kp (h b L)
    · exact kp (D e' l j k' t h1 g2 h2 (by omega) b L)
  · rw [set_at q] at g3
    exact kp (D e' l' j k' t' g1 g2 g3 g4 b L)
theorem Tr.step {N : Net} {tried : List Int} (T : Tr N tried) {e : Nat} {l : List Nat} {t : Nat} (h1 : N.at'[e]? = some l) (h2 : tried[e]? = some (t : Int)) (h3 : t < l.length) : Tr N (tried.set e ((t : Int) + 1)) := by
  have he : e < tried.length := (List.getElem?_eq_some_iff.mp h2).1
  refine ⟨by simpa using T.len, fun e' l' t' g1 g2 => ?_⟩
  by_cases q : e' = e
  · subst q
    rw [h1] at g1
    cases g1
    rw [List.getElem?_set_self he] at g2
    cases g2
    constructor <;> omega
  · rw [set_at q] at g2
    exact T.ok e' l' t' g1 g2
structure Walk (N : Net) (sent spare steps : List Int) (g : Nat) (tried : List Int) (es way : List Nat) : Prop where
  tr : Tr N tried
  dead : Dead N sent spare steps tried
  path : es ≠ [] → Path N steps sent es way ∧ es[0]? = some g
  none : es = [] → way = [] ∧ Exh N spare tried g
  on : ∀ (i : Nat) k e, way[i]? = some k → es[i]? = some e → ¬ Room N spare e ∧ ∃ l t, N.at'[e]? = some l ∧ tried[e]? = some ((t : Nat) : Int) ∧ l[t]? = some k
theorem Path.inj {N : Net} {steps sent : List Int} {es way : List Nat} (P : Path N steps sent es way) {g : Nat} (h0 : es[0]? = some g) {i j e : Nat} (h1 : es[i]? = some e) (h2 : es[j]? = some e) : i = j := by
  have a := P.lev h0 h1
  have b := P.lev h0 h2
  omega
theorem Walk.push {N : Net} {sent spare steps tried : List Int} {g : Nat} {es way : List Nat} (w : Walk N sent spare steps g tried es way) {e b : Nat} {l : List Nat} {t k : Nat} (he : es.getLast? = some e) (h1 : N.at'[e]? = some l) (h2 : tried[e]? = some (t : Int)) (h3 : l[t]? = some k)
    (h : Leads N sent steps e k b) (hr : ¬ Room N spare e) : Walk N sent spare steps g tried (es ++ [b]) (way ++ [k]) := by
  have hne : es ≠ [] := by
    rintro rfl
    simp at he
  obtain ⟨P, h0⟩ := w.path hne
  have hlast : es[way.length]? = some e := by
    rw [List.getLast?_eq_getElem?] at he
    have := P.len
    rw [show es.length - 1 = way.length by omega] at he
    exact he
  have hpos : 0 < es.length := List.length_pos_iff.mpr hne
  refine ⟨w.tr, w.dead, fun _ => ⟨⟨by simp [P.len], fun i k' hk => ?_⟩, ?_⟩, fun q => absurd q (by simp), fun i k' e' hk hi => ?_⟩
  · rcases Nat.lt_trichotomy i way.length with q | q | q
    · rw [List.getElem?_append_left q] at hk
      obtain ⟨a, c, ea, ec, r⟩ := P.link i k' hk
      have := P.len
      exact ⟨a, c, by rw [List.getElem?_append_left (by omega)]; exact ea, by rw [List.getElem?_append_left (by omega)]; exact ec, r⟩
    · subst q
      rw [List.getElem?_append_right (Nat.le_refl _)] at hk
      simp at hk
      subst hk
      have := P.len
      refine ⟨e, b, by rw [List.getElem?_append_left (by omega)]; exact hlast, ?_, h.1, h.2.1, h.2.2⟩
      rw [List.getElem?_append_right (by omega), show way.length + 1 - es.length = 0 by omega]
      rfl
    · rw [List.getElem?_append_right (by omega)] at hk
      rw [List.getElem?_eq_none (by simp; omega)] at hk
      cases hk
  · rw [List.getElem?_append_left hpos]
    exact h0
  · rcases Nat.lt_trichotomy i way.length with q | q | q
    · rw [List.getElem?_append_left q] at hk
      have := P.len
      rw [List.getElem?_append_left (by omega)] at hi
      exact w.on i k' e' hk hi
    · subst q
      rw [List.getElem?_append_right (Nat.le_refl _)] at hk
      simp at hk
      subst hk
      have := P.len
      rw [List.getElem?_append_left (by omega), hlast] at hi
      cases hi
      exact ⟨hr, l, t, h1, h2, h3⟩
    · rw [List.getElem?_append_right (by omega)] at hk
      rw [List.getElem?_eq_none (by simp; omega)] at hk
      cases hk
end PM

set_option linter.all false
namespace PM
theorem Room.le {N : Net} {spare spare' : List Int} (h : ∀ (e : Nat) x y, spare[e]? = some x → spare'[e]? = some y → y ≤ x) (hl : spare.length = spare'.length) {e : Nat} (r : Room N spare' e) : Room N spare e := by
  obtain ⟨h1, y, h2, h3⟩ := r
  have he : e < spare.length := by
    have := (List.getElem?_eq_some_iff.mp h2).1
    omega
  have hx : spare[e]? = some spare[e] := List.getElem?_eq_getElem he
  have := h e _ _ hx h2
  exact ⟨h1, _, hx, by omega⟩
structure Sent (N : Net) (cap : List Int) (sent spare : List Int) (way : List Nat) (g f : Nat) (a : Int) (spare' : List Int) : Prop where
  flow : Flow N cap (sendBy a sent way) spare'
  le : ∀ (e : Nat) x y, spare[e]? = some x → spare'[e]? = some y → y ≤ x
  sum : spare'.sum = spare.sum - 2 * a
/-! ### one turn over the gives -/
structure Phase (N : Net) (cap steps sent0 spare0 : List Int) (done : List Nat) (sent spare tried : List Int) : Prop where
  flow : Flow N cap sent spare
  tr : Tr N tried
  dead : Dead N sent spare steps tried
  le : ∀ (e : Nat) x y, spare0[e]? = some x → spare[e]? = some y → y ≤ x
  prog : (sent = sent0 ∧ spare = spare0 ∧ ∀ g ∈ done, Exh N spare tried g) ∨ spare.sum < spare0.sum
/-! ### the end -/
structure Done (N : Net) (cap sent spare steps : List Int) : Prop where
  flow : Flow N cap sent spare
  st : Steps N sent spare steps
  cl : Closed N sent steps
  dry : ∀ e, 0 ≤ Lv steps e → ¬ Room N spare e
def nr (steps : List Int) (e : Nat) : Bool := decide (0 ≤ Lv steps e)
def upTo (f : Nat → Int) : Nat → Int
  | 0 => 0
  | n + 1 => upTo f n + f n
theorem upTo_add (f g : Nat → Int) : ∀ n, upTo (fun e => f e + g e) n = upTo f n + upTo g n
  | 0 => rfl
  | n + 1 => by
    simp only [upTo, upTo_add f g n]
    omega
theorem upTo_zero : ∀ n, upTo (fun _ => 0) n = 0
  | 0 => rfl
  | n + 1 => by simp [upTo, upTo_zero n]
theorem upTo_one (a : Nat) (v : Int) : ∀ n, upTo (fun e => if e = a then v else 0) n = if a < n then v else 0
  | 0 => rfl
  | n + 1 => by
    simp only [upTo, upTo_one a v n]
    by_cases h1 : a < n
    · have h2 : n ≠ a := by omega
      have h3 : a < n + 1 := by omega
      simp [h1, h2, h3]
    · by_cases h2 : n = a
      · subst h2
        simp
      · have h3 : ¬ a < n + 1 := by omega
        simp [h1, h2, h3]
theorem upTo_congr {f g : Nat → Int} : ∀ {n}, (∀ e < n, f e = g e) → upTo f n = upTo g n
  | 0, _ => rfl
  | n + 1, h => by
    simp only [upTo]
    rw [upTo_congr (n := n) fun e he => h e (by omega), h n (by omega)]
theorem load_over {S : Nat → Bool} {n : Nat} : ∀ {ends : List (Nat × Nat)} {sent : List Int}, (∀ p ∈ ends, p.1 ≠ p.2 ∧ p.1 < n ∧ p.2 < n) → sent.length = ends.length →
    upTo (fun e => if S e then load ends sent e else 0) n = ((ends.zip sent).map fun q => (if S q.1.1 then q.2 else 0) + (if S q.1.2 then q.2 else 0)).sum
  | [], [], _, _ => by
    simp [load, upTo_zero]
  | [], _ :: _, _, h => by simp at h
  | _ :: _, [], _, h => by simp at h
  | p :: r, s :: q, h, hl => by
    have ih := load_over (S := S) (n := n) (ends := r) (sent := q) (fun x hx => h x (List.mem_cons_of_mem _ hx)) (by simpa using hl)
    obtain ⟨h1, h2, h3⟩ := h p List.mem_cons_self
    have e : (fun e => if S e then load (p :: r) (s :: q) e else 0) = fun e => ((if e = p.1 then (if S p.1 then s else 0) else 0) + (if e = p.2 then (if S p.2 then s else 0) else 0)) + (if S e then load r q e else 0) := by
      funext e
      simp only [load, inc]
      by_cases a : e = p.1
      · subst a
        by_cases c : S p.1 = true <;> simp [c, h1]
      · by_cases b : e = p.2
        · subst b
          by_cases c : S p.2 = true <;> simp [c, a]
        · have a' : ¬ p.1 = e := fun z => a z.symm
          have b' : ¬ p.2 = e := fun z => b z.symm
          simp [a, b, a', b']
    rw [e, upTo_add, upTo_add, ih, upTo_one, upTo_one, if_pos h2, if_pos h3]
    simp
theorem sum_congr {α : Type} {f g : α → Int} : ∀ {l : List α}, (∀ x ∈ l, f x = g x) → (l.map f).sum = (l.map g).sum
  | [], _ => rfl
  | x :: r, h => by
    simp only [List.map_cons, List.sum_cons]
    rw [h x List.mem_cons_self, sum_congr fun y hy => h y (List.mem_cons_of_mem _ hy)]
theorem zip_snd : ∀ {α : Type} {xs : List α} {ys : List Int}, ys.length = xs.length → ((xs.zip ys).map fun q => q.2).sum = ys.sum
  | _, [], [], _ => rfl
  | _, [], _ :: _, h => by simp at h
  | _, _ :: _, [], h => by simp at h
  | _, x :: r, y :: q, h => by
    have ih := zip_snd (xs := r) (ys := q) (by simpa using h)
    simp only [List.zip_cons_cons, List.map_cons, List.sum_cons, ih]
theorem Done.bound {N : Net} (W : N.WF) {cap sent spare steps : List Int} (D : Done N cap sent spare steps) :
    sent.sum = upTo (fun e => if (if e < N.G then !nr steps e else nr steps e) then cap.getD e 0 else 0) N.nE := by
  have hw : ∀ p ∈ N.ends, p.1 ≠ p.2 ∧ p.1 < N.nE ∧ p.2 < N.nE := fun p hp => by
    obtain ⟨k, hk⟩ := List.getElem?_of_mem hp
    have := W.lo k p hk
    have := W.gle
    refine ⟨?_, ?_, ?_⟩ <;> omega
  have h1 : upTo (fun e => if (if e < N.G then !nr steps e else nr steps e) then cap.getD e 0 else 0) N.nE = upTo (fun e => if (if e < N.G then !nr steps e else nr steps e) then load N.ends sent e else 0) N.nE := by
    refine upTo_congr fun e he => ?_
    by_cases c : (if e < N.G then !nr steps e else nr steps e) = true
    · rw [if_pos c, if_pos c]
      have hc : cap[e]? = some (cap[e]'(by rw [D.flow.lc]; exact he)) := List.getElem?_eq_getElem _
      have hs : spare[e]? = some (spare[e]'(by rw [D.flow.lp]; exact he)) := List.getElem?_eq_getElem _
      have q := D.flow.eq e _ _ hc hs
      have n0 := D.flow.sp e _ hs
      have hz : (spare[e]'(by rw [D.flow.lp]; exact he)) = 0 := by
        by_cases hg : e < N.G
        · rw [if_pos hg] at c
          have c' : ¬ 0 ≤ Lv steps e := by simpa [nr] using c
          rcases Int.lt_or_le 0 (spare[e]'(by rw [D.flow.lp]; exact he)) with z | z
          · have := D.st.src e _ hg hs z
            omega
          · omega
        · rw [if_neg hg] at c
          have c' : 0 ≤ Lv steps e := by simpa [nr] using c
          rcases Int.lt_or_le 0 (spare[e]'(by rw [D.flow.lp]; exact he)) with z | z
          · exact absurd ⟨by omega, _, hs, z⟩ (D.dry e c')
          · omega
      have : cap.getD e 0 = cap[e]'(by rw [D.flow.lc]; exact he) := by simp [List.getD, hc]
      omega
    · rw [if_neg c, if_neg c]
  rw [h1, load_over hw D.flow.ls, ← zip_snd D.flow.ls]
  refine sum_congr fun q hq => ?_
  obtain ⟨k, hk⟩ := List.getElem?_of_mem hq
  obtain ⟨p, s⟩ := q
  have hz := List.getElem?_zip_eq_some.mp hk
  obtain ⟨hp, hs⟩ := hz
  have hlo := W.lo k p hp
  have n0 := D.flow.nn k s hs
  have t : Tie N p.1 k p.2 := ⟨p, hp, .inl ⟨rfl, rfl⟩⟩
  have c1 := D.cl p.1 k p.2 t (.inl hlo.1)
  have c2 : 0 ≤ Lv steps p.2 → 0 < s → 0 ≤ Lv steps p.1 := fun h z => D.cl p.2 k p.1 t.symm (.inr ⟨s, hs, z⟩) h
  have g1 : p.1 < N.G := hlo.1
  have g2 : ¬ p.2 < N.G := by omega
  simp only [g1, g2, if_true, if_false, nr]
  by_cases a : 0 ≤ Lv steps p.1 <;> by_cases b : 0 ≤ Lv steps p.2 <;> simp [a, b]
  · exact absurd (c1 a) b
  · have : ¬ 0 < s := fun z => a (c2 b z)
    omega
end PM

set_option linter.all false
namespace PM
/-! ### near is the same for all greatest sendings -/
theorem sum_le {α : Type} {f g : α → Int} : ∀ {l : List α}, (∀ x ∈ l, f x ≤ g x) → (l.map f).sum ≤ (l.map g).sum
  | [], _ => by simp
  | x :: r, h => by
    have := h x List.mem_cons_self
    have := sum_le (f := f) (g := g) (l := r) fun y hy => h y (List.mem_cons_of_mem _ hy)
    simp only [List.map_cons, List.sum_cons]
    omega
theorem sum_eq {α : Type} {f g : α → Int} : ∀ {l : List α}, (∀ x ∈ l, f x ≤ g x) → (l.map g).sum ≤ (l.map f).sum → ∀ x ∈ l, f x = g x
  | [], _, _ => fun _ h => by simp at h
  | x :: r, h, e => by
    have h0 := h x List.mem_cons_self
    have hr : ∀ y ∈ r, f y ≤ g y := fun y hy => h y (List.mem_cons_of_mem _ hy)
    have h1 := sum_le hr
    simp only [List.map_cons, List.sum_cons] at e
    have ih := sum_eq hr (by omega)
    intro y hy
    rcases List.mem_cons.mp hy with rfl | hy
    · omega
    · exact ih y hy
theorem upTo_le {f g : Nat → Int} : ∀ {n}, (∀ e < n, f e ≤ g e) → upTo f n ≤ upTo g n
  | 0, _ => Int.le_refl _
  | n + 1, h => by
    have := upTo_le (f := f) (g := g) (n := n) fun e he => h e (by omega)
    have := h n (by omega)
    simp only [upTo]
    omega
theorem upTo_eq {f g : Nat → Int} : ∀ {n}, (∀ e < n, f e ≤ g e) → upTo g n ≤ upTo f n → ∀ e < n, f e = g e
  | 0, _, _ => fun e he => by omega
  | n + 1, h, q => by
    have h0 : ∀ e < n, f e ≤ g e := fun e he => h e (by omega)
    have h1 := upTo_le h0
    have h2 := h n (by omega)
    simp only [upTo] at q
    have ih := upTo_eq h0 (by omega)
    intro e he
    by_cases c : e = n
    · subst c
      omega
    · exact ih e (by omega)
def side (N : Net) (S : Nat → Bool) (e : Nat) : Bool := if e < N.G then !S e else S e
def bnd (N : Net) (cap : List Int) (S : Nat → Bool) : Int := upTo (fun e => if side N S e then cap.getD e 0 else 0) N.nE
theorem Flow.load_le {N : Net} {cap sent spare : List Int} (F : Flow N cap sent spare) {e : Nat} (he : e < N.nE) : load N.ends sent e ≤ cap.getD e 0 ∧ (spare.getD e 0 = cap.getD e 0 - load N.ends sent e) := by
  have hc : cap[e]? = some (cap[e]'(by rw [F.lc]; exact he)) := List.getElem?_eq_getElem _
  have hs : spare[e]? = some (spare[e]'(by rw [F.lp]; exact he)) := List.getElem?_eq_getElem _
  have q := F.eq e _ _ hc hs
  have n0 := F.sp e _ hs
  have : cap.getD e 0 = cap[e]'(by rw [F.lc]; exact he) := by simp [List.getD, hc]
  have : spare.getD e 0 = spare[e]'(by rw [F.lp]; exact he) := by simp [List.getD, hs]
  omega
theorem Net.WF.two {N : Net} (W : N.WF) : ∀ p ∈ N.ends, p.1 ≠ p.2 ∧ p.1 < N.nE ∧ p.2 < N.nE := fun p hp => by
  obtain ⟨k, hk⟩ := List.getElem?_of_mem hp
  have := W.lo k p hk
  have := W.gle
  refine ⟨?_, ?_, ?_⟩ <;> omega
theorem Flow.term {N : Net} (W : N.WF) {cap sent spare : List Int} (F : Flow N cap sent spare) {S : Nat → Bool} (hS : ∀ a k b, Tie N a k b → a < N.G → S a = true → S b = true) :
    ∀ q ∈ N.ends.zip sent, q.2 ≤ (if side N S q.1.1 then q.2 else 0) + (if side N S q.1.2 then q.2 else 0) := by
  intro q hq
  obtain ⟨k, hk⟩ := List.getElem?_of_mem hq
  obtain ⟨p, s⟩ := q
  obtain ⟨hp, hs⟩ := List.getElem?_zip_eq_some.mp hk
  have hlo := W.lo k p hp
  have n0 := F.nn k s hs
  have t : Tie N p.1 k p.2 := ⟨p, hp, .inl ⟨rfl, rfl⟩⟩
  have g2 : ¬ p.2 < N.G := by omega
  simp only [side, hlo.1, g2, if_true, if_false]
  by_cases a : S p.1 = true
  · have := hS p.1 k p.2 t hlo.1 a
    simp [a, this]
  · by_cases b : S p.2 = true <;> simp [a, b] <;> omega
theorem Flow.sum_le_bnd {N : Net} (W : N.WF) {cap sent spare : List Int} (F : Flow N cap sent spare) {S : Nat → Bool} (hS : ∀ a k b, Tie N a k b → a < N.G → S a = true → S b = true) : sent.sum ≤ bnd N cap S := by
  have h1 := sum_le (F.term W hS)
  rw [zip_snd F.ls, ← load_over (S := side N S) W.two F.ls] at h1
  refine Int.le_trans h1 (upTo_le fun e he => ?_)
  split
  · exact (F.load_le he).1
  · exact Int.le_refl _
theorem Flow.tight {N : Net} (W : N.WF) {cap sent spare : List Int} (F : Flow N cap sent spare) {S : Nat → Bool} (hS : ∀ a k b, Tie N a k b → a < N.G → S a = true → S b = true) (h : bnd N cap S ≤ sent.sum) :
    (∀ (g : Nat) x, g < N.G → spare[g]? = some x → 0 < x → S g = true) ∧ (∀ a k b, Tie N a k b → Go N sent a k → S a = true → S b = true) := by
  have h1 := sum_le (F.term W hS)
  rw [zip_snd F.ls, ← load_over (S := side N S) W.two F.ls] at h1
  have le : ∀ e < N.nE, (if side N S e then load N.ends sent e else 0) ≤ (if side N S e then cap.getD e 0 else 0) := fun e he => by
    split
    · exact (F.load_le he).1
    · exact Int.le_refl _
  have e1 := upTo_eq le (Int.le_trans h h1)
  have h2 : ((N.ends.zip sent).map fun q => (if side N S q.1.1 then q.2 else 0) + (if side N S q.1.2 then q.2 else 0)).sum ≤ ((N.ends.zip sent).map fun q => q.2).sum := by
    rw [zip_snd F.ls, ← load_over (S := side N S) W.two F.ls]
    exact Int.le_trans (upTo_le le) h
  have e2 := sum_eq (F.term W hS) h2
  refine ⟨fun g x hg hx h0 => ?_, fun a k b t go ha => ?_⟩
  · have hlt : g < N.nE := by have := W.gle; omega
    rcases Bool.eq_false_or_eq_true (S g) with z | z
    · exact z
    · have := e1 g hlt
      simp only [side, hg, if_true, z, Bool.not_false] at this
      have q := (F.load_le hlt).2
      have : spare.getD g 0 = x := by simp [List.getD, hx]
      omega
  · by_cases hg : a < N.G
    · exact hS a k b t hg ha
    · rcases go with go | ⟨s, hs, h0⟩
      · exact absurd go hg
      · obtain ⟨p, hp, q⟩ := t
        have hlo := W.lo k p hp
        have hab : p.2 = a ∧ p.1 = b := by
          rcases q with ⟨q1, q2⟩ | q
          · omega
          · exact q
        obtain ⟨rfl, rfl⟩ := hab
        have hm : (p, s) ∈ N.ends.zip sent := List.mem_of_getElem? (i := k) (List.getElem?_zip_eq_some.mpr ⟨hp, hs⟩)
        have := e2 _ hm
        rcases Bool.eq_false_or_eq_true (S p.1) with z | z
        · exact z
        · simp only [side, hlo.1, hg, if_true, if_false, z, ha, Bool.not_false] at this
          omega
theorem Done.bnd {N : Net} (W : N.WF) {cap sent spare steps : List Int} (D : Done N cap sent spare steps) : sent.sum = bnd N cap (nr steps) := D.bound W
theorem Done.ties {N : Net} {cap sent spare steps : List Int} (D : Done N cap sent spare steps) : ∀ a k b, Tie N a k b → a < N.G → nr steps a = true → nr steps b = true := fun a k b t hg h =>
  decide_eq_true (D.cl a k b t (.inl hg) (of_decide_eq_true h))
theorem Done.sub {N : Net} {cap sent spare steps : List Int} (D : Done N cap sent spare steps) {S : Nat → Bool} (h1 : ∀ (g : Nat) x, g < N.G → spare[g]? = some x → 0 < x → S g = true) (h2 : ∀ a k b, Tie N a k b → Go N sent a k → S a = true → S b = true) {e : Nat} (h : nr steps e = true) : S e = true := by
  have h' : 0 ≤ Lv steps e := of_decide_eq_true h
  exact D.st.least (fun e => S e = true) h1 h2 (Lv steps e).toNat e (by omega)
theorem Done.same {N : Net} (W : N.WF) {cap sent spare steps sent' spare' steps' : List Int} (D : Done N cap sent spare steps) (D' : Done N cap sent' spare' steps') : sent.sum = sent'.sum ∧ ∀ e, nr steps e = nr steps' e := by
  have a := D.flow.sum_le_bnd W D'.ties
  have b := D'.flow.sum_le_bnd W D.ties
  have c := D.bnd W
  have d := D'.bnd W
  have t1 := D.flow.tight W D'.ties (by omega)
  have t2 := D'.flow.tight W D.ties (by omega)
  refine ⟨by omega, fun e => ?_⟩
  rw [Bool.eq_iff_iff]
  exact ⟨fun h => D.sub t1.1 t1.2 h, fun h => D'.sub t2.1 t2.2 h⟩
end PM

set_option linter.all false
namespace PM
/-! ### what a pour tells of sets of ends -/
def over (f : Nat → Int) (S : Nat → Bool) (n : Nat) : Int := upTo (fun e => if S e then f e else 0) n
theorem over_eq {f g : Nat → Int} {S : Nat → Bool} {n : Nat} (h : ∀ e < n, S e = true → f e = g e) : over f S n = over g S n := upTo_congr fun e he => by
  by_cases c : S e = true
  · simp only [c, if_true]; exact h e he c
  · simp [c]
theorem load_sides {N : Net} (W : N.WF) {cap sent spare : List Int} (F : Flow N cap sent spare) (S T : Nat → Bool) (hS : ∀ e, S e = true → e < N.G) (hT : ∀ e, T e = true → ¬ e < N.G) :
    over (load N.ends sent) S N.nE = ((N.ends.zip sent).map fun q => if S q.1.1 then q.2 else 0).sum ∧ over (load N.ends sent) T N.nE = ((N.ends.zip sent).map fun q => if T q.1.2 then q.2 else 0).sum := by
  constructor
  · unfold over
    rw [load_over W.two F.ls]
    refine sum_congr fun q hq => ?_
    obtain ⟨k, hk⟩ := List.getElem?_of_mem hq
    obtain ⟨p, s⟩ := q
    obtain ⟨hp, _⟩ := List.getElem?_zip_eq_some.mp hk
    have := W.lo k p hp
    have hn : S p.2 = false := by
      rcases Bool.eq_false_or_eq_true (S p.2) with z | z
      · have := hS _ z; omega
      · exact z
    simp [hn]
  · unfold over
    rw [load_over W.two F.ls]
    refine sum_congr fun q hq => ?_
    obtain ⟨k, hk⟩ := List.getElem?_of_mem hq
    obtain ⟨p, s⟩ := q
    obtain ⟨hp, _⟩ := List.getElem?_zip_eq_some.mp hk
    have := W.lo k p hp
    have hn : T p.1 = false := by
      rcases Bool.eq_false_or_eq_true (T p.1) with z | z
      · exact absurd this.1 (hT _ z)
      · exact z
    simp [hn]
theorem Done.full {N : Net} (W : N.WF) {cap sent spare steps : List Int} (D : Done N cap sent spare steps) {e : Nat} (he : e < N.nE) (h : (e < N.G ∧ nr steps e = false) ∨ (¬ e < N.G ∧ nr steps e = true)) : load N.ends sent e = cap.getD e 0 := by
  have q := (D.flow.load_le he).2
  have hs : spare[e]? = some (spare[e]'(by rw [D.flow.lp]; exact he)) := List.getElem?_eq_getElem _
  have n0 := D.flow.sp e _ hs
  have hg : spare.getD e 0 = spare[e]'(by rw [D.flow.lp]; exact he) := by simp [List.getD, hs]
  have hz : ¬ 0 < (spare[e]'(by rw [D.flow.lp]; exact he)) := fun z => by
    rcases h with ⟨h1, h2⟩ | ⟨h1, h2⟩
    · have := D.st.src e _ h1 hs z
      have : ¬ 0 ≤ Lv steps e := of_decide_eq_false h2
      omega
    · exact D.dry e (of_decide_eq_true h2) ⟨by omega, _, hs, z⟩
  omega
theorem Done.none_sent {N : Net} (W : N.WF) {cap sent spare steps : List Int} (D : Done N cap sent spare steps) {k : Nat} {p : Nat × Nat} {s : Int} (hp : N.ends[k]? = some p) (hs : sent[k]? = some s) (h1 : nr steps p.1 = false) (h2 : nr steps p.2 = true) : s = 0 := by
  have n0 := D.flow.nn k s hs
  rcases Int.lt_or_le 0 s with z | z
  · have t : Tie N p.2 k p.1 := ⟨p, hp, .inr ⟨rfl, rfl⟩⟩
    have := D.cl p.2 k p.1 t (.inr ⟨s, hs, z⟩) (of_decide_eq_true h2)
    have : ¬ 0 ≤ Lv steps p.1 := of_decide_eq_false h1
    omega
  · omega
theorem Done.lo {N : Net} (W : N.WF) {cap sent spare steps : List Int} (D : Done N cap sent spare steps) (S T : Nat → Bool) (hS : ∀ e, S e = true → e < N.G) (hT : ∀ e, T e = true → ¬ e < N.G ∧ nr steps e = true)
    (h : ∀ (k : Nat) (p : Nat × Nat), N.ends[k]? = some p → nr steps p.1 = true → T p.2 = true → S p.1 = true) (hne : ∃ e, e < N.nE ∧ T e = true) : over (fun e => cap.getD e 0) T N.nE < over (fun e => cap.getD e 0) S N.nE := by
  obtain ⟨l1, l2⟩ := load_sides W D.flow S T hS (fun e he => (hT e he).1)
  have e1 : over (fun e => cap.getD e 0) T N.nE = over (load N.ends sent) T N.nE := over_eq fun e he c => (D.full W he (.inr (hT e c))).symm
  have le2 : ∀ e < N.nE, (if S e then load N.ends sent e else 0) ≤ (if S e then cap.getD e 0 else 0) := fun e he => by
    by_cases c : S e = true
    · simp only [c, if_true]; exact (D.flow.load_le he).1
    · simp [c]
  have e2 : over (load N.ends sent) S N.nE ≤ over (fun e => cap.getD e 0) S N.nE := upTo_le le2
  have tm : ∀ q ∈ N.ends.zip sent, (if T q.1.2 then q.2 else 0) ≤ (if S q.1.1 then q.2 else 0) := fun q hq => by
    obtain ⟨k, hk⟩ := List.getElem?_of_mem hq
    obtain ⟨p, s⟩ := q
    obtain ⟨hp, hs⟩ := List.getElem?_zip_eq_some.mp hk
    have n0 := D.flow.nn k s hs
    by_cases b : T p.2 = true
    · rcases Bool.eq_false_or_eq_true (nr steps p.1) with z | z
      · have := h k p hp z b
        simp [b, this]
      · have := D.none_sent W hp hs z (hT _ b).2
        subst this
        simp
    · by_cases a : S p.1 = true <;> simp [a, b] <;> omega
  have e3 := sum_le tm
  rw [← l1, ← l2] at e3
  rcases Int.lt_or_le (over (fun e => cap.getD e 0) T N.nE) (over (fun e => cap.getD e 0) S N.nE) with z | z
  · exact z
  exfalso
  have q1 := upTo_eq le2 (by show over _ S _ ≤ over _ S _; omega)
  have q2 := sum_eq tm (by rw [← l1, ← l2]; omega)
  obtain ⟨t, ht, hTt⟩ := hne
  have near := (hT t hTt).2
  have sub := D.sub (S := fun e => nr steps e && !S e && !T e) (fun g x hg hx h0 => ?_) (fun a k b tie go ha => ?_) near
  · simp [hTt] at sub
  · have n : nr steps g = true := decide_eq_true (by rw [D.st.src g x hg hx h0]; exact Int.le_refl _)
    have hgl : g < N.nE := by have := W.gle; omega
    have nT : T g = false := by
      rcases Bool.eq_false_or_eq_true (T g) with z | z
      · exact absurd hg (hT g z).1
      · exact z
    have nS : S g = false := by
      rcases Bool.eq_false_or_eq_true (S g) with z | z
      · have := q1 g hgl
        simp only [z, if_true] at this
        have w := (D.flow.load_le hgl).2
        have : spare.getD g 0 = x := by simp [List.getD, hx]
        omega
      · exact z
    simp [n, nT, nS]
  · simp only [Bool.and_eq_true, Bool.not_eq_true'] at ha ⊢
    obtain ⟨⟨a1, a2⟩, a3⟩ := ha
    have nb : nr steps b = true := decide_eq_true (D.cl a k b tie go (of_decide_eq_true a1))
    obtain ⟨p, hp, q⟩ := tie
    have hlo := W.lo k p hp
    refine ⟨⟨nb, ?_⟩, ?_⟩
    · rcases Bool.eq_false_or_eq_true (S b) with z | z
      · exfalso
        have hb := hS b z
        have hab : p.2 = a ∧ p.1 = b := by
          rcases q with ⟨q1, q2⟩ | q
          · omega
          · exact q
        obtain ⟨rfl, rfl⟩ := hab
        rcases go with go | ⟨s, hs, h0⟩
        · omega
        · have hm : (p, s) ∈ N.ends.zip sent := List.mem_of_getElem? (i := k) (List.getElem?_zip_eq_some.mpr ⟨hp, hs⟩)
          have := q2 _ hm
          simp only [z, a3, if_true] at this
          simp at this
          omega
      · exact z
    · rcases Bool.eq_false_or_eq_true (T b) with z | z
      · exfalso
        have hb := (hT b z).1
        have hab : p.1 = a ∧ p.2 = b := by
          rcases q with q | ⟨q1, q2⟩
          · exact q
          · omega
        obtain ⟨rfl, rfl⟩ := hab
        have := h k p hp a1 z
        rw [a2] at this
        cases this
      · exact z
end PM

set_option linter.all false
namespace PM
section
variable {wk : Nat → Int} {dr : Nat → List Nat} {hands chores : List Nat}
structure Cut (wk : Nat → Int) (dr : Nat → List Nat) (hands chores : List Nat) (m W : Int) (nc nh : Nat → Bool) : Prop where
  up : ∀ c ∈ chores, ∀ h ∈ hands, h ∈ dr c → nc c = true → nh h = true
  hi : ∀ T : Nat → Bool, (chores.map fun c => if (!nc c && hands.all fun h => (nh h || !(dr c).contains h || T h)) then wk c * m else 0).sum ≤ (hands.map fun h => if (!nh h && T h) then W else 0).sum
  lo : ∀ T : Nat → Bool, (∃ h ∈ hands, nh h = true ∧ T h = true) → (hands.map fun h => if (nh h && T h) then W else 0).sum < (chores.map fun c => if (nc c && hands.any fun h => ((dr c).contains h && T h)) then wk c * m else 0).sum
  far : (∃ h ∈ hands, nh h = true) → ∃ h ∈ hands, nh h = false
end
end PM

set_option linter.all false
namespace PM
/-! ### crowds, one behind the other -/
abbrev Cr := List Nat × List Nat
section
variable (wk : Nat → Int) (dr : Nat → List Nat)
def touch (c : Cr) (T : Nat → Bool) : Int := (c.2.map fun x => if (c.1.any fun h => ((dr x).contains h && T h)) then wk x else 0).sum
def inside (c : Cr) (T : Nat → Bool) : Int := (c.2.map fun x => if (c.1.all fun h => (!(dr x).contains h || T h)) then wk x else 0).sum
def cnt (c : Cr) (T : Nat → Bool) : Int := (c.1.map fun h => if T h then 1 else 0).sum
def Lo (c : Cr) (p q : Int) : Prop := ∀ T : Nat → Bool, (∃ h ∈ c.1, T h = true) → p * cnt c T < q * touch wk dr c T
def Hi (c : Cr) (p q : Int) : Prop := ∀ T : Nat → Bool, q * inside wk dr c T ≤ p * cnt c T
def Above (x y : Cr) : Prop := ∃ p q : Int, 0 < q ∧ Lo wk dr x p q ∧ Hi wk dr y p q
end
section
variable {wk : Nat → Int} {dr : Nat → List Nat} {c : Cr} {m W : Int} {nc nh : Nat → Bool}
end
structure Crowds (wk : Nat → Int) (dr : Nat → List Nat) (many chores : Nat) (L : List Cr) : Prop where
  ord : ∀ (i : Nat) x y, L[i]? = some x → L[i + 1]? = some y → Above wk dr x y
  ne : ∀ c ∈ L, c.1 ≠ []
  own : ∀ c ∈ L, ∀ x ∈ c.2, ∃ h ∈ c.1, h ∈ dr x
  up : ∀ (i : Nat) c, L[i]? = some c → ∀ x ∈ c.2, ∀ h ∈ dr x, ∃ (j : Nat) (d : Cr), j ≤ i ∧ L[j]? = some d ∧ h ∈ d.1
  hs : ∀ h : Nat, (L.map fun c => c.1.count h).sum = if h < many then 1 else 0
  cs : ∀ x : Nat, (L.map fun c => c.2.count x).sum = if x < chores then 1 else 0
  hr : ∀ c ∈ L, c.1.Pairwise (· < ·)
  cr : ∀ c ∈ L, c.2.Pairwise (· < ·)
end PM

set_option Elab.async false
set_option linter.all false
set_option maxRecDepth 100000
namespace L2.EX
open PySem PySem.Spec PyProof.Rows
/-! ### slices with a step -/
def cutS (xs : List V) (lo hi st : Option Int) : List V := (sliceRange (sliceBounds lo hi st xs.length).1 (sliceBounds lo hi st xs.length).2.1 (sliceBounds lo hi st xs.length).2.2).filterMap (xs[·]?)
section
variable {X : Cx} {e ste : Expr} {te : TE} {lo hi : Option Expr} {tl th ts : TO} {pos p2 : Pos}
def xSlS (K : PySem.W.Frag) (te : TE) (tl th ts : TO) (σ : St) (H : Hp) (Q : VK) : Prop := te σ H fun x H1 => tl σ H1 fun l H2 => th σ H2 fun u H3 => ts σ H3 fun st H4 => match x with
  | .ref a => ∃ xs, SqL K H4 a xs ∧ st ≠ some 0 ∧ ∀ p, H4 p = none → Q (.ref p) (upd H4 p (.lst (cutS xs l u st)))
  | _ => False
end
end L2.EX

set_option Elab.async false
set_option linter.all false
set_option maxRecDepth 100000
namespace L2.EX
open PySem PySem.Spec PyProof.Rows
/-! ### comprehensions, the forms one uses -/
def CNx (Pv : Nat → List V → Hp → Prop) (n i : Nat) (ys : List V) (H : Hp) : Prop := ∃ m', m' < n + 1 - i ∧ m' = n - i ∧ i ≤ n ∧ Pv i ys H
theorem CNx.mk {Pv : Nat → List V → Hp → Prop} {n i : Nat} {ys : List V} {H : Hp} (h : Pv i ys H) (hi : i ≤ n) : CNx Pv n i ys H := ⟨n - i, by omega, rfl, hi, h⟩
section
variable {K : PySem.W.Frag} {g : TG} {tt : TT} {te : TE} {σ0 : St} {Q : VK} {H : Hp}
theorem comp_range {lo : Int} {n : Nat} (Pv : Nat → List V → Hp → Prop) (h0 : Pv 0 [] H) (hz : n < sizeLine) (hl : ∀ i ys H, i ≤ n → Pv i ys H → ys.length ≤ i)
    (hs : ∀ i ys H, i < n → Pv i ys H → g (.int (lo + i)) σ0 H fun σ2 H2 => tt σ2 H2 fun b H3 => if b = true then te σ2 H3 fun y H4 => CNx Pv n (i + 1) (ys ++ [y]) H4 else CNx Pv n (i + 1) ys H3)
    (hd : ∀ ys H, Pv n ys H → ∀ l, H l = none → Q (.ref l) (upd H l (.lst ys))) : CompGo (Itr lo n) g tt te σ0 Q H := by
  refine ⟨fun i m ys H => m = n - i ∧ i ≤ n ∧ Pv i ys H, ⟨n, by simp, Nat.zero_le _, h0⟩, ?_⟩
  rintro i m ys H ⟨rfl, hi, p⟩
  have yl := hl i ys H hi p
  by_cases hlt : i < n
  · refine .inr ⟨hlt, by omega, fun x H' y => ?_⟩
    obtain ⟨e1, e2⟩ := y
    subst e1 e2
    have z := hs i ys _ hlt p
    rw [show n - i = n + 1 - (i + 1) by omega]
    exact z
  · have e : i = n := by omega
    subst e
    exact .inl ⟨Nat.le_refl _, by omega, hd ys H p⟩
end
/-! readings of a comprehension's parts do not hang on where its block runs -/
section
variable {X : Cx} {scope : Scope} {N : List Str} {c : CC} {e : Expr}
theorem pgC {g g' : TG} (h : PG (compCx X scope N c) e g) (q : g = g') : PG (compCx X scope N c) e g' := q ▸ h
theorem peC {g g' : TE} (h : PE (compCx X scope N c) e g) (q : g = g') : PE (compCx X scope N c) e g' := q ▸ h
end
end L2.EX

set_option Elab.async false
set_option linter.all false
set_option maxRecDepth 100000
namespace L2.EX
open PySem PySem.Spec PyProof.Rows
/-! ### zip of any number of lists and tuples: the iterators lie at b, b + 1, ..; then the tuple of them, the owned tuple, the zip -/
def ItAt (t : Bool) (h : Heap) (i a : Addr) (k : Nat) : Prop := if t then h.IsTupleIter i a k else h.IsListIter i a k
def SeqAt (t : Bool) (h : Heap) (a : Addr) (xs : Array Value) : Prop := if t then h.IsTuple a xs else h.IsList a xs
theorem ItAt.at {t : Bool} {h h' : Heap} {i a : Addr} {k : Nat} (x : ItAt t h i a k) (e : ∀ o, h.get? i = some o → h'.get? i = some o) : ItAt t h' i a k := by
  cases t
  · exact Heap.IsListIter.at x e
  · exact Heap.IsTupleIter.at x e
theorem SeqAt.at {t : Bool} {h h' : Heap} {a : Addr} {xs : Array Value} (x : SeqAt t h a xs) (e : ∀ o, h.get? a = some o → h'.get? a = some o) : SeqAt t h' a xs := by
  cases t
  · obtain ⟨o, ho, r⟩ := x
    exact ⟨o, e _ ho, r⟩
  · obtain ⟨o, ho, r⟩ := x
    exact ⟨o, e _ ho, r⟩
section
variable {prog : Program} {w : World} {A : Around} {E : Value → Shared → Prop} {s : Shared}
end
end L2.EX

set_option Elab.async false
set_option linter.all false
set_option maxRecDepth 100000
namespace L2.EX
open PySem PySem.Spec PyProof.Rows
abbrev IsTupN (h : Heap) (T : Addr) (vs : List Value) : Prop := h.get? T = some { cls := .type "tuple", data := .seq vs.toArray }
abbrev itsOf (b : Nat) (m : Nat) : List Value := (List.range' 0 m).map fun j => Value.ref (b + j)
structure ZSt (b : Nat) (src : List (Bool × Addr)) (k : Nat) (f0 : Value) (h : Heap) : Prop where
  zip : IsZip h (b + src.length + 2) (b + src.length) (b + src.length + 1) f0
  its : IsTupN h (b + src.length) (itsOf b src.length)
  own : ∃ old, old.length = src.length ∧ IsTupN h (b + src.length + 1) old
  it : ∀ (j : Nat) p, src[j]? = some p → ItAt p.1 h (b + j) p.2 k
section
variable {prog : Program} {w : World} {A : Around} {E : Value → Shared → Prop}
end
end L2.EX

set_option Elab.async false
set_option linter.all false
set_option maxRecDepth 100000
namespace L2.EX
open PySem PySem.Spec PyProof.Rows
section
variable {prog : Program} {w : World} {A : Around} {E : Value → Shared → Prop} {s : Shared}
end
end L2.EX

set_option Elab.async false
set_option linter.all false
set_option maxRecDepth 100000
namespace L2.EX
open PySem PySem.Spec PyProof.Rows
abbrev itObj (t : Bool) (a : Addr) : Obj := { cls := .type (if t then "tuple_iterator" else "list_iterator"), data := .fields #[.ref a, .int 0 0] }
abbrev zipObj (I O : Addr) : Obj := { cls := .type "zip", data := .fields #[.none, .bool false, .bool false, .ref I, .ref O] }
abbrev tupObj (vs : List Value) : Obj := { cls := .type "tuple", data := .seq vs.toArray }
section
variable {prog : Program} {w : World} {A : Around} {E : Value → Shared → Prop} {s : Shared}
theorem pyIter_seq {t : Bool} {a : Addr} {xs : Array Value} {Q : Value → Shared → Prop} (h : SeqAt t s.heap a xs) (hQ : Q (.ref s.heap.objs.size) { s with heap := s.heap.push (itObj t a) }) : wpAny (model prog w) A (pyIter (.ref a)) Q E s := by
  cases t
  · exact wpAny_pyIter_list h hQ
  · exact wpAny_pyIter_tuple h hQ
end
theorem SeqAt.push {t : Bool} {h : Heap} {a : Addr} {xs : Array Value} (x : SeqAt t h a xs) (o : Obj) : SeqAt t (h.push o) a xs := x.at fun _ g => Heap.get?_push_of_some _ g
abbrev z3B (h : Heap) (p q r : Bool × Addr) : Heap := ((h.push (itObj p.1 p.2)).push (itObj q.1 q.2)).push (itObj r.1 r.2)
abbrev z3C (h : Heap) (p q r : Bool × Addr) : Heap := (z3B h p q r).push (tupObj [.ref h.objs.size, .ref (h.push (itObj p.1 p.2)).objs.size, .ref ((h.push (itObj p.1 p.2)).push (itObj q.1 q.2)).objs.size])
abbrev z3D (h : Heap) (p q r : Bool × Addr) : Heap := (z3C h p q r).push (tupObj [.none, .none, .none])
abbrev z3H (h : Heap) (p q r : Bool × Addr) : Heap := (z3D h p q r).push (zipObj (z3B h p q r).objs.size (z3C h p q r).objs.size)
set_option maxHeartbeats 2000000 in
theorem new_zip3 (p q r : Bool × Addr) (xs ys zs : Array Value) :
    Meets (Builtin.«zip.__new__» ⟨[.type "zip", .ref p.2, .ref q.2, .ref r.2], []⟩) (fun _ R s => SeqAt p.1 s.heap p.2 xs ∧ SeqAt q.1 s.heap q.2 ys ∧ SeqAt r.1 s.heap r.2 zs ∧ R (.ok (.ret (.ref (z3D s.heap p q r).objs.size))) { s with heap := z3H s.heap p q r }) :=
  .of_wp fun prog w A R s h => by
    obtain ⟨hp, g, d, tk, os⟩ := s
    obtain ⟨h1, h2, h3, h⟩ := h
    have hsub := sub_zip
    have hL1 : SeqAt p.1 (Shared.heap ⟨hp, g, d, tk, os⟩) p.2 xs := h1
    have hL2 : SeqAt q.1 (Shared.heap ⟨hp.push (itObj p.1 p.2), g, d, tk, os⟩) q.2 ys := SeqAt.push h2 _
    have hL3 : SeqAt r.1 (Shared.heap ⟨(hp.push (itObj p.1 p.2)).push (itObj q.1 q.2), g, d, tk, os⟩) r.2 zs := SeqAt.push (SeqAt.push h3 _) _
    wp_walk using pyIter_seq hL1, pyIter_seq hL2, pyIter_seq hL3
    exact ⟨_, rfl, h⟩
end L2.EX

set_option Elab.async false
set_option linter.all false
set_option maxRecDepth 100000
namespace L2.EX
open PySem PySem.Spec PyProof.Rows
def SqS (K : PySem.W.Frag) (t : Bool) (H : Hp) (a : Addr) (xs : List V) : Prop := if t then SqT K H a xs else SqL K H a xs
abbrev ItzGo (K : PySem.W.Frag) (src : List (Bool × Addr)) (i : Nat) (H : Hp) : Prop := ∀ (j : Nat) p, src[j]? = some p → ∃ xs x, SqS K p.1 H p.2 xs ∧ xs[i]? = some x
abbrev ItzY (K : PySem.W.Frag) (src : List (Bool × Addr)) (i : Nat) (H : Hp) (v : V) (H' : Hp) : Prop := ∃ T xs, H T = none ∧ v = .ref T ∧ H' = upd H T (.tup xs) ∧ xs.length = src.length ∧ ∀ (j : Nat) p, src[j]? = some p → ∀ ys, SqS K p.1 H p.2 ys → ys[i]? = xs[j]?
abbrev ItzEnd (K : PySem.W.Frag) (src : List (Bool × Addr)) (i : Nat) (H : Hp) : Prop := (∀ (j : Nat) p, src[j]? = some p → ∃ xs, SqS K p.1 H p.2 xs) ∧ ∃ (j : Nat) (p : Bool × Addr) (xs : List V), src[j]? = some p ∧ SqS K p.1 H p.2 xs ∧ xs.length ≤ i
def Itz (K : PySem.W.Frag) (src : List (Bool × Addr)) : It := ⟨ItzGo K src, ItzY K src, ItzEnd K src⟩
section
variable {X : Cx} {pins : List (Addr × Obj)} {σ : St} {H : Hp} {s : Shared}
end
theorem ZSt.keep {b : Nat} {src : List (Bool × Addr)} {k : Nat} {f0 : Value} {h h' : Heap} (st : ZSt b src k f0 h) (kk : ∀ (c : Nat), b ≤ c → c < b + src.length + 3 → ∀ o, h.get? c = some o → h'.get? c = some o) : ZSt b src k f0 h' := by
  obtain ⟨old, ol, ho⟩ := st.own
  refine ⟨kk _ (by omega) (by omega) _ st.zip, kk _ (by omega) (by omega) _ st.its, ⟨old, ol, kk _ (by omega) (by omega) _ ho⟩, fun j p hp => (st.it j p hp).at fun o g => kk _ (by omega) ?_ _ g⟩
  have := (List.getElem?_eq_some_iff.mp hp).1
  omega
end L2.EX

set_option Elab.async false
set_option linter.all false
set_option maxRecDepth 100000
namespace L2.EX
open PySem PySem.Spec PyProof.Rows
section
variable {prog : Program} {w : World} {A : Around} {E : Value → Shared → Prop} {s : Shared}
end
section
variable {X : Cx}
def xZip (K : PySem.W.Frag) (t1 t2 : TE) (σ : St) (H : Hp) (R : It → Hp → Prop) : Prop := t1 σ H fun x H1 => t2 σ H1 fun y H2 => match x, y with
  | .ref a, .ref b => ∃ u v, (∃ xs, SqS K u H2 a xs) ∧ (∃ ys, SqS K v H2 b ys) ∧ R (Itz K [(u, a), (v, b)]) H2
  | _, _ => False
def xZip3 (K : PySem.W.Frag) (t1 t2 t3 : TE) (σ : St) (H : Hp) (R : It → Hp → Prop) : Prop := t1 σ H fun x H1 => t2 σ H1 fun y H2 => t3 σ H2 fun z H3 => match x, y, z with
  | .ref a, .ref b, .ref c => ∃ u v t, (∃ xs, SqS K u H3 a xs) ∧ (∃ ys, SqS K v H3 b ys) ∧ (∃ zs, SqS K t H3 c zs) ∧ R (Itz K [(u, a), (v, b), (t, c)]) H3
  | _, _, _ => False
end
end L2.EX

set_option Elab.async false
set_option linter.all false
set_option maxRecDepth 100000
namespace L2.EX
open PySem PySem.Spec PyProof.Rows
end L2.EX

set_option Elab.async false
set_option linter.all false
set_option maxRecDepth 100000
namespace L2.EX
open PySem PySem.Spec PyProof.Rows PySem.SeqAt
/-! ### in and not in, of a list of data of any kind -/
def uInD (K : PySem.W.Frag) (x y : V) (H : Hp) (Q : VK) : Prop := ∃ dx l xs ds, y = .ref l ∧ H l = some (.lst xs) ∧ Is K H x dx ∧ IsAll K H xs ds ∧ Sh 60 dx ∧ (∀ d ∈ ds, Sh 60 d) ∧ Q (.bl (ds.any fun d => PyData.eqv d dx)) H
def uNinD (K : PySem.W.Frag) (x y : V) (H : Hp) (Q : VK) : Prop := ∃ dx l xs ds, y = .ref l ∧ H l = some (.lst xs) ∧ Is K H x dx ∧ IsAll K H xs ds ∧ Sh 60 dx ∧ (∀ d ∈ ds, Sh 60 d) ∧ Q (.bl (!ds.any fun d => PyData.eqv d dx)) H
section
variable {X : Cx} {pins : List (Addr × Obj)} {σ : St} {H : Hp} {s : Shared}
open Classical in
theorem in_prep {k : Nat} (hr : Room k X.A) (I : Inv X pins σ H s) {dx : PyData} {l : Addr} {xs : List V} {ds : List PyData} {x : V} {v : Value} (hl : H l = some (.lst xs)) (hx : Is X.K H x dx) (ha : IsAll X.K H xs ds) (sx : Sh 60 dx) (sd : ∀ d ∈ ds, Sh 60 d) (rx : RelV x v) :
    ∃ (items : Array Value) (e : Value → Bool), s.heap.IsList l items ∧ (∀ w, w ∈ items → EqAt X.A.in1 s w v (e w)) ∧ items.any e = ds.any fun d => PyData.eqv d dx := by
  obtain ⟨its, rv, p, _⟩ := I.list (SqL.of hl)
  obtain ⟨ax, rdx⟩ := Is.reads I dx x v hx rx
  have rd : ∀ (j : Nat) w, its[j]? = some w → ∃ d as, ds[j]? = some d ∧ Reads s.heap w d as := fun j w hw => by
    have hj : j < xs.length := by rw [rv.length]; exact (List.getElem?_eq_some_iff.mp hw).1
    have hxj : xs[j]? = some xs[j] := by simp [hj]
    obtain ⟨u, g1, g2⟩ := rv.get hxj
    rw [hw] at g1
    cases g1
    obtain ⟨d, g3, g4⟩ := isAll_at ha hxj
    obtain ⟨as, g5⟩ := Is.reads I d _ w g4 g2
    exact ⟨d, as, g3, g5⟩
  refine ⟨its.toArray, fun w => decide (∃ d as, d ∈ ds ∧ Reads s.heap w d as ∧ PyData.eqv d dx = true), p.isList, fun w hw => ?_, ?_⟩
  · obtain ⟨j, hj⟩ := List.getElem?_of_mem (List.mem_toArray.mp hw)
    obtain ⟨d, as, g1, g2⟩ := rd j w hj
    have hd := List.mem_of_getElem? g1
    have e : decide (∃ d as, d ∈ ds ∧ Reads s.heap w d as ∧ PyData.eqv d dx = true) = PyData.eqv d dx := by
      by_cases c : PyData.eqv d dx = true
      · rw [c]
        exact decide_eq_true ⟨d, as, hd, g2, c⟩
      · rw [Bool.eq_false_iff.mpr c]
        refine decide_eq_false ?_
        rintro ⟨d', as', h1, h2, h3⟩
        have := PySem.SeqAt.Reads.unique d d' w as as' (sd d hd).1 g2 h2
        rw [← this] at h3
        exact c h3
    show EqAt X.A.in1 s w v (decide (∃ d as, d ∈ ds ∧ Reads s.heap w d as ∧ PyData.eqv d dx = true))
    rw [e]
    refine PySem.SeqAt.eqAt_reads d dx X.A.in1 s w v as ax g2 rdx (sd d hd).1 sx.1 ?_
    have h1 := hu64 hr
    have h2 := (sd d hd).2
    have h3 : X.A.in1.units ≤ X.A.units + 2 := by first | exact Nat.le_refl _ | (simp [Around.in1]) | (show _ ≤ _; simp [Around.in1]; omega)
    omega
  · rw [List.any_toArray]
    rw [Bool.eq_iff_iff, List.any_eq_true, List.any_eq_true]
    constructor
    · rintro ⟨w, hw, e⟩
      obtain ⟨d, as, h1, h2, h3⟩ := of_decide_eq_true e
      exact ⟨d, h1, h3⟩
    · rintro ⟨d, hd, e⟩
      obtain ⟨j, hj⟩ := List.getElem?_of_mem hd
      obtain ⟨y, g1, g2⟩ := isAll_get ha hj
      obtain ⟨u, g3, g4⟩ := rv.get g1
      obtain ⟨as, g5⟩ := Is.reads I d _ u g2 g4
      exact ⟨u, List.mem_of_getElem? g3, decide_eq_true ⟨d, as, hd, g5, e⟩⟩
end
end L2.EX

set_option Elab.async false
set_option linter.all false
set_option maxRecDepth 100000
namespace PySem
open AutoSeq1 (wpAny_loadPart')
open MeetsSeq MeetsSeq2 MeetsSeq3 SeqRoads2 SeqAt
end PySem
namespace L2.EX
open PySem PySem.Spec PyProof.Rows PySem.SeqAt
section
variable {X : Cx} {pins : List (Addr × Obj)} {σ : St} {H : Hp} {s : Shared}
open Classical in
theorem in_prep2 {k : Nat} (hr : Room k X.A) (I : Inv X pins σ H s) {dx : PyData} {xs : List V} {its : List Value} {ds : List PyData} {x : V} {v : Value} (rv : Vals xs its) (hx : Is X.K H x dx) (ha : IsAll X.K H xs ds) (sx : Sh 60 dx) (sd : ∀ d ∈ ds, Sh 60 d) (rx : RelV x v) :
    ∃ (e : Value → Bool), (∀ w, w ∈ its.toArray → EqAt X.A.in1 s w v (e w)) ∧ ∀ (j : Nat) w d, its[j]? = some w → ds[j]? = some d → e w = PyData.eqv d dx := by
  obtain ⟨ax, rdx⟩ := Is.reads I dx x v hx rx
  have rd : ∀ (j : Nat) w, its[j]? = some w → ∃ d as, ds[j]? = some d ∧ Reads s.heap w d as := fun j w hw => by
    have hj : j < xs.length := by rw [rv.length]; exact (List.getElem?_eq_some_iff.mp hw).1
    have hxj : xs[j]? = some xs[j] := by simp [hj]
    obtain ⟨u, g1, g2⟩ := rv.get hxj
    rw [hw] at g1
    cases g1
    obtain ⟨d, g3, g4⟩ := isAll_at ha hxj
    obtain ⟨as, g5⟩ := Is.reads I d _ w g4 g2
    exact ⟨d, as, g3, g5⟩
  have key : ∀ (j : Nat) w d as, its[j]? = some w → ds[j]? = some d → Reads s.heap w d as → decide (∃ d as, d ∈ ds ∧ Reads s.heap w d as ∧ PyData.eqv d dx = true) = PyData.eqv d dx := fun j w d as hj g1 g2 => by
    have hd := List.mem_of_getElem? g1
    by_cases c : PyData.eqv d dx = true
    · rw [c]
      exact decide_eq_true ⟨d, as, hd, g2, c⟩
    · rw [Bool.eq_false_iff.mpr c]
      refine decide_eq_false ?_
      rintro ⟨d', as', h1, h2, h3⟩
      have := PySem.SeqAt.Reads.unique d d' w as as' (sd d hd).1 g2 h2
      rw [← this] at h3
      exact c h3
  refine ⟨fun w => decide (∃ d as, d ∈ ds ∧ Reads s.heap w d as ∧ PyData.eqv d dx = true), fun w hw => ?_, fun j w d hj hd => ?_⟩
  · obtain ⟨j, hj⟩ := List.getElem?_of_mem (List.mem_toArray.mp hw)
    obtain ⟨d, as, g1, g2⟩ := rd j w hj
    have hd := List.mem_of_getElem? g1
    show EqAt X.A.in1 s w v (decide (∃ d as, d ∈ ds ∧ Reads s.heap w d as ∧ PyData.eqv d dx = true))
    rw [key j w d as hj g1 g2]
    refine PySem.SeqAt.eqAt_reads d dx X.A.in1 s w v as ax g2 rdx (sd d hd).1 sx.1 ?_
    have h1 := hu64 hr
    have h2 := (sd d hd).2
    have h3 : X.A.in1.units ≤ X.A.units + 2 := by first | exact Nat.le_refl _ | (simp [Around.in1]) | (show _ ≤ _; simp [Around.in1]; omega)
    omega
  · obtain ⟨d', as, g1, g2⟩ := rd j w hj
    rw [hd] at g1
    cases g1
    exact key j w d as hj hd g2
end
section
variable {X : Cx} {o e : Expr} {es : List Expr} {ta : TE} {t : TA} {apos cpos : Pos}
def xRem (K : PySem.W.Frag) (ta : TE) (t : TA) (σ : St) (H : Hp) (Q : VK) : Prop := ta σ H fun x H1 => match x with
  | .ref l => (∃ xs, H1 l = some (.lst xs)) ∧ t σ H1 fun vs H2 => match vs with
    | [y] => ∃ xs dx ds, H2 l = some (.lst xs) ∧ Is K H2 y dx ∧ IsAll K H2 xs ds ∧ Sh 60 dx ∧ (∀ d ∈ ds, Sh 60 d) ∧ (ds.any fun d => PyData.eqv d dx) = true ∧ ∀ j, j < xs.length → Q .non (upd H2 l (.lst (xs.eraseIdx j)))
    | _ => False
  | _ => False
def xIndex (ta : TE) (t : TA) (σ : St) (H : Hp) (Q : VK) : Prop := ta σ H fun x H1 => match x with
  | .ref l => (∃ xs, H1 l = some (.lst xs)) ∧ t σ H1 fun vs H2 => match vs with
    | [.int n] => ∃ ns : List Int, H2 l = some (.lst (ns.map V.int)) ∧ n ∈ ns ∧ ∀ j : Nat, ns[j]? = some n → (∀ (m : Nat) y, m < j → ns[m]? = some y → y ≠ n) → Q (.int (j : Int)) H2
    | _ => False
  | _ => False
def xIns (ta : TE) (t : TA) (σ : St) (H : Hp) (Q : VK) : Prop := ta σ H fun x H1 => match x with
  | .ref l => (∃ xs, H1 l = some (.lst xs)) ∧ t σ H1 fun vs H2 => match vs with
    | [.int i, y] => ∃ xs, ∃ k : Nat, H2 l = some (.lst xs) ∧ i = (k : Int) ∧ k ≤ xs.length ∧ xs.length < sizeLine ∧ Q .non (upd H2 l (.lst (xs.take k ++ y :: xs.drop k)))
    | _ => False
  | _ => False
def xExt (ta : TE) (t : TA) (σ : St) (H : Hp) (Q : VK) : Prop := ta σ H fun x H1 => match x with
  | .ref l => (∃ xs, H1 l = some (.lst xs)) ∧ t σ H1 fun vs H2 => match vs with
    | [.ref b] => ∃ xs zs, H2 l = some (.lst xs) ∧ H2 b = some (.lst zs) ∧ xs.length + zs.length ≤ sizeLine ∧ Q .non (upd H2 l (.lst (xs ++ zs)))
    | _ => False
  | _ => False
end
/-! ### reversed -/
def Itv (K : PySem.W.Frag) (a : Addr) (n : Nat) : It := ⟨fun i H => i < n ∧ ∃ xs, SqL K H a xs ∧ xs.length = n, fun i H x H' => H' = H ∧ ∀ xs, SqL K H a xs → xs[n - 1 - i]? = some x, fun i H => i = n⟩
def xRev (K : PySem.W.Frag) (tl : TE) (σ : St) (H : Hp) (R : It → Hp → Prop) : Prop := tl σ H fun x H1 => match x with
  | .ref a => ∃ xs, SqL K H1 a xs ∧ R (Itv K a xs.length) H1
  | _ => False
end L2.EX

set_option linter.all false
namespace My
theorem gdvd (a b : Int) : ∃ q1 q2 : Int, a = (Int.gcd a b : Nat) * q1 ∧ b = (Int.gcd a b : Nat) * q2 := by
  obtain ⟨q1, h1⟩ := Int.gcd_dvd_left (a := a) (b := b)
  obtain ⟨q2, h2⟩ := Int.gcd_dvd_right (a := a) (b := b)
  exact ⟨q1, q2, h1, h2⟩
theorem gone {g q1 q2 : Int} (hg : 0 < g) (h : (Int.gcd (g * q1) (g * q2) : Int) = g) : Int.gcd q1 q2 = 1 := by
  rw [Int.gcd_mul_left] at h
  push_cast at h
  have h1 : ((g.natAbs : Nat) : Int) = g := by omega
  rw [h1] at h
  have h2 : g * ((Int.gcd q1 q2 : Nat) : Int) = g * 1 := by rw [h, Int.mul_one]
  have := Int.eq_of_mul_eq_mul_left (by omega) h2
  omega
theorem gpos {a b : Int} (hb : b ≠ 0) : (0 : Int) < (Int.gcd a b : Nat) := by
  have : 0 < Int.gcd a b := Int.gcd_pos_of_ne_zero_right a hb
  omega
theorem part_math {a b j : Int} (hb : b ≠ 0) (hj : j = if b < 0 then -((Int.gcd a b : Nat) : Int) else (Int.gcd a b : Nat)) : j ≠ 0 ∧ j.natAbs ≤ b.natAbs ∧ 1 ≤ b.fdiv j ∧ Int.gcd (a.fdiv j) (b.fdiv j) = 1 ∧ a.fdiv j * b = a * b.fdiv j := by
  obtain ⟨q1, q2, h1, h2⟩ := gdvd a b
  have hg := gpos (a := a) hb
  generalize hG : ((Int.gcd a b : Nat) : Int) = g at *
  have one : Int.gcd q1 q2 = 1 := gone hg (by rw [← h1, ← h2]; exact hG)
  have q20 : q2 ≠ 0 := by
    rintro rfl
    simp at h2
    exact hb h2
  by_cases hn : b < 0
  · rw [if_pos hn] at hj
    subst hj
    have e1 : a = -g * -q1 := by rw [Int.neg_mul_neg]; exact h1
    have e2 : b = -g * -q2 := by rw [Int.neg_mul_neg]; exact h2
    have f1 : a.fdiv (-g) = -q1 := by
      conv => lhs; rw [e1]
      exact Int.mul_fdiv_cancel_left _ (by omega)
    have f2 : b.fdiv (-g) = -q2 := by
      conv => lhs; rw [e2]
      exact Int.mul_fdiv_cancel_left _ (by omega)
    have q2n : q2 < 0 := by
      rcases Int.lt_or_le q2 0 with z | z
      · exact z
      · have := Int.mul_nonneg (Int.le_of_lt hg) z
        omega
    refine ⟨by omega, ?_, by omega, ?_, ?_⟩
    · rw [h2, Int.natAbs_mul, Int.natAbs_neg]
      exact Nat.le_mul_of_pos_right _ (by omega)
    · rw [f1, f2, Int.gcd_neg, Int.neg_gcd]
      exact one
    · rw [f1, f2, h2, h1, Int.neg_mul, Int.mul_neg, Int.mul_comm g q1, Int.mul_assoc, Int.mul_left_comm]
  · rw [if_neg hn] at hj
    subst hj
    have f1 : a.fdiv j = q1 := by
      conv => lhs; rw [h1]
      exact Int.mul_fdiv_cancel_left _ (by omega)
    have f2 : b.fdiv j = q2 := by
      conv => lhs; rw [h2]
      exact Int.mul_fdiv_cancel_left _ (by omega)
    have q2p : 0 < q2 := by
      rcases Int.lt_or_le 0 q2 with z | z
      · exact z
      · have := Int.mul_nonneg (Int.le_of_lt hg) (show 0 ≤ -q2 by omega)
        rw [Int.mul_neg] at this
        omega
    refine ⟨by omega, ?_, by omega, ?_, ?_⟩
    · rw [h2, Int.natAbs_mul]
      exact Nat.le_mul_of_pos_right _ (by omega)
    · rw [f1, f2]
      exact one
    · rw [f1, f2, h2, h1]
      simp [Int.mul_comm, Int.mul_left_comm, Int.mul_assoc]
theorem cop_dvd {d n b : Int} (h : Int.gcd n d = 1) (k : d ∣ n * b) : d ∣ b := by
  have k' : d.natAbs ∣ n.natAbs * b.natAbs := by
    rw [← Int.natAbs_mul]
    exact Int.natAbs_dvd_natAbs.mpr k
  have c : Nat.Coprime d.natAbs n.natAbs := by
    show Nat.gcd _ _ = 1
    rw [Nat.gcd_comm]
    exact h
  exact Int.natAbs_dvd_natAbs.mp (c.dvd_of_dvd_mul_left k')
theorem low_dvd {n d a b : Int} (h : Int.gcd n d = 1) (e : n * b = a * d) : d ∣ b ∧ n ∣ a := by
  constructor
  · exact cop_dvd h ⟨a, by rw [e, Int.mul_comm]⟩
  · exact cop_dvd (n := d) (by rw [Int.gcd_comm]; exact h) ⟨b, by rw [e, Int.mul_comm]⟩
theorem low_le {n d a b : Int} (h : Int.gcd n d = 1) (hb : b ≠ 0) (e : n * b = a * d) : n.natAbs ≤ a.natAbs ∧ d.natAbs ≤ b.natAbs := by
  obtain ⟨h1, h2⟩ := low_dvd h e
  refine ⟨?_, Nat.le_of_dvd (by omega) (Int.natAbs_dvd_natAbs.mpr h1)⟩
  by_cases ha : a = 0
  · subst ha
    rw [Int.zero_mul] at e
    rcases Int.mul_eq_zero.mp e with z | z
    · rw [z]; exact Nat.le_refl _
    · exact absurd z hb
  · exact Nat.le_of_dvd (by omega) (Int.natAbs_dvd_natAbs.mpr h2)
end My

set_option Elab.async false
set_option linter.all false
set_option maxRecDepth 100000
namespace My
open PySem L2 L2.EX
structure Blt (mg : Str → Option Value) : Prop where
  abs : mg "abs" = none
  any : mg "any" = none
  bool : mg "bool" = none
  dict : mg "dict" = none
  enumerate : mg "enumerate" = none
  int : mg "int" = none
  isinstance : mg "isinstance" = none
  len : mg "len" = none
  list : mg "list" = none
  max : mg "max" = none
  min : mg "min" = none
  range : mg "range" = none
  reversed : mg "reversed" = none
  sorted : mg "sorted" = none
  str : mg "str" = none
  sum : mg "sum" = none
  tuple : mg "tuple" = none
  zip : mg "zip" = none
def spG : Sp := fun vs H Q _ => match vs with
  | [.int a, .int b] => Q (.int (Int.gcd a b : Nat)) H
  | _ => False
def spCell (K : PySem.W.Frag) : Sp := fun vs H Q _ => match vs with
  | [.ref a, .int k] => ∃ ns : List Int, SqL K H a (ns.map V.int) ∧ 0 ≤ k ∧ Q (.int (ns.getD k.toNat 0)) H
  | _ => False
def spNumber : Sp := fun vs H Q _ => match vs with
  | [.int _] => ∀ z : Int, -(10 ^ 60) ≤ z → z ≤ 10 ^ 60 → Q (.int z) H
  | _ => False
def spWhole : Sp := fun vs H Q _ => match vs with
  | [.int _] => Q (.bl true) H
  | [.bl _] => Q (.bl false) H
  | _ => False
def spMixed : Sp := fun vs H Q _ => match vs with
  | [.int _, .int k] => 0 ≤ k ∧ k ≤ 100 ∧ ∀ z : Int, 0 ≤ z → Q (.int z) H
  | _ => False
def spBoth : Sp := fun vs H Q _ => match vs with
  | [.int _, .int _] => ∀ H', Same H H' → Q (.bl true) H'
  | _ => False
theorem gcd_turn {g l : Int} (hg : 0 ≤ g) (hl : 0 < l) : Int.gcd l (g % l) = Int.gcd g l := by
  obtain ⟨a, rfl⟩ := Int.eq_ofNat_of_zero_le hg
  obtain ⟨b, rfl⟩ := Int.eq_ofNat_of_zero_le (Int.le_of_lt hl)
  rw [← Int.natCast_emod]
  show Nat.gcd b (a % b) = Nat.gcd a b
  rw [Nat.gcd_comm a b, Nat.gcd_rec b a, Nat.gcd_comm]
theorem gcd_abs (a b : Int) : Int.gcd (if a < 0 then -a else a) (if b < 0 then -b else b) = Int.gcd a b := by
  by_cases h1 : a < 0 <;> by_cases h2 : b < 0 <;> simp [h1, h2, Int.gcd_neg, Int.neg_gcd]
theorem abs_nn (a : Int) : 0 ≤ (if a < 0 then -a else a) := by split <;> omega
theorem gcd_done {g : Int} (hg : 0 ≤ g) : ((Int.gcd g 0 : Nat) : Int) = g := by rw [Int.gcd_zero_right]; omega
theorem at_ints {ns : List Int} {k : Int} (h0 : 0 ≤ k) (h : k < ((ns.map V.int).length : Nat)) : atI (ns.map V.int) k = some (.int (ns.getD k.toNat 0)) := by
  rw [List.length_map] at h
  have hk : k.toNat < ns.length := by omega
  have e : k = ((k.toNat : Nat) : Int) := by omega
  rw [e]
  refine atI_nat ?_
  rw [List.getElem?_map, List.getElem?_eq_getElem (by omega), List.getD_eq_getElem?_getD, List.getElem?_eq_getElem (by omega)]
  rfl
theorem _root_.L2.EX.Bd.add {m n k : Nat} {x y : Int} (hx : Bd m x) (hy : Bd n y) (h1 : m < k) (h2 : n < k) : Bd k (x + y) := by
  have a : Bd (k - 1) x := hx.le (by omega)
  have b : Bd (k - 1) y := hy.le (by omega)
  show (x + y).natAbs < 2 ^ k
  have a' : x.natAbs < 2 ^ (k - 1) := a
  have b' : y.natAbs < 2 ^ (k - 1) := b
  have e : 2 ^ k = 2 ^ (k - 1) + 2 ^ (k - 1) := by
    have : k = (k - 1) + 1 := by omega
    conv => lhs; rw [this, Nat.pow_succ]
    omega
  have := Int.natAbs_add_le x y
  omega
theorem _root_.L2.EX.Bd.neg {m : Nat} {x : Int} (hx : Bd m x) : Bd m (-x) := by
  show (-x).natAbs < 2 ^ m
  rw [Int.natAbs_neg]
  exact hx
theorem _root_.L2.EX.Bd.sub {m n k : Nat} {x y : Int} (hx : Bd m x) (hy : Bd n y) (h1 : m < k) (h2 : n < k) : Bd k (x - y) := by
  rw [Int.sub_eq_add_neg]
  exact hx.add hy.neg h1 h2
theorem _root_.L2.EX.Bd.of_le {m : Nat} {x y : Int} (hy : Bd m y) (h : x.natAbs ≤ y.natAbs) : Bd m x := Nat.lt_of_le_of_lt h hy
theorem bd60 {z : Int} (h1 : -(10 ^ 60) ≤ z) (h2 : z ≤ 10 ^ 60) : Bd 200 z := by
  show z.natAbs < 2 ^ 200
  omega
def Res (K : PySem.W.Frag) (H : Hp) (Q : VK) (d : PyData) : Prop := ∀ v H', Same H H' → Is K H' v d → Q v H'
theorem Res.new_tup {K : PySem.W.Frag} {H : Hp} {Q : VK} {ds : List PyData} {xs : List V} (h : Res K H Q (.tuple ds)) (al : IsAll K H xs ds) : ∀ p, H p = none → Q (.ref p) (upd H p (.tup xs)) := fun p hp =>
  h _ _ (same_new hp _) (is_tuple.mpr ⟨p, xs, rfl, upd_same, IsAll.same (same_new hp _) _ _ al⟩)
theorem Res.ints2 {K : PySem.W.Frag} {H : Hp} {Q : VK} {n d : Int} (h : Res K H Q (frac n d)) : ∀ p, H p = none → Q (.ref p) (upd H p (.tup [.int n, .int d])) := Res.new_tup h (isAll_ints [n, d])
def spPart (K : PySem.W.Frag) : Sp := fun vs H Q _ => ∃ a b : Int, vs = [.int a, .int b] ∧ b ≠ 0 ∧ Bd 9000 b ∧ ∀ n d : Int, 1 ≤ d → Int.gcd n d = 1 → n * b = a * d → Res K H Q (frac n d)
def spIsFrac (K : PySem.W.Frag) : Sp := fun vs H Q _ => ∃ (x : V) (n d : Int), vs = [x] ∧ Is K H x (frac n d) ∧ 1 ≤ d ∧ Int.gcd n d = 1 ∧ Q (.bl true) H
theorem log9 {b j : Int} (hb : Bd 9000 b) (h : j.natAbs ≤ b.natAbs) (h0 : j ≠ 0) : j.natAbs.log2 < 9000 := log_of (hb.of_le h) (Nat.le_refl _) h0
/-! ### a list that grows -/
def del (H : Hp) (l : Addr) : Hp := fun b => if b = l then none else H b
theorem del_upd {H : Hp} {l : Addr} {o : HO} : del (upd H l o) l = del H l := by
  funext b
  unfold del upd
  split <;> rfl
theorem del_sub {H : Hp} {l : Addr} : Same (del H l) H := fun b o h => by
  unfold del at h
  split at h
  · cases h
  · exact h
structure Grow (K : PySem.W.Frag) (H H' : Hp) (l : Addr) (vs : List V) (ds : List PyData) : Prop where
  old : Same H (del H' l)
  here : H' l = some (.lst vs)
  all : IsAll K (del H' l) vs ds
theorem Grow.push {K : PySem.W.Frag} {H H' : Hp} {l : Addr} {vs : List V} {ds : List PyData} {v : V} {d : PyData} (g : Grow K H H' l vs ds) (h : Is K (del H' l) v d) : Grow K H (upd H' l (.lst (vs ++ [v]))) l (vs ++ [v]) (ds ++ [d]) :=
  ⟨by rw [del_upd]; exact g.old, upd_same, by rw [del_upd]; exact isAll_snoc g.all h⟩
theorem Grow.is {K : PySem.W.Frag} {H H' : Hp} {l : Addr} {vs : List V} {ds : List PyData} (g : Grow K H H' l vs ds) : Is K H' (.ref l) (.list ds) := is_list.mpr ⟨l, vs, rfl, g.here, IsAll.same del_sub _ _ g.all⟩
theorem Grow.same {K : PySem.W.Frag} {H H' : Hp} {l : Addr} {vs : List V} {ds : List PyData} (g : Grow K H H' l vs ds) : Same H H' := g.old.trans del_sub
def PsOk (ps : List (Int × Int)) : Prop := ps.length ≤ 63 ∧ ∀ p ∈ ps, 1 ≤ p.2 ∧ p.2 ≤ 10 ^ 60
theorem PsOk.take {ps : List (Int × Int)} (h : PsOk ps) (n : Nat) : PsOk (ps.take n) := ⟨by rw [List.length_take]; have := h.1; omega, fun p hp => h.2 p (List.mem_of_mem_take hp)⟩
/-! ### sums of fractions -/
def qs (ps : List (Int × Int)) : Int × Int := ps.foldl (fun s p => (s.1 * p.2 + p.1 * s.2, s.2 * p.2)) (0, 1)
def overs (ps : List (Int × Int)) (n d : Int) : List (Int × Int) := ps.filter fun p => decide (n * p.2 < p.1 * d)
def Over (ps : List (Int × Int)) (n d m e : Int) : Prop := m * ((qs (overs ps n d)).2 * d) = ((qs (overs ps n d)).1 * d - (overs ps n d).length * n * (qs (overs ps n d)).2) * e
theorem cgo {J : It} {g : TG} {tt : TT} {te : TE} {σ0 σ' : St} {Q : VK} {H : Hp} (e : σ0 = σ') (h : CompGo J g tt te σ' Q H) : CompGo J g tt te σ0 Q H := e ▸ h
theorem Over.none {ps : List (Int × Int)} {n d m e : Int} (hd : 1 ≤ d) (h : Over ps n d m e) (g : Int.gcd m e = 1) (he : 1 ≤ e) (hn : ∀ p ∈ ps, ¬ n * p.2 < p.1 * d) : m = 0 ∧ e = 1 := by
  have e0 : overs ps n d = [] := by
    unfold overs
    rw [List.filter_eq_nil_iff]
    intro p hp
    simpa using hn p hp
  unfold Over at h
  rw [e0] at h
  have h' : m * (1 * d) = 0 := by
    have : m * (1 * d) = (0 * d - ((0 : Nat) : Int) * n * 1) * e := h
    rw [this]
    simp
  have m0 : m = 0 := by
    rcases Int.mul_eq_zero.mp h' with z | z
    · exact z
    · omega
  subst m0
  rw [Int.gcd_zero_left] at g
  exact ⟨rfl, by omega⟩
def spNum (b : Nat) : Sp := fun vs H Q _ => match vs with
  | [.int _] => ∀ z : Int, 0 ≤ z → z < 10 ^ b → Q (.int z) H
  | _ => False
end My

set_option Elab.async false
set_option linter.all false
set_option maxRecDepth 100000
namespace L2.EX
open PySem PySem.Spec PyProof.Rows
theorem bt_ValueError : bootBuiltins "ValueError" = some (.type "ValueError") := by decide +kernel
theorem ce_exc {X : Cx} {x : Str} {C : Addr} {pos : Pos} (hm : X.mg x = some (.ref C)) (hg : Gl X x := by rfl) (hd : (x == ("__debug__" : Str)) = false := by decide) : PE X (.Name x pos) (tC (.ref C)) := pe_glob hg hm rfl hd
end L2.EX
namespace L2.EX
open PySem PySem.Spec PyProof.Rows
section
variable {K : PySem.W.Frag} {C D : Addr}
theorem isc_of (h : PySem.W.hasDictIn K C = true) : (PySem.W.clsIn K C).isSome = true := by
  obtain ⟨cd, e, _⟩ := PySem.W.any_some h
  rw [e]
  rfl
theorem kit_self : PySem.W.kitOne K (.ref C) (.ref C) = some true := by
  unfold PySem.W.kitOne
  rw [if_pos (beq_self_eq_true _)]
theorem kit_no (h1 : PySem.W.hasDictIn K D = true) (h2 : PySem.W.typeIn K (.ref D) = some (.type "type")) (h3 : PySem.W.mroIn K C (.ref C) = some true) (h4 : PySem.W.mroIn K C (.ref D) = some false) : PySem.W.kitOne K (.ref C) (.ref D) = some false := by
  have ne : (Value.ref C == Value.ref D) = false := Bool.eq_false_iff.mpr fun q => by
    have e : C = D := Value.ref.inj (beq_iff_eq.mp q)
    subst e
    rw [h3] at h4
    cases h4
  unfold PySem.W.kitOne
  rw [ne, if_neg Bool.false_ne_true]
  show (if ((PySem.W.clsIn K D).isSome && PySem.W.typeIn K (.ref D) == some (.type "type")) = true then PySem.W.subIn K (.ref C) (.ref D) else none) = _
  rw [isc_of h1, h2, if_pos (by simp)]
  exact h4
theorem kit_val (h : PySem.W.mroIn K C (.type "ValueError") = some true) : PySem.W.kitOne K (.ref C) (.type "ValueError") = some true := by
  have ne : (Value.ref C == Value.type "ValueError") = false := Bool.eq_false_iff.mpr fun q => by cases beq_iff_eq.mp q
  have m : PySem.W.kitMeta "ValueError" = true := by decide +kernel
  unfold PySem.W.kitOne
  rw [ne, if_neg Bool.false_ne_true]
  show (if PySem.W.kitMeta "ValueError" = true then PySem.W.subIn K (.ref C) (.type "ValueError") else none) = _
  rw [if_pos m]
  exact h
end
end L2.EX
namespace My
open PySem L2 L2.EX
def ExcN (K : PySem.W.Frag) (mg : Str → Option Value) (C : Addr) (x : Str) (b : Bool) : Prop := ∃ c, mg x = some (.ref c) ∧ PySem.W.kitOne K (.ref C) (.ref c) = some b
structure Excs (K : PySem.W.Frag) (mg : Str → Option Value) (C D : Addr) : Prop where
  part : ExcD K mg "NoPart" C
  yoke : ExcY K mg "YokeError" D C
  val : mg "ValueError" = none
  isv : PySem.W.kitOne K (.ref C) (.type "ValueError") = some true
  NoPart : ExcN K mg C "NoPart" true
  NoName : ExcN K mg C "NoName" false
  Twice : ExcN K mg C "Twice" false
  TooMany : ExcN K mg C "TooMany" false
  NoWork : ExcN K mg C "NoWork" false
  NoHand : ExcN K mg C "NoHand" false
  NoChore : ExcN K mg C "NoChore" false
  NotSo : ExcN K mg C "NotSo" false
  NoDeed : ExcN K mg C "NoDeed" false
  NoLine : ExcN K mg C "NoLine" false
def badPart (vs : List V) : Prop := ∃ a : Int, vs = [.int a, .int 0]
def spIsX (K : PySem.W.Frag) (C : Addr) : Sp := fun vs H Q _ => match vs with
  | [.ref a, .int k] => k = 0 ∧ H a = some (ExcO a C) ∧ ∀ H', Same H H' → Q (.bl true) H'
  | _ => False
def spRef : Sp := fun vs H Q _ => ∃ z : Int, vs = [.int z] ∧ ∀ H', Same H H' → Q (.bl true) H'
def spMade (K : PySem.W.Frag) : Sp := fun vs H Q _ => ∃ a b : Int, vs = [.int a, .int b] ∧ b ≠ 0 ∧ Bd 300 a ∧ Bd 300 b ∧ ∀ H', Same H H' → Q (.bl true) H'
end My

set_option Elab.async false
set_option linter.all false
set_option maxRecDepth 100000
set_option maxHeartbeats 4000000
namespace My
open PySem L2 L2.EX
def top (i : Nat) : Stmt := PySem.Challenge.pw_evenyoke_k02_fractions_made.main.body.getD i (.Pass ⟨0, 0, 0, 0⟩)
local macro_rules | `(tactic| walk_at "run") => `(tactic| try dsimp only [xRaise, xTry, spIsX, Cx.held, cxOf, Cx.nox, Cx.wish, tSeq, tIfS, xT, onB, tOp, xV, sg, tC, tAsg, gName, List.set, tRet, tNext, tCB, tCons, tNil, tUn, uAdd, uSub, uMul, uMod, uDiv, uPow, uNeg, uEq, uNe, uLt, uLe, uGt, uGe, uAbs, uMin2, uMax2, uInt, uInst, tyN, xAnd, xOr, xNot, tAnd, tOr, tNot, xCall, xPar, tDrop, tLst, tTup, spG, spCell, spNumber, spWhole, spMixed, spNum, spBoth, xNever, xWhileM, uEqD, uNeD, xComp, tYes, tNoPart, xEnum, xSlS, xZip, xZip3, uInD, uNinD, xRem, xIndex, xIns, xExt, xRev, tAugS, gSub, tIf, xFld, xSFld, xMeth, xMake, uAny, xSl, xApp, xPop, xClear, uGet, uIpAdd, uIpSub, xFor, xSeq, xR1, xR2, xR3, xT2, xT3, xPart, uIs])
local macro_rules | `(tactic| walk_at "one") => `(tactic| try dsimp only [xRaise, xTry, spIsX, Cx.held, cxOf, Cx.nox, Cx.wish, tIfS, xT, onB, tOp, xV, sg, tC, tAsg, gName, List.set, tRet, tNext, tCB, tCons, tNil, tUn, uAdd, uSub, uMul, uMod, uDiv, uPow, uNeg, uEq, uNe, uLt, uLe, uGt, uGe, uAbs, uMin2, uMax2, uInt, uInst, tyN, xAnd, xOr, xNot, tAnd, tOr, tNot, xCall, xPar, tDrop, tLst, tTup, spG, spCell, spNumber, spWhole, spMixed, spNum, spBoth, xNever, xWhileM, uEqD, uNeD, xComp, tYes, tNoPart, xEnum, xSlS, xZip, xZip3, uInD, uNinD, xRem, xIndex, xIns, xExt, xRev, tAugS, gSub, tIf, xFld, xSFld, xMeth, xMake, uAny, xSl, xApp, xPop, xClear, uGet, uIpAdd, uIpSub, xFor, xSeq, xR1, xR2, xR3, xT2, xT3, xPart, uIs])
section
variable {P : Program} {w : World} {K : PySem.W.Frag} {mg : Str → Option Value} {base : Heap} {CNoPart CYokeError : Addr}
abbrev s_Lnumber : Stmt := top 18
theorem sc_Lnumber : FnScope ["_law_cell"] ["_law_cell"] (defScope s_Lnumber) := ⟨rfl, rfl, rfl, by decide +kernel, rfl, by decide +kernel, by decide +kernel⟩
theorem ok_Lnumber (T : Top K mg "_law_number" s_Lnumber ["_law_cell"]) (B : Blt mg)  : Def P w K mg base "_law_number" 1 ["_law_cell"] (spNumber) := by
  refine mk_def (k := 0) T sc_Lnumber (fun vs H Q E h => ?_) (fun f cdv A outer s H vs Q E hr h => ?_)
  · unfold spNumber at h
    split at h
    · rfl
    · exact h.elim
  unfold spNumber at h
  split at h
  · rename_i c
    refine ⟨_, (pss_cons (ps_if (ct_cmp uo_eq (pe_op uo_mod (cv 0) pe_int) pe_int (nomark _))
      (pss_one (ps_ret (pe_op uo_add (pe_op uo_sub (pe_op uo_mod (pe_op uo_div (cv 0) pe_int) (pe_op uo_sub (pe_op uo_mul pe_int (pe_op uo_pow pe_int pe_int)) pe_int)) (pe_op uo_pow pe_int pe_int)) pe_int)))
      pss_nil)
      (pss_cons (ps_if (ct_cmp uo_eq (pe_op uo_mod (cv 0) pe_int) pe_int (nomark _))
      (pss_one (ps_ret (pe_op uo_sub (pe_op uo_mod (pe_op uo_div (cv 0) pe_int) pe_int) pe_int)))
      pss_nil)
      (pss_one (ps_ret (pe_op uo_sub (pe_op uo_mod (pe_op uo_div (cv 0) pe_int) pe_int) pe_int))))), ?_⟩
    refine rd (σ' := [some (.int c)]) rfl ?_
    walk_at "run"
    refine ⟨by decide, ite2 (fun _ => ?_) (fun _ => ?_)⟩
    · refine ⟨by decide, by decide +kernel, by decide, by decide +kernel, mulOk (m := 2) (n := 200) (by show _ < _; decide +kernel) (by show _ < _; decide +kernel) (by decide), by decide +kernel, by decide, by decide +kernel, h _ ?_ ?_⟩
      · have := Int.emod_nonneg (c.fdiv 3) (show (2 * 10 ^ Int.toNat 60 - 1 : Int) ≠ 0 by decide +kernel)
        have e : ((10 : Int) ^ Int.toNat 60) = 10 ^ 60 := rfl
        rw [e] at *
        omega
      · have := Int.emod_lt_of_pos (c.fdiv 3) (show (0 : Int) < 2 * 10 ^ Int.toNat 60 - 1 by decide +kernel)
        have e : ((10 : Int) ^ Int.toNat 60) = 10 ^ 60 := rfl
        rw [e] at *
        omega
    · refine ⟨by decide, ite2 (fun _ => ?_) (fun _ => ?_)⟩
      · refine ⟨by decide, by decide +kernel, by decide, h _ ?_ ?_⟩
        · have := Int.emod_nonneg (c.fdiv 3) (show (2001 : Int) ≠ 0 by decide)
          omega
        · have := Int.emod_lt_of_pos (c.fdiv 3) (show (0 : Int) < 2001 by decide)
          omega
      · refine ⟨by decide, by decide +kernel, by decide, h _ ?_ ?_⟩
        · have := Int.emod_nonneg (c.fdiv 3) (show (13 : Int) ≠ 0 by decide)
          omega
        · have := Int.emod_lt_of_pos (c.fdiv 3) (show (0 : Int) < 13 by decide)
          omega
  · exact h.elim
abbrev s_Lcell_at : Stmt := top 17
theorem sc_Lcell_at : FnScope ["_law_script", "_law_k"] ["_law_script", "_law_k"] (defScope s_Lcell_at) := ⟨rfl, rfl, rfl, by decide +kernel, rfl, by decide +kernel, by decide +kernel⟩
theorem ok_Lcell_at (T : Top K mg "_law_cell_at" s_Lcell_at ["_law_script", "_law_k"]) (B : Blt mg)  : Def P w K mg base "_law_cell_at" 1 ["_law_script", "_law_k"] (spCell K) := by
  refine mk_def (k := 0) T sc_Lcell_at (fun vs H Q E h => ?_) (fun f cdv A outer s H vs Q E hr h => ?_)
  · unfold spCell at h
    split at h
    · rfl
    · exact h.elim
  unfold spCell at h
  split at h
  · rename_i a k
    obtain ⟨ns, hS, hk, q⟩ := h
    refine ⟨_, (pss_cons (ps_if (ct_cmp uo_lt (cv 1) (ce_b uc_len B.len PySem.boot_len (pa_cons (cv 0) pa_nil)) (nomark _))
      (pss_one (ps_ret (pe_ix ui_ix (cv 0) (cv 1) (fun _ _ => rfl))))
      pss_nil)
      (pss_one (ps_ret pe_int))), ?_⟩
    refine rd (σ' := [some (.ref a), some (.int k)]) rfl ?_
    walk_at "run"
    refine ⟨_, .inl hS, ite2 (fun c => ?_) (fun c => ?_)⟩
    · exact ⟨_, _, .inl hS, at_ints hk (of_decide_eq_true c), q⟩
    · have c' : ¬ k < ((ns.map V.int).length : Nat) := fun z => c (decide_eq_true z)
      rw [List.length_map] at c'
      have e : ns.getD k.toNat 0 = 0 := by
        rw [List.getD_eq_getElem?_getD, List.getElem?_eq_none (by omega)]
        rfl
      rw [e] at q
      exact q
  · exact h.elim
abbrev s_is_whole : Stmt := top 13
theorem sc_is_whole : FnScope ["thing"] ["thing"] (defScope s_is_whole) := ⟨rfl, rfl, rfl, by decide +kernel, rfl, by decide +kernel, by decide +kernel⟩
theorem ok_is_whole (T : Top K mg "is_whole" s_is_whole ["thing"]) (B : Blt mg)  : Def P w K mg base "is_whole" 1 ["thing"] (spWhole) := by
  refine mk_def (k := 0) T sc_is_whole (fun vs H Q E h => ?_) (fun f cdv A outer s H vs Q E hr h => ?_)
  · unfold spWhole at h
    split at h
    · rfl
    · rfl
    · exact h.elim
  refine ⟨_, (pss_one (ps_ret (ce_and (ce_b uc_isinstance B.isinstance bt_isinstance (pa_cons (cv 0) (pa_cons (ce_ty B.int bt_int) pa_nil))) (pe_one (ce_not (ce_b uc_isinstance B.isinstance bt_isinstance (pa_cons (cv 0) (pa_cons (ce_ty B.bool bt_bool) pa_nil)))))))), ?_⟩
  unfold spWhole at h
  split at h
  · rename_i z
    refine rd (σ' := [some (.int z)]) rfl ?_
    walk_at "run"
    exact ⟨by decide, iteT ⟨by decide, h⟩⟩
  · rename_i z
    refine rd (σ' := [some (.bl z)]) rfl ?_
    walk_at "run"
    exact ⟨by decide, iteT ⟨by decide, h⟩⟩
  · exact h.elim
abbrev s_divisor_of : Stmt := top 14
theorem sc_divisor_of : FnScope ["one", "other", "greater", "lesser", "rest"] ["one", "other"] (defScope s_divisor_of) := ⟨rfl, rfl, rfl, by decide +kernel, rfl, by decide +kernel, by decide +kernel⟩
theorem ok_divisor_of (T : Top K mg "divisor_of" s_divisor_of ["one", "other"]) (B : Blt mg)  : Def P w K mg base "divisor_of" 1 ["one", "other"] (spG) := by
  refine mk_def (k := 0) T sc_divisor_of (fun vs H Q E h => ?_) (fun f cdv A outer s H vs Q E hr h => ?_)
  · unfold spG at h
    split at h
    · rfl
    · exact h.elim
  unfold spG at h
  split at h
  · rename_i a b
    refine ⟨_, (pss_cons (cs_set 2 sc_divisor_of.nd (ce_b uc_abs B.abs bt_abs (pa_cons (cv 0) pa_nil)))
      (pss_cons (cs_set 3 sc_divisor_of.nd (ce_b uc_abs B.abs bt_abs (pa_cons (cv 1) pa_nil)))
      (pss_cons (cs_while (ct_cmp uo_gt (cv 3) pe_int (nomark _))
      (pss_cons (cs_set 4 sc_divisor_of.nd (pe_op uo_mod (cv 2) (cv 3)))
        (pss_cons (cs_set 2 sc_divisor_of.nd (cv 3))
        (pss_one (cs_set 3 sc_divisor_of.nd (cv 4))))))
      (pss_one (ps_ret (cv 2)))))), ?_⟩
    refine rd (σ' := [some (.int a), some (.int b), none, none, none]) rfl ?_
    walk_at "run"
    refine ⟨fun σ H' => H' = H ∧ ∃ (g l : Int) (r : Option V), σ = [some (.int a), some (.int b), some (.int g), some (.int l), r] ∧ 0 ≤ g ∧ 0 ≤ l ∧ Int.gcd g l = Int.gcd a b,
      fun σ _ => match σ with | [_, _, _, some (.int l), _] => l.toNat | _ => 0, ⟨rfl, _, _, _, rfl, abs_nn a, abs_nn b, gcd_abs a b⟩, ?_⟩
    rintro σ H' ⟨rfl, g, l, r, rfl, hg, hl, e⟩
    walk_at "run"
    refine ite2 (fun c => ?_) (fun c => ?_)
    · have c' : 0 < l := of_decide_eq_true c
      refine ⟨c', ⟨rfl, l, g % l, _, rfl, hl, Int.emod_nonneg _ (by omega), by rw [gcd_turn hg c', e]⟩, ?_⟩
      have := Int.emod_lt_of_pos g c'
      have := Int.emod_nonneg g (show l ≠ 0 by omega)
      omega
    · have c' : ¬ 0 < l := fun z => c (decide_eq_true z)
      have e0 : l = 0 := by omega
      subst e0
      rw [← e, gcd_done hg] at h
      exact h
  · exact h.elim
abbrev s_Lis : Stmt := top 22
theorem sc_Lis : FnScope ["_law_caught", "_law_at", "_law_told"] ["_law_caught", "_law_at"] (defScope s_Lis) := ⟨rfl, rfl, rfl, by decide +kernel, rfl, by decide +kernel, by decide +kernel⟩
theorem ok_Lis (T : Top K mg "_law_is" s_Lis ["_law_caught", "_law_at"]) (B : Blt mg) (V : Excs K mg CNoPart CYokeError)  : Def P w K mg base "_law_is" 1 ["_law_caught", "_law_at"] (spIsX K CNoPart) := by
  refine mk_def (k := 0) T sc_Lis (fun vs H Q E h => ?_) (fun f cdv A outer s H vs Q E hr h => ?_)
  · unfold spIsX at h
    split at h
    · rfl
    · exact h.elim
  unfold spIsX at h
  split at h
  · rename_i a k
    obtain ⟨rfl, ha, q⟩ := h
    obtain ⟨c0, m_NoPart, q0⟩ := V.NoPart
    obtain ⟨c1, m_NoName, q1⟩ := V.NoName
    obtain ⟨c2, m_Twice, q2⟩ := V.Twice
    obtain ⟨c3, m_TooMany, q3⟩ := V.TooMany
    obtain ⟨c4, m_NoWork, q4⟩ := V.NoWork
    obtain ⟨c5, m_NoHand, q5⟩ := V.NoHand
    obtain ⟨c6, m_NoChore, q6⟩ := V.NoChore
    obtain ⟨c7, m_NotSo, q7⟩ := V.NotSo
    obtain ⟨c8, m_NoDeed, q8⟩ := V.NoDeed
    obtain ⟨c9, m_NoLine, q9⟩ := V.NoLine
    have Z := V.part.k
    have num : ∀ i : Nat, i < 10 → ([true, false, false, false, false, false, false, false, false, false] : List Bool)[i]? = some (decide ((0 : Int) + (i : Int) = 0)) := by decide
    refine ⟨_, (pss_cons (cs_set 2 sc_Lis.nd (pe_lst (pa_cons (ce_b uc_isi B.isinstance bt_isinstance (pa_cons (cv 0) (pa_cons (ce_exc m_NoPart) pa_nil))) (pa_cons (ce_b uc_isi B.isinstance bt_isinstance (pa_cons (cv 0) (pa_cons (ce_exc m_NoName) pa_nil))) (pa_cons (ce_b uc_isi B.isinstance bt_isinstance (pa_cons (cv 0) (pa_cons (ce_exc m_Twice) pa_nil))) pa_nil)))))
      (pss_cons (cs_set 2 sc_Lis.nd (pe_op uo_add (cv 2) (pe_lst (pa_cons (ce_b uc_isi B.isinstance bt_isinstance (pa_cons (cv 0) (pa_cons (ce_exc m_TooMany) pa_nil))) (pa_cons (ce_b uc_isi B.isinstance bt_isinstance (pa_cons (cv 0) (pa_cons (ce_exc m_NoWork) pa_nil))) (pa_cons (ce_b uc_isi B.isinstance bt_isinstance (pa_cons (cv 0) (pa_cons (ce_exc m_NoHand) pa_nil))) pa_nil))))))
      (pss_cons (cs_set 2 sc_Lis.nd (pe_op uo_add (cv 2) (pe_lst (pa_cons (ce_b uc_isi B.isinstance bt_isinstance (pa_cons (cv 0) (pa_cons (ce_exc m_NoChore) pa_nil))) (pa_cons (ce_b uc_isi B.isinstance bt_isinstance (pa_cons (cv 0) (pa_cons (ce_exc m_NotSo) pa_nil))) (pa_cons (ce_b uc_isi B.isinstance bt_isinstance (pa_cons (cv 0) (pa_cons (ce_exc m_NoDeed) pa_nil))) pa_nil))))))
      (pss_cons (cs_set 2 sc_Lis.nd (pe_op uo_add (cv 2) (pe_lst (pa_cons (ce_b uc_isi B.isinstance bt_isinstance (pa_cons (cv 0) (pa_cons (ce_exc m_NoLine) pa_nil))) pa_nil))))
      (pss_cons (ps_if (ct_cmp (uo_neD hr) (cv 2) (ce_comp (N := ["_law_k", "_law_at"]) (fr := [1]) 1 (ci_r1 B.range (pa_cons pe_int pa_nil)) (fun C hN => by exact pgC ((cg_name 0 hN)) (by first | rfl | (dsimp only [compCx]; done) | (dsimp only [compCx]; rfl))) (fun C hN => by exact peC ((pe_cmpR uo_eq (cv 0) (cv 1) (nomark _))) (by first | rfl | (dsimp only [compCx]; done) | (dsimp only [compCx]; rfl)))) (nomark _))
      (pss_one (ps_ret pe_bl))
      pss_nil)
      (pss_one (ps_ret (ce_or (ce_and (pe_cmpR uo_eq (cv 1) pe_int (nomark _)) (pe_one (pe_cmpR uo_is (cv 0) pe_non (nomark _)))) (pe_one (ce_b uc_isi B.isinstance bt_isinstance (pa_cons (cv 0) (pa_cons (ce_ty V.val bt_ValueError) pa_nil)))))))))))), ?_⟩
    refine rd (σ' := [some (.ref a), some (.int 0), none]) rfl ?_
    walk_at "run"
    refine ⟨CNoPart, true, ha, Z, q0, CNoPart, false, ha, Z, q1, CNoPart, false, ha, Z, q2, sz (by show 3 ≤ 1000; decide), fun l1 h1 => ?_⟩
    have s1 := same_new h1 (.lst [.bl true, .bl false, .bl false])
    have g1 : upd H l1 (.lst [.bl true, .bl false, .bl false]) l1 = some (.lst [.bl true, .bl false, .bl false]) := upd_same
    generalize upd H l1 (.lst [.bl true, .bl false, .bl false]) = H1 at s1 g1 ⊢
    walk_at "run"
    have ha1 := s1 _ _ ha
    refine ⟨CNoPart, false, ha1, Z, q3, CNoPart, false, ha1, Z, q4, CNoPart, false, ha1, Z, q5, sz (by show 3 ≤ 1000; decide), fun l2 h2 => ?_⟩
    walk_at "run"
    refine ⟨_, _, same_new h2 _ _ _ g1, upd_same, sz (by show 6 ≤ 1000; decide), fun l3 h3 => ?_⟩
    have s3 := s1.trans ((same_new h2 (.lst [.bl false, .bl false, .bl false])).trans (same_new h3 (.lst [.bl true, .bl false, .bl false, .bl false, .bl false, .bl false])))
    have g3 : upd (upd H1 l2 (.lst [.bl false, .bl false, .bl false])) l3 (.lst [.bl true, .bl false, .bl false, .bl false, .bl false, .bl false]) l3 = some (.lst [.bl true, .bl false, .bl false, .bl false, .bl false, .bl false]) := upd_same
    have ha3 := s3 _ _ ha
    refine ⟨CNoPart, false, ha3, Z, q6, CNoPart, false, ha3, Z, q7, CNoPart, false, ha3, Z, q8, sz (by show 3 ≤ 1000; decide), fun l4 h4 => ⟨_, _, same_new h4 _ _ _ g3, upd_same, sz (by show 9 ≤ 1000; decide), fun l5 h5 => ?_⟩⟩
    have s5 := s3.trans ((same_new h4 (.lst [.bl false, .bl false, .bl false])).trans (same_new h5 (.lst [.bl true, .bl false, .bl false, .bl false, .bl false, .bl false, .bl false, .bl false, .bl false])))
    have ha5 := s5 _ _ ha
    refine ⟨CNoPart, false, ha5, Z, q9, sz (by show 1 ≤ 1000; decide), fun l6 h6 => ⟨_, _, same_new h6 _ _ _ upd_same, upd_same, sz (by show 10 ≤ 1000; decide), fun l7 h7 => ⟨⟨by decide, by decide⟩, ?_⟩⟩⟩
    have s7 := s5.trans ((same_new h6 (.lst [.bl false])).trans (same_new h7 (.lst ([true, false, false, false, false, false, false, false, false, false].map L2.V.bl))))
    refine cgo (σ' := [none, some (.int 0)]) rfl ?_
    refine comp_range (fun i ys H4 => Same H H4 ∧ H4 l7 = some (.lst ([true, false, false, false, false, false, false, false, false, false].map L2.V.bl)) ∧ ys = (([true, false, false, false, false, false, false, false, false, false] : List Bool).take i).map L2.V.bl) ⟨s7, upd_same, rfl⟩ (small1000 (by decide)) ?_ ?_ ?_
    · rintro i ys H4 _ ⟨_, _, rfl⟩
      rw [List.length_map, List.length_take]
      omega
    · rintro i ys H4 hi ⟨sH, gH, rfl⟩
      walk_at "run"
      refine iteT (CNx.mk ⟨sH, gH, ?_⟩ hi)
      rw [List.take_add_one, num i hi, List.map_append]
      rfl
    · rintro ys H4 ⟨sH, gH, rfl⟩ l8 h8
      refine ⟨.list ([true, false, false, false, false, false, false, false, false, false].map PyData.bool), .list ([true, false, false, false, false, false, false, false, false, false].map PyData.bool), is_list.mpr ⟨l7, _, rfl, same_new h8 _ _ _ gH, isAll_bls _⟩, is_list.mpr ⟨l8, _, rfl, upd_same, isAll_bls _⟩, (sh_bls _ (n := 0)).le (by decide), (sh_bls _ (n := 0)).le (by decide), ?_⟩
      rw [eqv_same ((sh_bls _ (n := 0)).le (by decide))]
      have s8 := sH.trans (same_new h8 (.lst ([true, false, false, false, false, false, false, false, false, false].map L2.V.bl)))
      exact iteF (ite2 (fun c => absurd (of_decide_eq_true c) (by decide)) fun _ => iteF ⟨CNoPart, true, s8 _ _ ha, Z, V.isv, q _ s8⟩)
  · exact h.elim
abbrev s_part_of : Stmt := top 15
theorem sc_part_of : FnScope ["top", "bottom", "divisor"] ["top", "bottom"] (defScope s_part_of) := ⟨rfl, rfl, rfl, by decide +kernel, rfl, by decide +kernel, by decide +kernel⟩
theorem ok_part_of (T : Top K mg "part_of" s_part_of ["top", "bottom"]) (B : Blt mg) (D_is_whole : Def P w K mg base "is_whole" 1 ["thing"] (spWhole)) (D_divisor_of : Def P w K mg base "divisor_of" 1 ["one", "other"] (spG)) : Def P w K mg base "part_of" 2 ["top", "bottom"] (spPart K) := by
  refine mk_def (k := 1) T sc_part_of (fun vs H Q E h => ?_) (fun f cdv A outer s H vs Q E hr h => ?_)
  · obtain ⟨a, b, rfl, _⟩ := h
    rfl
  obtain ⟨a, b, rfl, hb, hB, q⟩ := h
  refine ⟨_, (pss_cons (ps_if (pw_or (pt_not (ct_val (ce_call D_is_whole (hr.mono (by decide)) (pa_cons (cv 0) pa_nil)))) (pw_or (pt_not (ct_val (ce_call D_is_whole (hr.mono (by decide)) (pa_cons (cv 1) pa_nil)))) (pw_or1 (ct_cmp uo_eq (cv 1) pe_int (nomark _))))).pt
      (pss_one cs_never)
      pss_nil)
      (pss_cons (cs_set 2 sc_part_of.nd (ce_call D_divisor_of (hr.mono (by decide)) (pa_cons (cv 0) (pa_cons (cv 1) pa_nil))))
      (pss_cons (ps_if (ct_cmp uo_lt (cv 1) pe_int (nomark _))
      (pss_one (cs_set 2 sc_part_of.nd (pe_un uo_neg (cv 2))))
      pss_nil)
      (pss_one (ps_ret (pe_tup (pa_cons (pe_op uo_div (cv 0) (cv 2)) (pa_cons (pe_op uo_div (cv 1) (cv 2)) pa_nil)))))))), ?_⟩
  refine rd (σ' := [some (.int a), some (.int b), none]) rfl ?_
  walk_at "run"
  have fin : ∀ j : Int, j = (if b < 0 then -((Int.gcd a b : Nat) : Int) else (Int.gcd a b : Nat)) → j ≠ 0 ∧ j.natAbs.log2 < 9000 ∧ j ≠ 0 ∧ j.natAbs.log2 < 9000 ∧ 2 ≤ sizeLine ∧ ∀ p, H p = none → Q (.ref p) (upd H p (.tup [.int (a.fdiv j), .int (b.fdiv j)])) := fun j hj => by
    obtain ⟨h1, h2, h3, h4, h5⟩ := part_math hb hj
    exact ⟨h1, log9 hB h2 h1, h1, log9 hB h2 h1, sz (by show 2 ≤ 1000; decide), (q _ _ h3 h4 h5).ints2⟩
  refine iteF (iteF (ite2 (fun c => absurd (of_decide_eq_true c) hb) (fun _ => ?_)))
  refine ite2 (fun c => ?_) (fun c => ?_)
  · exact fin _ (if_pos (of_decide_eq_true c)).symm
  · exact fin _ (if_neg (fun z => c (decide_eq_true z))).symm
abbrev s_Lrefused : Stmt := top 23
theorem sc_Lrefused : FnScope ["_law_top", "_law_caught", "e"] ["_law_top"] (defScope s_Lrefused) := ⟨rfl, rfl, rfl, by decide +kernel, rfl, by decide +kernel, by decide +kernel⟩
theorem okX_part_of (T : Top K mg "part_of" s_part_of ["top", "bottom"]) (B : Blt mg) (V : Excs K mg CNoPart CYokeError) (D_is_whole : Def P w K mg base "is_whole" 1 ["thing"] (spWhole)) (D_divisor_of : Def P w K mg base "divisor_of" 1 ["one", "other"] (spG)) : DefX P w K mg base "part_of" CNoPart 2 ["top", "bottom"] badPart := by
  refine mk_defX (k := 1) T sc_part_of fun f cdv A outer s H vs Q E hr h => ?_
  obtain ⟨a, rfl⟩ := h
  refine ⟨_, (pss_cons (ps_if (pw_or (pt_not (ct_val (ce_call D_is_whole (hr.mono (by decide)) (pa_cons (cv 0) pa_nil)))) (pw_or (pt_not (ct_val (ce_call D_is_whole (hr.mono (by decide)) (pa_cons (cv 1) pa_nil)))) (pw_or1 (ct_cmp uo_eq (cv 1) pe_int (nomark _))))).pt
      (pss_one (cs_raise V.part (fun z => z = H) (pa_cons pe_str pa_nil) leave_r))
      pss_nil)
      (pss_cons (cs_set 2 sc_part_of.nd (ce_call D_divisor_of (hr.mono (by decide)) (pa_cons (cv 0) (pa_cons (cv 1) pa_nil))))
      (pss_cons (ps_if (ct_cmp uo_lt (cv 1) pe_int (nomark _))
      (pss_one (cs_set 2 sc_part_of.nd (pe_un uo_neg (cv 2))))
      pss_nil)
      (pss_one (ps_ret (pe_tup (pa_cons (pe_op uo_div (cv 0) (cv 2)) (pa_cons (pe_op uo_div (cv 1) (cv 2)) pa_nil)))))))), ?_⟩
  refine rd (σ' := [some (.int a), some (.int 0), none]) rfl ?_
  walk_at "run"
  exact iteF (iteF (iteT ⟨sz (by show 1 ≤ 1000; decide), rfl⟩))
theorem ok_Lrefused (T : Top K mg "_law_refused" s_Lrefused ["_law_top"]) (B : Blt mg) (V : Excs K mg CNoPart CYokeError) (DX_part_of : DefX P w K mg base "part_of" CNoPart 2 ["top", "bottom"] badPart) (D_Lis : Def P w K mg base "_law_is" 1 ["_law_caught", "_law_at"] (spIsX K CNoPart)) : Def P w K mg base "_law_refused" 3 ["_law_top"] (spRef) := by
  refine mk_def (k := 2) T sc_Lrefused (fun vs H Q E h => ?_) (fun f cdv A outer s H vs Q E hr h => ?_)
  · obtain ⟨z, rfl, _⟩ := h
    rfl
  obtain ⟨z, rfl, q⟩ := h
  refine ⟨_, (pss_cons (cs_set 1 sc_Lrefused.nd pe_non)
      (pss_cons (cs_try 2 sc_Lrefused.nd DX_part_of (hr.mono (by decide)) (pa_cons (cv 0) (pa_cons pe_int pa_nil)) V.yoke (fun a => (pss_one (cs_set 1 sc_Lrefused.nd (cv 2)))))
      (pss_one (ps_ret (ce_call D_Lis (hr.mono (by decide)) (pa_cons (cv 1) (pa_cons pe_int pa_nil))))))), ?_⟩
  refine rd (σ' := [some (.int z), none, none]) rfl ?_
  walk_at "run"
  refine ⟨⟨z, rfl⟩, rfl, fun a ha => ?_⟩
  walk_at "run"
  exact ⟨rfl, upd_same, fun H' s' => q _ ((same_new ha _).trans s')⟩
abbrev s_Lwhole : Stmt := top 20
theorem sc_Lwhole : FnScope ["_law_found"] ["_law_found"] (defScope s_Lwhole) := ⟨rfl, rfl, rfl, by decide +kernel, rfl, by decide +kernel, by decide +kernel⟩
theorem ok_Lwhole (T : Top K mg "_law_whole" s_Lwhole ["_law_found"]) (B : Blt mg)  : Def P w K mg base "_law_whole" 1 ["_law_found"] (spWhole) := by
  refine mk_def (k := 0) T sc_Lwhole (fun vs H Q E h => ?_) (fun f cdv A outer s H vs Q E hr h => ?_)
  · unfold spWhole at h
    split at h
    · rfl
    · rfl
    · exact h.elim
  refine ⟨_, (pss_one (ps_ret (ce_and (ce_b uc_isinstance B.isinstance bt_isinstance (pa_cons (cv 0) (pa_cons (ce_ty B.int bt_int) pa_nil))) (pe_one (ce_not (ce_b uc_isinstance B.isinstance bt_isinstance (pa_cons (cv 0) (pa_cons (ce_ty B.bool bt_bool) pa_nil)))))))), ?_⟩
  unfold spWhole at h
  split at h
  · rename_i z
    refine rd (σ' := [some (.int z)]) rfl ?_
    walk_at "run"
    exact ⟨by decide, iteT ⟨by decide, h⟩⟩
  · rename_i z
    refine rd (σ' := [some (.bl z)]) rfl ?_
    walk_at "run"
    exact ⟨by decide, iteT ⟨by decide, h⟩⟩
  · exact h.elim
abbrev s_Ldivisor : Stmt := top 19
theorem sc_Ldivisor : FnScope ["_law_one", "_law_other", "_law_left", "_law_right"] ["_law_one", "_law_other"] (defScope s_Ldivisor) := ⟨rfl, rfl, rfl, by decide +kernel, rfl, by decide +kernel, by decide +kernel⟩
theorem ok_Ldivisor (T : Top K mg "_law_divisor" s_Ldivisor ["_law_one", "_law_other"]) (B : Blt mg)  : Def P w K mg base "_law_divisor" 1 ["_law_one", "_law_other"] (spG) := by
  refine mk_def (k := 0) T sc_Ldivisor (fun vs H Q E h => ?_) (fun f cdv A outer s H vs Q E hr h => ?_)
  · unfold spG at h
    split at h
    · rfl
    · exact h.elim
  unfold spG at h
  split at h
  · rename_i a b
    refine ⟨_, (pss_cons (cs_set 2 sc_Ldivisor.nd (ce_b uc_abs B.abs bt_abs (pa_cons (cv 0) pa_nil)))
      (pss_cons (cs_set 3 sc_Ldivisor.nd (ce_b uc_abs B.abs bt_abs (pa_cons (cv 1) pa_nil)))
      (pss_cons (cs_while (ct_cmp uo_gt (cv 2) pe_int (nomark _))
      (pss_one (cs_par 2 3 sc_Ldivisor.nd (pa_cons (pe_op uo_mod (cv 3) (cv 2)) (pa_cons (cv 2) pa_nil)))))
      (pss_one (ps_ret (cv 3)))))), ?_⟩
    refine rd (σ' := [some (.int a), some (.int b), none, none]) rfl ?_
    walk_at "run"
    refine ⟨fun σ H' => H' = H ∧ ∃ (l g : Int), σ = [some (.int a), some (.int b), some (.int l), some (.int g)] ∧ 0 ≤ g ∧ 0 ≤ l ∧ Int.gcd g l = Int.gcd a b,
      fun σ _ => match σ with | [_, _, some (.int l), _] => l.toNat | _ => 0, ⟨rfl, _, _, rfl, abs_nn b, abs_nn a, by rw [Int.gcd_comm]; exact gcd_abs a b⟩, ?_⟩
    rintro σ H' ⟨rfl, l, g, rfl, hg, hl, e⟩
    walk_at "run"
    refine ite2 (fun c => ?_) (fun c => ?_)
    · have c' : 0 < l := of_decide_eq_true c
      refine ⟨c', ⟨rfl, g % l, l, rfl, hl, Int.emod_nonneg _ (by omega), by rw [gcd_turn hg c', e]⟩, ?_⟩
      have := Int.emod_lt_of_pos g c'
      have := Int.emod_nonneg g (show l ≠ 0 by omega)
      omega
    · have c' : ¬ 0 < l := fun z => c (decide_eq_true z)
      have e0 : l = 0 := by omega
      subst e0
      rw [← e, gcd_done hg] at h
      exact h
  · exact h.elim
abbrev s_Lis_fraction : Stmt := top 21
theorem sc_Lis_fraction : FnScope ["_law_found"] ["_law_found"] (defScope s_Lis_fraction) := ⟨rfl, rfl, rfl, by decide +kernel, rfl, by decide +kernel, by decide +kernel⟩
theorem ok_Lis_fraction (T : Top K mg "_law_is_fraction" s_Lis_fraction ["_law_found"]) (B : Blt mg) (D_Lwhole : Def P w K mg base "_law_whole" 1 ["_law_found"] (spWhole)) (D_Ldivisor : Def P w K mg base "_law_divisor" 1 ["_law_one", "_law_other"] (spG)) : Def P w K mg base "_law_is_fraction" 2 ["_law_found"] (spIsFrac K) := by
  refine mk_def (k := 1) T sc_Lis_fraction (fun vs H Q E h => ?_) (fun f cdv A outer s H vs Q E hr h => ?_)
  · obtain ⟨x, n, d, rfl, _⟩ := h
    rfl
  obtain ⟨x, n, d, rfl, hx, hd, hg, q⟩ := h
  obtain ⟨a, rfl, ha⟩ := is_frac.mp hx
  have hT : SqT K H a [.int n, .int d] := SqT.of ha
  refine ⟨_, (pss_cons (ps_if (pw_or (pt_not (ct_val (ce_b uc_isinstance B.isinstance bt_isinstance (pa_cons (cv 0) (pa_cons (ce_ty B.tuple bt_tuple) pa_nil))))) (pw_or1 (ct_cmp uo_ne (ce_b uc_len B.len PySem.boot_len (pa_cons (cv 0) pa_nil)) pe_int (nomark _)))).pt
      (pss_one (ps_ret pe_bl))
      pss_nil)
      (pss_cons (ps_if (pw_or (pt_not (ct_val (ce_call D_Lwhole (hr.mono (by decide)) (pa_cons (pe_ix ui_ix (cv 0) pe_int (fun _ _ => rfl)) pa_nil)))) (pw_or (pt_not (ct_val (ce_call D_Lwhole (hr.mono (by decide)) (pa_cons (pe_ix ui_ix (cv 0) pe_int (fun _ _ => rfl)) pa_nil)))) (pw_or1 (ct_cmp uo_lt (pe_ix ui_ix (cv 0) pe_int (fun _ _ => rfl)) pe_int (nomark _))))).pt
      (pss_one (ps_ret pe_bl))
      pss_nil)
      (pss_one (ps_ret (pe_cmpR uo_eq (ce_call D_Ldivisor (hr.mono (by decide)) (pa_cons (pe_ix ui_ix (cv 0) pe_int (fun _ _ => rfl)) (pa_cons (pe_ix ui_ix (cv 0) pe_int (fun _ _ => rfl)) pa_nil))) pe_int (nomark _)))))), ?_⟩
  refine rd (σ' := [some (.ref a)]) rfl ?_
  walk_at "run"
  rw [ha]
  walk_at "run"
  refine ⟨by decide, iteF ⟨_, .inr hT, iteNS rfl ⟨_, _, .inr hT, rfl, ?_⟩⟩⟩
  walk_at "run"
  refine iteF ⟨_, _, .inr hT, rfl, ?_⟩
  walk_at "run"
  refine iteF ⟨_, _, .inr hT, rfl, ?_⟩
  walk_at "run"
  refine ite2 (fun c => absurd (of_decide_eq_true c) (by omega)) (fun _ => ⟨_, _, .inr hT, rfl, _, _, .inr hT, rfl, ?_⟩)
  walk_at "run"
  rw [hg]
  exact q
abbrev s_Lmade : Stmt := top 24
theorem sc_Lmade : FnScope ["_law_top", "_law_bottom", "_law_found"] ["_law_top", "_law_bottom"] (defScope s_Lmade) := ⟨rfl, rfl, rfl, by decide +kernel, rfl, by decide +kernel, by decide +kernel⟩
theorem ok_Lmade (T : Top K mg "_law_made" s_Lmade ["_law_top", "_law_bottom"]) (B : Blt mg) (D_part_of : Def P w K mg base "part_of" 2 ["top", "bottom"] (spPart K)) (D_Lis_fraction : Def P w K mg base "_law_is_fraction" 2 ["_law_found"] (spIsFrac K)) : Def P w K mg base "_law_made" 3 ["_law_top", "_law_bottom"] (spMade K) := by
  refine mk_def (k := 2) T sc_Lmade (fun vs H Q E h => ?_) (fun f cdv A outer s H vs Q E hr h => ?_)
  · obtain ⟨a, b, rfl, _⟩ := h
    rfl
  obtain ⟨a, b, rfl, hb, ba, bb, q⟩ := h
  refine ⟨_, (pss_cons (cs_set 2 sc_Lmade.nd (ce_call D_part_of (hr.mono (by decide)) (pa_cons (cv 0) (pa_cons (cv 1) pa_nil))))
      (pss_one (ps_ret (ce_and (ce_call D_Lis_fraction (hr.mono (by decide)) (pa_cons (cv 2) pa_nil)) (pe_one (pe_cmpR uo_eq (pe_op uo_mul (pe_ix ui_ix (cv 2) pe_int (fun _ _ => rfl)) (cv 1)) (pe_op uo_mul (cv 0) (pe_ix ui_ix (cv 2) pe_int (fun _ _ => rfl))) (nomark _))))))), ?_⟩
  refine rd (σ' := [some (.int a), some (.int b), none]) rfl ?_
  walk_at "run"
  refine ⟨a, b, rfl, hb, bb.le (by decide), fun n d e1 e2 e3 v H1 s1 hv => ?_⟩
  obtain ⟨l1, l2⟩ := low_le e2 hb e3
  obtain ⟨p, rfl, hp⟩ := is_frac.mp hv
  have hT : SqT K H1 p [.int n, .int d] := SqT.of hp
  refine ⟨_, n, d, rfl, hv, e1, e2, ?_⟩
  walk_at "run"
  refine iteT ⟨_, _, .inr hT, rfl, ?_⟩
  walk_at "run"
  refine ⟨mulOk (ba.of_le l1) bb (by decide), _, _, .inr hT, rfl, ?_⟩
  walk_at "run"
  refine ⟨mulOk ba (bb.of_le l2) (by decide), ?_⟩
  rw [decide_eq_true e3]
  exact q _ s1
abbrev s_law : Stmt := top 25
theorem sc_law : FnScope ["_law_script", "_law_k", "_law_top", "_law_bottom"] ["_law_script"] (defScope s_law) := ⟨rfl, rfl, rfl, by decide +kernel, rfl, by decide +kernel, by decide +kernel⟩
theorem ok_law {f : Addr} {fd : FuncData} (U : Fun K "law" "law" s_law f fd) (B : Blt mg) (D_Lnumber : Def P w K mg base "_law_number" 1 ["_law_cell"] (spNumber)) (D_Lcell_at : Def P w K mg base "_law_cell_at" 1 ["_law_script", "_law_k"] (spCell K)) (D_Lrefused : Def P w K mg base "_law_refused" 3 ["_law_top"] (spRef)) (D_Lmade : Def P w K mg base "_law_made" 3 ["_law_top", "_law_bottom"] (spMade K)) (D_part_of : Def P w K mg base "part_of" 2 ["top", "bottom"] (spPart K)) : FnOk P w K mg base CX0 4 f fd ["_law_script"] (spLaw K) := by
  refine U.ok sc_law (fun vs H Q E h => ?_) (fun cdv A outer s H vs Q E hr h => ?_)
  · obtain ⟨a, ns, rfl, _⟩ := h
    rfl
  obtain ⟨a, ns, rfl, hS, hlen, q⟩ := h
  have hl : (ns.map V.int).length = ns.length := List.length_map _
  refine ⟨_, (pss_cons (cs_for (ci_r3 B.range (pa_cons pe_int (pa_cons (ce_b uc_min2 B.min bt_min (pa_cons (ce_b uc_len B.len PySem.boot_len (pa_cons (cv 0) pa_nil)) (pa_cons pe_int pa_nil))) (pa_cons pe_int pa_nil)))) (cg_name 1 sc_law.nd)
      (pss_cons (cs_set 2 sc_law.nd (ce_call D_Lnumber (hr.mono (by decide)) (pa_cons (pe_ix ui_ix (cv 0) (cv 1) (fun _ _ => rfl)) pa_nil)))
        (pss_cons (cs_set 3 sc_law.nd (ce_call D_Lnumber (hr.mono (by decide)) (pa_cons (ce_call D_Lcell_at (hr.mono (by decide)) (pa_cons (cv 0) (pa_cons (pe_op uo_add (cv 1) pe_int) pa_nil))) pa_nil)))
        (pss_cons (ps_cut (ps_if (ct_cmp uo_eq (cv 3) pe_int (nomark _))
        (pss_cons (ps_if (pt_not (ct_val (ce_call D_Lrefused (hr.mono (by decide)) (pa_cons (cv 2) pa_nil))))
          (pss_one (ps_ret pe_bl))
          pss_nil)
          (pss_one (cs_set 3 sc_law.nd pe_int)))
        pss_nil))
        (pss_one (ps_if (pw_or (pt_not (ct_val (ce_call D_Lmade (hr.mono (by decide)) (pa_cons (cv 2) (pa_cons (cv 3) pa_nil))))) (pw_or (pt_not (ct_val (ce_call D_Lmade (hr.mono (by decide)) (pa_cons (cv 2) (pa_cons (pe_un uo_neg (cv 3)) pa_nil))))) (pw_or1 (pt_not (ct_val (ce_call D_Lmade (hr.mono (by decide)) (pa_cons (pe_un uo_neg (cv 2)) (pa_cons (cv 3) pa_nil)))))))).pt
        (pss_one (ps_ret pe_bl))
        pss_nil))))))
      (pss_one (ps_ret (ce_and (ce_call D_Lrefused (hr.mono (by decide)) (pa_cons (ce_b uc_len B.len PySem.boot_len (pa_cons (cv 0) pa_nil)) pa_nil)) (pe_one (pe_cmpR (uo_eqD hr) (ce_call D_part_of (hr.mono (by decide)) (pa_cons pe_int (pa_cons (pe_un uo_neg pe_int) pa_nil))) (pe_tup (pa_cons pe_int (pa_cons pe_int pa_nil))) (nomark _))))))), ?_⟩
  refine rd (σ' := [some (.ref a), none, none, none]) rfl ?_
  walk_at "run"
  refine ⟨_, .inl hS, ⟨⟨by decide, by decide, ?_, ?_⟩, by decide, by decide⟩, ?_⟩
  · rw [hl]; split <;> omega
  · rw [hl]; split <;> omega
  refine go_step (fun i σ H' => Same H H' ∧ ∃ (t1 t2 t3 : Option V), σ = [some (.ref a), t1, t2, t3]) ⟨Same.refl H, _, _, _, rfl⟩ ?_ ?_
  · rintro i σ H' hi ⟨hs, t1, t2, t3, rfl⟩
    have hS' := hs.seq hS
    have z := size_pos (lo := 0) (hi := if (62 : Int) < ((ns.map V.int).length : Nat) then 62 else ((ns.map V.int).length : Nat)) (c := 2) (by decide)
    have hk : 0 + (i : Int) * 2 < ((ns.map V.int).length : Nat) := by
      have z := z.2.2 i (by unfold nSteps at hi; omega)
      split at z <;> omega
    have k0 : (0 : Int) ≤ 0 + (i : Int) * 2 := by omega
    walk_at "run"
    refine ⟨_, _, .inl hS', at_ints k0 hk, fun z1 b1 b2 => ?_⟩
    walk_at "run"
    refine ⟨ns, hS', by omega, fun z2 c1 c2 => ?_⟩
    walk_at "run"
    refine ⟨fun σ' H2 => Same H' H2 ∧ ∃ b : Int, b ≠ 0 ∧ Bd 300 b ∧ σ' = [some (.ref a), some (.int (0 + (i : Int) * 2)), some (.int z1), some (.int b)], ?_, ?_⟩
    · refine ite2 (fun c => ?_) (fun c => ?_)
      · refine ⟨z1, rfl, fun H2 s2 => ?_⟩
        walk_at "run"
        exact iteF ⟨s2, 1, by decide, by show (1 : Int).natAbs < 2 ^ 300; decide +kernel, rfl⟩
      · exact ⟨Same.refl _, z2, fun e => c (decide_eq_true e), (bd60 c1 c2).le (by decide), rfl⟩
    · rintro σ' H2 ⟨s2, b, hb, bb, rfl⟩
      have B1 : Bd 300 z1 := (bd60 b1 b2).le (by decide)
      walk_at "run"
      refine ⟨z1, b, rfl, hb, B1, bb, fun H3 s3 => ?_⟩
      walk_at "run"
      refine iteF ⟨z1, -b, rfl, by omega, B1, bb.neg, fun H4 s4 => ?_⟩
      walk_at "run"
      refine iteF ⟨-z1, b, rfl, hb, B1.neg, bb, fun H5 s5 => ?_⟩
      walk_at "run"
      exact iteF ⟨hs.trans (s2.trans (s3.trans (s4.trans s5))), _, _, _, rfl⟩
  · rintro σ H' ⟨hs, t1, t2, t3, rfl⟩
    walk_at "run"
    refine ⟨_, .inl (hs.seq hS), _, rfl, fun H1 s1 => ?_⟩
    walk_at "run"
    refine iteT ⟨0, -7, rfl, by decide, by show (-7 : Int).natAbs < 2 ^ 9000; exact Nat.lt_of_lt_of_le (by decide : (7 : Nat) < 2 ^ 3) (Nat.pow_le_pow_right (by decide) (by decide)), fun n d e1 e2 e3 v H2 s2 hv => ?_⟩
    have hn : n = 0 := by omega
    subst hn
    have hd : d = 1 := by rw [Int.gcd_zero_left] at e2; omega
    subst hd
    refine ⟨sz (by show 2 ≤ 1000; decide), fun p hp => ?_⟩
    refine ⟨frac 0 1, frac 0 1, Is.same (same_new hp _) _ _ hv, is_frac.mpr ⟨p, rfl, upd_same⟩, sh_frac _ _, sh_frac _ _, ?_⟩
    exact q _
end

theorem all_mk {l : PySem.W.OpenLaw} {w : World} {K : PySem.W.Frag} {h : Heap} {mg : Str → Option Value} {fa f1 f2 f3 f4 f5 f6 f7 f8 f9 f10 f11 f12 CYokeError CNoPart CNoName CTwice CTooMany CNoWork CNoHand CNoChore CNotSo CNoDeed CNoLine : Addr} (X : K.In h) (G : h.Ns mainGlobals mg) (hfa : mg "law" = some (.ref fa))
    {od1 an1 od2 an2 od3 an3 od4 an4 od5 an5 od6 an6 od7 an7 od8 an8 od9 an9 od10 an10 od11 an11 od12 an12 : Option Addr} {sl1 sl2 sl3 sl4 sl5 sl6 sl7 sl8 sl9 sl10 sl11 sl12 : Array (Option Value)} {oc1 kV1 dc1 pm1 cd1 ct1 oc2 kV2 dc2 pm2 cd2 ct2 oc3 kV3 dc3 pm3 cd3 ct3 oc4 kV4 dc4 pm4 cd4 ct4 oc5 kV5 dc5 pm5 cd5 ct5 oc6 kV6 dc6 pm6 cd6 ct6 oc7 kV7 dc7 pm7 cd7 ct7 oc8 kV8 dc8 pm8 cd8 ct8 oc9 kV9 dc9 pm9 cd9 ct9 oc10 kV10 dc10 pm10 cd10 ct10 oc11 kV11 dc11 pm11 cd11 ct11 oc12 kV12 dc12 pm12 cd12 ct12 : Value}
    (a1 : PySem.W.nsIn K mainGlobals "_law_number" = some (some (.ref f1))) (l1 : K.lookup f1 = some ⟨oc1, od1, .func (PySem.W.fnOf "_law_number" "_law_number" (defArgs s_Lnumber) (defBody s_Lnumber) (defScope s_Lnumber) .none kV1 dc1 pm1 an1 cd1 ct1), sl1⟩) (c1 : PySem.W.codeIn K cd1 "_law_number" = true) (k1 : PySem.W.keepIn K (.ref f1) = true)
    (a2 : PySem.W.nsIn K mainGlobals "_law_cell_at" = some (some (.ref f2))) (l2 : K.lookup f2 = some ⟨oc2, od2, .func (PySem.W.fnOf "_law_cell_at" "_law_cell_at" (defArgs s_Lcell_at) (defBody s_Lcell_at) (defScope s_Lcell_at) .none kV2 dc2 pm2 an2 cd2 ct2), sl2⟩) (c2 : PySem.W.codeIn K cd2 "_law_cell_at" = true) (k2 : PySem.W.keepIn K (.ref f2) = true)
    (a3 : PySem.W.nsIn K mainGlobals "is_whole" = some (some (.ref f3))) (l3 : K.lookup f3 = some ⟨oc3, od3, .func (PySem.W.fnOf "is_whole" "is_whole" (defArgs s_is_whole) (defBody s_is_whole) (defScope s_is_whole) .none kV3 dc3 pm3 an3 cd3 ct3), sl3⟩) (c3 : PySem.W.codeIn K cd3 "is_whole" = true) (k3 : PySem.W.keepIn K (.ref f3) = true)
    (a4 : PySem.W.nsIn K mainGlobals "divisor_of" = some (some (.ref f4))) (l4 : K.lookup f4 = some ⟨oc4, od4, .func (PySem.W.fnOf "divisor_of" "divisor_of" (defArgs s_divisor_of) (defBody s_divisor_of) (defScope s_divisor_of) .none kV4 dc4 pm4 an4 cd4 ct4), sl4⟩) (c4 : PySem.W.codeIn K cd4 "divisor_of" = true) (k4 : PySem.W.keepIn K (.ref f4) = true)
    (a5 : PySem.W.nsIn K mainGlobals "_law_is" = some (some (.ref f5))) (l5 : K.lookup f5 = some ⟨oc5, od5, .func (PySem.W.fnOf "_law_is" "_law_is" (defArgs s_Lis) (defBody s_Lis) (defScope s_Lis) .none kV5 dc5 pm5 an5 cd5 ct5), sl5⟩) (c5 : PySem.W.codeIn K cd5 "_law_is" = true) (k5 : PySem.W.keepIn K (.ref f5) = true)
    (a6 : PySem.W.nsIn K mainGlobals "part_of" = some (some (.ref f6))) (l6 : K.lookup f6 = some ⟨oc6, od6, .func (PySem.W.fnOf "part_of" "part_of" (defArgs s_part_of) (defBody s_part_of) (defScope s_part_of) .none kV6 dc6 pm6 an6 cd6 ct6), sl6⟩) (c6 : PySem.W.codeIn K cd6 "part_of" = true) (k6 : PySem.W.keepIn K (.ref f6) = true)
    (a7 : PySem.W.nsIn K mainGlobals "_law_refused" = some (some (.ref f7))) (l7 : K.lookup f7 = some ⟨oc7, od7, .func (PySem.W.fnOf "_law_refused" "_law_refused" (defArgs s_Lrefused) (defBody s_Lrefused) (defScope s_Lrefused) .none kV7 dc7 pm7 an7 cd7 ct7), sl7⟩) (c7 : PySem.W.codeIn K cd7 "_law_refused" = true) (k7 : PySem.W.keepIn K (.ref f7) = true)
    (a8 : PySem.W.nsIn K mainGlobals "_law_whole" = some (some (.ref f8))) (l8 : K.lookup f8 = some ⟨oc8, od8, .func (PySem.W.fnOf "_law_whole" "_law_whole" (defArgs s_Lwhole) (defBody s_Lwhole) (defScope s_Lwhole) .none kV8 dc8 pm8 an8 cd8 ct8), sl8⟩) (c8 : PySem.W.codeIn K cd8 "_law_whole" = true) (k8 : PySem.W.keepIn K (.ref f8) = true)
    (a9 : PySem.W.nsIn K mainGlobals "_law_divisor" = some (some (.ref f9))) (l9 : K.lookup f9 = some ⟨oc9, od9, .func (PySem.W.fnOf "_law_divisor" "_law_divisor" (defArgs s_Ldivisor) (defBody s_Ldivisor) (defScope s_Ldivisor) .none kV9 dc9 pm9 an9 cd9 ct9), sl9⟩) (c9 : PySem.W.codeIn K cd9 "_law_divisor" = true) (k9 : PySem.W.keepIn K (.ref f9) = true)
    (a10 : PySem.W.nsIn K mainGlobals "_law_is_fraction" = some (some (.ref f10))) (l10 : K.lookup f10 = some ⟨oc10, od10, .func (PySem.W.fnOf "_law_is_fraction" "_law_is_fraction" (defArgs s_Lis_fraction) (defBody s_Lis_fraction) (defScope s_Lis_fraction) .none kV10 dc10 pm10 an10 cd10 ct10), sl10⟩) (c10 : PySem.W.codeIn K cd10 "_law_is_fraction" = true) (k10 : PySem.W.keepIn K (.ref f10) = true)
    (a11 : PySem.W.nsIn K mainGlobals "_law_made" = some (some (.ref f11))) (l11 : K.lookup f11 = some ⟨oc11, od11, .func (PySem.W.fnOf "_law_made" "_law_made" (defArgs s_Lmade) (defBody s_Lmade) (defScope s_Lmade) .none kV11 dc11 pm11 an11 cd11 ct11), sl11⟩) (c11 : PySem.W.codeIn K cd11 "_law_made" = true) (k11 : PySem.W.keepIn K (.ref f11) = true)
    (a12 : PySem.W.nsIn K mainGlobals "law" = some (some (.ref f12))) (l12 : K.lookup f12 = some ⟨oc12, od12, .func (PySem.W.fnOf "law" "law" (defArgs s_law) (defBody s_law) (defScope s_law) .none kV12 dc12 pm12 an12 cd12 ct12), sl12⟩) (c12 : PySem.W.codeIn K cd12 "law" = true) (k12 : PySem.W.keepIn K (.ref f12) = true)
    (uYokeError : PySem.W.nsIn K mainGlobals "YokeError" = some (some (.ref CYokeError)))
    (uNoPart : PySem.W.nsIn K mainGlobals "NoPart" = some (some (.ref CNoPart)))
    (uNoName : PySem.W.nsIn K mainGlobals "NoName" = some (some (.ref CNoName)))
    (uTwice : PySem.W.nsIn K mainGlobals "Twice" = some (some (.ref CTwice)))
    (uTooMany : PySem.W.nsIn K mainGlobals "TooMany" = some (some (.ref CTooMany)))
    (uNoWork : PySem.W.nsIn K mainGlobals "NoWork" = some (some (.ref CNoWork)))
    (uNoHand : PySem.W.nsIn K mainGlobals "NoHand" = some (some (.ref CNoHand)))
    (uNoChore : PySem.W.nsIn K mainGlobals "NoChore" = some (some (.ref CNoChore)))
    (uNotSo : PySem.W.nsIn K mainGlobals "NotSo" = some (some (.ref CNotSo)))
    (uNoDeed : PySem.W.nsIn K mainGlobals "NoDeed" = some (some (.ref CNoDeed)))
    (uNoLine : PySem.W.nsIn K mainGlobals "NoLine" = some (some (.ref CNoLine)))
    (xga : PySem.W.findIn K (.ref CNoPart) "__getattribute__" = some (some (.builtin "BaseException.__getattribute__")))
    (xhook : PySem.W.findIn K (.ref CNoPart) "__getattr__" = some none)
    (xcls : PySem.W.findIn K (.ref CNoPart) "__class__" = some (some (.builtin "object.__class__")))
    (xget : PySem.W.specialIn K (.builtin "object.__class__") "__get__" = some (some (.builtin "getset_descriptor.__get__")))
    (xtake : PySem.W.takesIn K (.builtin "object.__class__") = some true)
    (xobj : PySem.W.mroIn K CNoPart (.type "object") = some true)
    (xbas : PySem.W.mroIn K CNoPart (.type "BaseException") = some true)
    (xisc : PySem.W.hasDictIn K CNoPart = true)
    (xexi : PySem.W.excIn K CNoPart [.type "ValueError", .type "Exception", .type "BaseException", .type "object"] "ValueError.__new__" = true)
    (xyty : PySem.W.typeIn K (.ref CYokeError) = some (.type "type"))
    (xyis : PySem.W.hasDictIn K CYokeError = true)
    (xyba : PySem.W.mroIn K CYokeError (.type "BaseException") = some true)
    (xyup : PySem.W.mroIn K CNoPart (.ref CYokeError) = some true)
    (xvno : PySem.W.nsIn K mainGlobals "ValueError" = some none)
    (xviv : PySem.W.mroIn K CNoPart (.type "ValueError") = some true)
    (xown : PySem.W.mroIn K CNoPart (.ref CNoPart) = some true)
    (qdNoName : PySem.W.hasDictIn K CNoName = true) (qtNoName : PySem.W.typeIn K (.ref CNoName) = some (.type "type")) (qmNoName : PySem.W.mroIn K CNoPart (.ref CNoName) = some false)
    (qdTwice : PySem.W.hasDictIn K CTwice = true) (qtTwice : PySem.W.typeIn K (.ref CTwice) = some (.type "type")) (qmTwice : PySem.W.mroIn K CNoPart (.ref CTwice) = some false)
    (qdTooMany : PySem.W.hasDictIn K CTooMany = true) (qtTooMany : PySem.W.typeIn K (.ref CTooMany) = some (.type "type")) (qmTooMany : PySem.W.mroIn K CNoPart (.ref CTooMany) = some false)
    (qdNoWork : PySem.W.hasDictIn K CNoWork = true) (qtNoWork : PySem.W.typeIn K (.ref CNoWork) = some (.type "type")) (qmNoWork : PySem.W.mroIn K CNoPart (.ref CNoWork) = some false)
    (qdNoHand : PySem.W.hasDictIn K CNoHand = true) (qtNoHand : PySem.W.typeIn K (.ref CNoHand) = some (.type "type")) (qmNoHand : PySem.W.mroIn K CNoPart (.ref CNoHand) = some false)
    (qdNoChore : PySem.W.hasDictIn K CNoChore = true) (qtNoChore : PySem.W.typeIn K (.ref CNoChore) = some (.type "type")) (qmNoChore : PySem.W.mroIn K CNoPart (.ref CNoChore) = some false)
    (qdNotSo : PySem.W.hasDictIn K CNotSo = true) (qtNotSo : PySem.W.typeIn K (.ref CNotSo) = some (.type "type")) (qmNotSo : PySem.W.mroIn K CNoPart (.ref CNotSo) = some false)
    (qdNoDeed : PySem.W.hasDictIn K CNoDeed = true) (qtNoDeed : PySem.W.typeIn K (.ref CNoDeed) = some (.type "type")) (qmNoDeed : PySem.W.mroIn K CNoPart (.ref CNoDeed) = some false)
    (qdNoLine : PySem.W.hasDictIn K CNoLine = true) (qtNoLine : PySem.W.typeIn K (.ref CNoLine) = some (.type "type")) (qmNoLine : PySem.W.mroIn K CNoPart (.ref CNoLine) = some false)
    (z1 : PySem.W.nsIn K mainGlobals "abs" = some none) (z2 : PySem.W.nsIn K mainGlobals "any" = some none) (z3 : PySem.W.nsIn K mainGlobals "bool" = some none) (z4 : PySem.W.nsIn K mainGlobals "dict" = some none) (z5 : PySem.W.nsIn K mainGlobals "enumerate" = some none) (z6 : PySem.W.nsIn K mainGlobals "int" = some none) (z7 : PySem.W.nsIn K mainGlobals "isinstance" = some none) (z8 : PySem.W.nsIn K mainGlobals "len" = some none) (z9 : PySem.W.nsIn K mainGlobals "list" = some none) (z10 : PySem.W.nsIn K mainGlobals "max" = some none) (z11 : PySem.W.nsIn K mainGlobals "min" = some none) (z12 : PySem.W.nsIn K mainGlobals "range" = some none) (z13 : PySem.W.nsIn K mainGlobals "reversed" = some none) (z14 : PySem.W.nsIn K mainGlobals "sorted" = some none) (z15 : PySem.W.nsIn K mainGlobals "str" = some none) (z16 : PySem.W.nsIn K mainGlobals "sum" = some none) (z17 : PySem.W.nsIn K mainGlobals "tuple" = some none) (z18 : PySem.W.nsIn K mainGlobals "zip" = some none) :
    ∃ fd : FuncData, (∀ (s : Shared) (v : Value), BindsTo s fd ⟨[v], []⟩ [("_law_script", v)]) ∧ ∀ base : Heap, K.In base → base.Ns mainGlobals mg → FnOk l.prog w K mg base CX0 4 fa fd ["_law_script"] (spLaw K) := by
  have T_Lnumber := top_mk (st := s_Lnumber) (ps := ["_law_cell"]) X G a1 l1 c1 k1 fun _ _ _ _ _ _ us hl => match us, hl with | [_], _ => rfl
  have T_Lcell_at := top_mk (st := s_Lcell_at) (ps := ["_law_script", "_law_k"]) X G a2 l2 c2 k2 fun _ _ _ _ _ _ us hl => match us, hl with | [_, _], _ => rfl
  have T_is_whole := top_mk (st := s_is_whole) (ps := ["thing"]) X G a3 l3 c3 k3 fun _ _ _ _ _ _ us hl => match us, hl with | [_], _ => rfl
  have T_divisor_of := top_mk (st := s_divisor_of) (ps := ["one", "other"]) X G a4 l4 c4 k4 fun _ _ _ _ _ _ us hl => match us, hl with | [_, _], _ => rfl
  have T_Lis := top_mk (st := s_Lis) (ps := ["_law_caught", "_law_at"]) X G a5 l5 c5 k5 fun _ _ _ _ _ _ us hl => match us, hl with | [_, _], _ => rfl
  have T_part_of := top_mk (st := s_part_of) (ps := ["top", "bottom"]) X G a6 l6 c6 k6 fun _ _ _ _ _ _ us hl => match us, hl with | [_, _], _ => rfl
  have T_Lrefused := top_mk (st := s_Lrefused) (ps := ["_law_top"]) X G a7 l7 c7 k7 fun _ _ _ _ _ _ us hl => match us, hl with | [_], _ => rfl
  have T_Lwhole := top_mk (st := s_Lwhole) (ps := ["_law_found"]) X G a8 l8 c8 k8 fun _ _ _ _ _ _ us hl => match us, hl with | [_], _ => rfl
  have T_Ldivisor := top_mk (st := s_Ldivisor) (ps := ["_law_one", "_law_other"]) X G a9 l9 c9 k9 fun _ _ _ _ _ _ us hl => match us, hl with | [_, _], _ => rfl
  have T_Lis_fraction := top_mk (st := s_Lis_fraction) (ps := ["_law_found"]) X G a10 l10 c10 k10 fun _ _ _ _ _ _ us hl => match us, hl with | [_], _ => rfl
  have T_Lmade := top_mk (st := s_Lmade) (ps := ["_law_top", "_law_bottom"]) X G a11 l11 c11 k11 fun _ _ _ _ _ _ us hl => match us, hl with | [_, _], _ => rfl
  have B : Blt mg := ⟨PySem.W.mg_none_of X G z1, PySem.W.mg_none_of X G z2, PySem.W.mg_none_of X G z3, PySem.W.mg_none_of X G z4, PySem.W.mg_none_of X G z5, PySem.W.mg_none_of X G z6, PySem.W.mg_none_of X G z7, PySem.W.mg_none_of X G z8, PySem.W.mg_none_of X G z9, PySem.W.mg_none_of X G z10, PySem.W.mg_none_of X G z11, PySem.W.mg_none_of X G z12, PySem.W.mg_none_of X G z13, PySem.W.mg_none_of X G z14, PySem.W.mg_none_of X G z15, PySem.W.mg_none_of X G z16, PySem.W.mg_none_of X G z17, PySem.W.mg_none_of X G z18⟩
  have V : Excs K mg CNoPart CYokeError := ⟨⟨PySem.W.mg_of X G uNoPart, xexi, ⟨xga, xhook, xcls, xget, xtake, xobj, xbas, isc_of xisc⟩⟩, ⟨PySem.W.mg_of X G uYokeError, xyty, isc_of xyis, xyba, xyup⟩, PySem.W.mg_none_of X G xvno, kit_val xviv, ⟨CNoPart, PySem.W.mg_of X G uNoPart, kit_self⟩, ⟨CNoName, PySem.W.mg_of X G uNoName, kit_no qdNoName qtNoName xown qmNoName⟩, ⟨CTwice, PySem.W.mg_of X G uTwice, kit_no qdTwice qtTwice xown qmTwice⟩, ⟨CTooMany, PySem.W.mg_of X G uTooMany, kit_no qdTooMany qtTooMany xown qmTooMany⟩, ⟨CNoWork, PySem.W.mg_of X G uNoWork, kit_no qdNoWork qtNoWork xown qmNoWork⟩, ⟨CNoHand, PySem.W.mg_of X G uNoHand, kit_no qdNoHand qtNoHand xown qmNoHand⟩, ⟨CNoChore, PySem.W.mg_of X G uNoChore, kit_no qdNoChore qtNoChore xown qmNoChore⟩, ⟨CNotSo, PySem.W.mg_of X G uNotSo, kit_no qdNotSo qtNotSo xown qmNotSo⟩, ⟨CNoDeed, PySem.W.mg_of X G uNoDeed, kit_no qdNoDeed qtNoDeed xown qmNoDeed⟩, ⟨CNoLine, PySem.W.mg_of X G uNoLine, kit_no qdNoLine qtNoLine xown qmNoLine⟩⟩
  refine law_mk X G hfa a12 l12 c12 k12 (fun s v => .of_eq rfl) fun f fd U base => ?_
  have D_Lnumber := ok_Lnumber (P := l.prog) (w := w) (base := base) T_Lnumber B 
  have D_Lcell_at := ok_Lcell_at (P := l.prog) (w := w) (base := base) T_Lcell_at B 
  have D_is_whole := ok_is_whole (P := l.prog) (w := w) (base := base) T_is_whole B 
  have D_divisor_of := ok_divisor_of (P := l.prog) (w := w) (base := base) T_divisor_of B 
  have D_Lis := ok_Lis (P := l.prog) (w := w) (base := base) T_Lis B V 
  have D_part_of := ok_part_of (P := l.prog) (w := w) (base := base) T_part_of B D_is_whole D_divisor_of
  have DX_part_of := okX_part_of (P := l.prog) (w := w) (base := base) T_part_of B V D_is_whole D_divisor_of
  have D_Lrefused := ok_Lrefused (P := l.prog) (w := w) (base := base) T_Lrefused B V DX_part_of D_Lis
  have D_Lwhole := ok_Lwhole (P := l.prog) (w := w) (base := base) T_Lwhole B 
  have D_Ldivisor := ok_Ldivisor (P := l.prog) (w := w) (base := base) T_Ldivisor B 
  have D_Lis_fraction := ok_Lis_fraction (P := l.prog) (w := w) (base := base) T_Lis_fraction B D_Lwhole D_Ldivisor
  have D_Lmade := ok_Lmade (P := l.prog) (w := w) (base := base) T_Lmade B D_part_of D_Lis_fraction
  exact ok_law U B D_Lnumber D_Lcell_at D_Lrefused D_Lmade D_part_of
end My
open PySem PySem.W PyProof.Rows
set_option maxRecDepth 100000 in
set_option maxHeartbeats 0 in
theorem PySem.Challenge.cw_evenyoke_k02_fractions_made_holds : PySem.Challenge.rw_evenyoke_k02_fractions_made.Holds := by
  w_on; o_law; k_head; (case hw => w_witness2)
  k_fill
  refine L2.EX.walk (l := PySem.Challenge.rw_evenyoke_k02_fractions_made) 4 rfl rfl ⟨rfl, by decide, by decide⟩ (fun w h Y => PySem.W.kIn_of Y) ?F
  case F =>
    intro w mg fa h KX G hmg
    refine' My.all_mk KX G hmg ?a1 ?l1 ?c1 ?k1 ?a2 ?l2 ?c2 ?k2 ?a3 ?l3 ?c3 ?k3 ?a4 ?l4 ?c4 ?k4 ?a5 ?l5 ?c5 ?k5 ?a6 ?l6 ?c6 ?k6 ?a7 ?l7 ?c7 ?k7 ?a8 ?l8 ?c8 ?k8 ?a9 ?l9 ?c9 ?k9 ?a10 ?l10 ?c10 ?k10 ?a11 ?l11 ?c11 ?k11 ?a12 ?l12 ?c12 ?k12 ?uYokeError ?uNoPart ?uNoName ?uTwice ?uTooMany ?uNoWork ?uNoHand ?uNoChore ?uNotSo ?uNoDeed ?uNoLine ?xga ?xhook ?xcls ?xget ?xtake ?xobj ?xbas ?xisc ?xexi ?xyty ?xyis ?xyba ?xyup ?xvno ?xviv ?xown ?qdNoName ?qtNoName ?qmNoName ?qdTwice ?qtTwice ?qmTwice ?qdTooMany ?qtTooMany ?qmTooMany ?qdNoWork ?qtNoWork ?qmNoWork ?qdNoHand ?qtNoHand ?qmNoHand ?qdNoChore ?qtNoChore ?qmNoChore ?qdNotSo ?qtNotSo ?qmNotSo ?qdNoDeed ?qtNoDeed ?qmNoDeed ?qdNoLine ?qtNoLine ?qmNoLine ?z1 ?z2 ?z3 ?z4 ?z5 ?z6 ?z7 ?z8 ?z9 ?z10 ?z11 ?z12 ?z13 ?z14 ?z15 ?z16 ?z17 ?z18
    (case a1 => k_is)
    (case l1 => k_is)
    (case c1 => k_is)
    (case k1 => k_is)
    (case a2 => k_is)
    (case l2 => k_is)
    (case c2 => k_is)
    (case k2 => k_is)
    (case a3 => k_is)
    (case l3 => k_is)
    (case c3 => k_is)
    (case k3 => k_is)
    (case a4 => k_is)
    (case l4 => k_is)
    (case c4 => k_is)
    (case k4 => k_is)
    (case a5 => k_is)
    (case l5 => k_is)
    (case c5 => k_is)
    (case k5 => k_is)
    (case a6 => k_is)
    (case l6 => k_is)
    (case c6 => k_is)
    (case k6 => k_is)
    (case a7 => k_is)
    (case l7 => k_is)
    (case c7 => k_is)
    (case k7 => k_is)
    (case a8 => k_is)
    (case l8 => k_is)
    (case c8 => k_is)
    (case k8 => k_is)
    (case a9 => k_is)
    (case l9 => k_is)
    (case c9 => k_is)
    (case k9 => k_is)
    (case a10 => k_is)
    (case l10 => k_is)
    (case c10 => k_is)
    (case k10 => k_is)
    (case a11 => k_is)
    (case l11 => k_is)
    (case c11 => k_is)
    (case k11 => k_is)
    (case a12 => k_is)
    (case l12 => k_is)
    (case c12 => k_is)
    (case k12 => k_is)
    (case uYokeError => k_is)
    (case uNoPart => k_is)
    (case uNoName => k_is)
    (case uTwice => k_is)
    (case uTooMany => k_is)
    (case uNoWork => k_is)
    (case uNoHand => k_is)
    (case uNoChore => k_is)
    (case uNotSo => k_is)
    (case uNoDeed => k_is)
    (case uNoLine => k_is)
    (case xga => k_is)
    (case xhook => k_is)
    (case xcls => k_is)
    (case xget => k_is)
    (case xtake => k_is)
    (case xobj => k_is)
    (case xbas => k_is)
    (case xisc => k_is)
    (case xexi => k_exc)
    (case xyty => k_is)
    (case xyis => k_is)
    (case xyba => k_is)
    (case xyup => k_is)
    (case xvno => k_is)
    (case xviv => k_is)
    (case xown => k_is)
    (case qdNoName => k_is)
    (case qtNoName => k_is)
    (case qmNoName => k_is)
    (case qdTwice => k_is)
    (case qtTwice => k_is)
    (case qmTwice => k_is)
    (case qdTooMany => k_is)
    (case qtTooMany => k_is)
    (case qmTooMany => k_is)
    (case qdNoWork => k_is)
    (case qtNoWork => k_is)
    (case qmNoWork => k_is)
    (case qdNoHand => k_is)
    (case qtNoHand => k_is)
    (case qmNoHand => k_is)
    (case qdNoChore => k_is)
    (case qtNoChore => k_is)
    (case qmNoChore => k_is)
    (case qdNotSo => k_is)
    (case qtNotSo => k_is)
    (case qmNotSo => k_is)
    (case qdNoDeed => k_is)
    (case qtNoDeed => k_is)
    (case qmNoDeed => k_is)
    (case qdNoLine => k_is)
    (case qtNoLine => k_is)
    (case qmNoLine => k_is)
    (case z1 => k_is)
    (case z2 => k_is)
    (case z3 => k_is)
    (case z4 => k_is)
    (case z5 => k_is)
    (case z6 => k_is)
    (case z7 => k_is)
    (case z8 => k_is)
    (case z9 => k_is)
    (case z10 => k_is)
    (case z11 => k_is)
    (case z12 => k_is)
    (case z13 => k_is)
    (case z14 => k_is)
    (case z15 => k_is)
    (case z16 => k_is)
    (case z17 => k_is)
    (case z18 => k_is)

