import PyProof.Rows.All
import Wide.All
import OpenK.AllK
import Wide.FinOn
import Lean
import PyProof.EqAt
import PyProof.EqKinds
import PyProof.TupleCall
import PySem.Challenge.RW_gaphand_k10_whole_wheel_parted
set_option Elab.async false
set_option linter.all false
set_option maxRecDepth 100000
/-! THE HAND LAYER, for ints, bools, texts, own classes, LISTS and tuples (index, slices, in, append, pop ..), calls, loops. Paste it whole ahead of your own text; what your proof does not reach may be deleted. -/
namespace L2
open PySem PySem.Spec PyProof.Rows

/-- a key: an int or a str -/
abbrev Key := Sum Int Str
def keyIs : Key → Value → Bool
  | .inl k, v => Value.isInt k v
  | .inr x, v => Value.isStrOf x v
def keyH (w : World) : Key → Int
  | .inl k => hashInt k
  | .inr x => hashStr w x
theorem keyIs_shape : ∀ {k : Key} {v : Value}, keyIs k v = true → (∃ i t, k = Sum.inl i ∧ v = Value.int i t) ∨ (∃ x t, k = Sum.inr x ∧ v = Value.str x t)
  | .inl i, v, h => by
    obtain ⟨t, e⟩ := Value.isInt_shape (k := i) (v := v) h
    exact .inl ⟨i, t, rfl, e⟩
  | .inr x, v, h => by
    obtain ⟨t, e⟩ := Value.isStrOf_shape (x := x) (v := v) h
    exact .inr ⟨x, t, rfl, e⟩
theorem key_ll (a b : Int) : decide ((Sum.inl a : Key) = Sum.inl b) = (a == b) := by
  by_cases e : a = b
  · subst e; simp
  · have h : ¬ (Sum.inl a : Key) = Sum.inl b := fun q => e (Sum.inl.inj q)
    rw [decide_eq_false h]
    exact (beq_eq_false_iff_ne.mpr e).symm
theorem key_rr (a b : Str) : decide ((Sum.inr a : Key) = Sum.inr b) = decide (a = b) := by
  by_cases e : a = b
  · subst e; simp
  · have h : ¬ (Sum.inr a : Key) = Sum.inr b := fun q => e (Sum.inr.inj q)
    rw [decide_eq_false h, decide_eq_false e]
theorem key_lr (a : Int) (b : Str) : decide ((Sum.inl a : Key) = Sum.inr b) = false := decide_eq_false (fun q => nomatch q)
theorem key_rl (a : Str) (b : Int) : decide ((Sum.inr a : Key) = Sum.inl b) = false := decide_eq_false (fun q => nomatch q)

def mixKind (prog : Program) (w : World) : PySem.KeyKind prog w Key where
  is := keyIs
  hash := keyH w
  inj := fun v a b ha hb => by
    rcases keyIs_shape ha with ⟨i, t, rfl, rfl⟩ | ⟨x, t, rfl, rfl⟩
    · rcases keyIs_shape hb with ⟨j, u, rfl, e⟩ | ⟨y, u, rfl, e⟩
      · injection e with e1 _; rw [e1]
      · exact nomatch e
    · rcases keyIs_shape hb with ⟨j, u, rfl, e⟩ | ⟨y, u, rfl, e⟩
      · exact nomatch e
      · injection e with e1 _; rw [e1]
  byValue := fun k v h => by
    rcases keyIs_shape h with ⟨i, t, rfl, rfl⟩ | ⟨x, t, rfl, rfl⟩ <;> rfl
  pyHash := fun hv h => by
    rcases keyIs_shape hv with ⟨i, t, rfl, rfl⟩ | ⟨x, t, rfl, rfl⟩
    · exact wpAny_pyHash_int h
    · exact wpAny_pyHash_str h
  eqBool := fun hu hv h => by
    rcases keyIs_shape hu with ⟨i, t, rfl, rfl⟩ | ⟨x, t, rfl, rfl⟩
    · rcases keyIs_shape hv with ⟨j, u, rfl, rfl⟩ | ⟨y, u, rfl, rfl⟩
      · rw [key_ll] at h; exact wpAny_eqBool_int h
      · rw [key_lr] at h; exact SeqAt.EqAt.int_str i t y u _ _ _ _ h
    · rcases keyIs_shape hv with ⟨j, u, rfl, rfl⟩ | ⟨y, u, rfl, rfl⟩
      · rw [key_rl] at h; exact SeqAt.EqAt.str_int x t j u _ _ _ _ h
      · rw [key_rr] at h; exact wpAny_eqBool_str h
  «strs» := fun k x t v h => by
    rcases keyIs_shape h with ⟨i, u, rfl, e⟩ | ⟨y, u, rfl, e⟩
    · exact nomatch e
    · injection e with e1 _
      subst e1
      cases v <;> rfl

end L2

namespace L2
open PySem PySem.Spec PyProof.Rows

/-- a value, without the heap -/
inductive V where
  | non | bl (b : Bool) | int (i : Int) | str (x : Str) | byt (b : Array UInt8) | flt (b : UInt64) | ref (a : Addr) | ty (n : String)
  deriving DecidableEq

def RelV : V → Value → Prop
  | .non, u => u = Value.none
  | .bl b, u => u = Value.bool b
  | .int i, u => ∃ t, u = Value.int i t
  | .str x, u => ∃ t, u = Value.str x t
  | .byt b, u => ∃ t, u = Value.bytes b t
  | .flt b, u => ∃ t, u = Value.float b t
  | .ref a, u => u = Value.ref a
  | .ty n, u => u = Value.type n

abbrev Vals : List V → List Value → Prop := Paired RelV
theorem Vals.length {xs : List V} {us : List Value} (r : Vals xs us) : xs.length = us.length := Paired.length r
theorem Vals.get : ∀ {xs : List V} {us : List Value} {i : Nat} {x : V}, Vals xs us → xs[i]? = some x → ∃ u, us[i]? = some u ∧ RelV x u
  | _, _, _, _, .nil, e => by simp at e
  | _, _, 0, _, .cons r _, e => by simp at e; subst e; exact ⟨_, rfl, r⟩
  | _, _, i + 1, x, .cons _ t, e => by
    obtain ⟨u, h1, h2⟩ := Vals.get (i := i) (x := x) t (by simpa using e)
    exact ⟨u, by simpa using h1, h2⟩
theorem Vals.append : ∀ {xs ys : List V} {us ws : List Value}, Vals xs us → Vals ys ws → Vals (xs ++ ys) (us ++ ws)
  | _, _, _, _, .nil, s => s
  | _, _, _, _, .cons r t, s => .cons r (Vals.append t s)
theorem Vals.take : ∀ {xs : List V} {us : List Value} (n : Nat), Vals xs us → Vals (xs.take n) (us.take n)
  | _, _, 0, _ => .nil
  | _, _, _ + 1, .nil => .nil
  | _, _, n + 1, .cons r t => .cons r (Vals.take n t)
theorem Vals.drop : ∀ {xs : List V} {us : List Value} (n : Nat), Vals xs us → Vals (xs.drop n) (us.drop n)
  | _, _, 0, r => r
  | _, _, _ + 1, .nil => .nil
  | _, _, n + 1, .cons _ t => Vals.drop n t
def RelO : Option V → Option Value → Prop
  | some v, some u => RelV v u
  | none, none => True
  | _, _ => False
def KV {κ : Type} : List (κ × V) → List (κ × Value) → Prop := Paired fun (p : κ × V) (q : κ × Value) => p.1 = q.1 ∧ RelV p.2 q.2

/-- a key of a dict (00_mix): an int or a text -/
def kV : Key → V
  | .inl i => .int i
  | .inr x => .str x

/-- what stands at a tracked address -/
inductive HO where
  /-- a list -/
  | lst (xs : List V)
  /-- a tuple (never changes) -/
  | tup (xs : List V)
  /-- a dict whose keys are ints and texts; one whose keys are tuples of ints and texts (the empty one is both) -/
  | dK (kvs : List (Key × V)) | dT (kvs : List (List Key × V))
  /-- a set of ints: its members, its size -/
  | set (S : Int → Bool) (n : Nat)
  /-- an instance of the class at C, its dict at dx, its attributes -/
  | ins (C dx : Addr) (fs : List (Str × V))
  /-- the dict of the instance at x -/
  | own (x : Addr)
  /-- the dict of an exception -/
  | xd (fs : List (Str × V))
  /-- a bound method, f of x -/
  | met (f x : Addr)
  /-- a range object lo, lo + 1, .. below hi -/
  | rng (lo hi : Int)
  /-- a thing that is known to the object (the script; a dict while a loop walks it): read, never written while it is so -/
  | frz (o : Obj) (u : HO)
  /-- a code object's table -/
  | tbl (ps : Array Value)
  /-- any other thing, by what is true of its one object (a def of one's own: SetO a S n := HO.ext fun h => ..) -/
  | ext (φ : Heap → Prop)

abbrev Hp := Addr → Option HO
def upd (H : Hp) (a : Addr) (o : HO) : Hp := fun b => if b = a then some o else H b
theorem upd_same {H : Hp} {a : Addr} {o : HO} : upd H a o a = some o := by unfold upd; rw [if_pos rfl]
theorem upd_ne {H : Hp} {a b : Addr} {o : HO} (h : b ≠ a) : upd H a o b = H b := by unfold upd; rw [if_neg h]
theorem upd_upd {H : Hp} {a : Addr} {o u : HO} : upd (upd H a o) a u = upd H a u := by
  funext b; unfold upd; split <;> rfl
theorem ne_of_none {H : Hp} {a b : Addr} {o : HO} (h : H a = some o) (h' : H b = none) : a ≠ b := by
  intro e; subst e; rw [h] at h'; cases h'

section
variable (P : Program) (w : World)
def ObjOk (H : Hp) (h : Heap) (a : Addr) : HO → Prop
  | .lst xs => xs.length ≤ sizeLine ∧ ∃ (its : List Value) (n : Nat), Vals xs its ∧ h.get? a = some { cls := .type "list", data := .seq its.toArray n }
  | .tup xs => xs.length ≤ sizeLine ∧ ∃ its : List Value, Vals xs its ∧ IsTup h a its.toArray
  | .dK kvs => kvs.length ≤ sizeLine ∧ (a == sysModules) = false ∧ ∃ vs, KV kvs vs ∧ h.DictOf (mixKind P w) a vs
  | .dT kvs => kvs.length ≤ sizeLine ∧ (a == sysModules) = false ∧ ∃ xs : List (List Key × Addr × Value),
      Paired (fun (p : List Key × V) (q : List Key × Addr × Value) => p.1 = q.1 ∧ H q.2.1 = some (.tup (p.1.map kV)) ∧ RelV p.2 q.2.2) kvs xs ∧
      ∃ o es ep, h.get? a = some o ∧ o.ExactDict ∧ o.data = .dict es ep ∧ es.toList = xs.map (entryOfKey (tupleKind (mixKind P w))) ∧ (xs.map (·.1)).Nodup
  | .set S n => h.SetOf (intKind P w) a S n
  | .ins C dx fs => H dx = some (.own a) ∧ fs.length ≤ 1000 ∧ dx ≠ a ∧ h.get? a = some (PySem.W.instObj C dx) ∧
      ∃ mA, h.Ns1 dx mA ∧ (∀ f, RelO (fs.lookup f) (mA f)) ∧ PySem.Within mA (fs.map (·.1))
  | .own _ => ∃ o, h.get? a = some o
  | .xd fs => ∃ mA, h.Ns1 a mA ∧ ∀ f, RelO (fs.lookup f) (mA f)
  | .rng lo hi => ∃ t u v, h.get? a = some { cls := .type "range", data := .fields #[.int lo t, .int hi u, .int 1 v] }
  | .frz o u => h.get? a = some o ∧ ObjOk H h a u
  | .tbl ps => h.get? a = some { cls := .none, data := .fields ps }
  | .met f x => h.get? a = some (PySem.W.methodObj (.ref f) (.ref x))
  | .ext φ => φ h ∧ (∃ o, h.get? a = some o) ∧ ∀ h1 h2 : Heap, φ h1 → (∀ o, h1.get? a = some o → h2.get? a = some o) → φ h2
/-- the abstract heap is held -/
def HOk (H : Hp) (h : Heap) : Prop := ∀ a o, H a = some o → ObjOk P w H h a o
end

section
variable {P : Program} {w : World} {H H' : Hp} {h h' : Heap} {a : Addr} {o : HO}
theorem ObjOk.lt (x : ObjOk P w H h a o) : a < h.objs.size := by
  cases o with
  | lst xs => obtain ⟨_, _, _, _, e⟩ := x; exact Heap.lt_size e
  | tup xs => obtain ⟨_, _, _, p⟩ := x; exact p.lt
  | dK kvs => obtain ⟨_, _, _, _, o, _, _, e, _⟩ := x; exact Heap.lt_size e
  | dT kvs => obtain ⟨_, _, _, _, o, _, _, e, _⟩ := x; exact Heap.lt_size e
  | set S n => obtain ⟨o, _, _, _, e, _⟩ := x; exact Heap.lt_size e
  | ins C dx fs => obtain ⟨_, _, _, e, _⟩ := x; exact Heap.lt_size e
  | own y => obtain ⟨_, e⟩ := x; exact Heap.lt_size e
  | xd fs => obtain ⟨_, ⟨_, _, _, e, _⟩, _⟩ := x; exact Heap.lt_size e
  | rng lo hi => obtain ⟨_, _, _, e⟩ := x; exact Heap.lt_size e
  | frz ob u => obtain ⟨e, _⟩ := x; exact Heap.lt_size e
  | tbl ps => exact Heap.lt_size (show h.get? a = some _ from x)
  | met f y => exact Heap.lt_size (show h.get? a = some _ from x)
  | ext φ => obtain ⟨_, ⟨_, e⟩, _⟩ := x; exact Heap.lt_size e
theorem Paired.mapP {α β : Type} {F G : α → β → Prop} : ∀ {l₁ : List α} {l₂ : List β}, Paired F l₁ l₂ → (∀ a b, F a b → G a b) → Paired G l₁ l₂
  | _, _, .nil, _ => .nil
  | _, _, .cons r t, f => .cons (f _ _ r) (Paired.mapP t f)
/-- what an object's description leans on: its own object, its own dict, the tuples -/
theorem ObjOk.stay (x : ObjOk P w H h a o) (k : ∀ b u, (b = a ∨ H b = some (.own a)) → h.get? b = some u → h'.get? b = some u)
    (ho : ∀ b, H b = some (.own a) → H' b = some (.own a)) (ht : ∀ b xs, H b = some (.tup xs) → H' b = some (.tup xs)) : ObjOk P w H' h' a o := by
  induction o with
  | lst xs => obtain ⟨z, its, n, r, e⟩ := x; exact ⟨z, its, n, r, k _ _ (.inl rfl) e⟩
  | tup xs => obtain ⟨z, its, r, ob, e, c⟩ := x; exact ⟨z, its, r, ob, k _ _ (.inl rfl) e, c⟩
  | dK kvs => obtain ⟨z, y, vs, r, ob, es, ep, e, c⟩ := x; exact ⟨z, y, vs, r, ob, es, ep, k _ _ (.inl rfl) e, c⟩
  | dT kvs =>
    obtain ⟨z, y, xs, r, ob, es, ep, e, c⟩ := x
    exact ⟨z, y, xs, Paired.mapP r fun p q z => ⟨z.1, ht _ _ z.2.1, z.2.2⟩, ob, es, ep, k _ _ (.inl rfl) e, c⟩
  | set S n => obtain ⟨ob, es, ep, t, e, c⟩ := x; exact ⟨ob, es, ep, t, k _ _ (.inl rfl) e, c⟩
  | ins C dx fs =>
    obtain ⟨d, z, ne, e, mA, ⟨od, es, ep, e2, c⟩, r⟩ := x
    exact ⟨ho _ d, z, ne, k _ _ (.inl rfl) e, mA, ⟨od, es, ep, k _ _ (.inr d) e2, c⟩, r⟩
  | own y => obtain ⟨ob, e⟩ := x; exact ⟨ob, k _ _ (.inl rfl) e⟩
  | xd fs => obtain ⟨mA, ⟨od, es, ep, e, c⟩, r⟩ := x; exact ⟨mA, ⟨od, es, ep, k _ _ (.inl rfl) e, c⟩, r⟩
  | rng lo hi => obtain ⟨t, u, v, e⟩ := x; exact ⟨t, u, v, k _ _ (.inl rfl) e⟩
  | frz ob u ih => obtain ⟨e, q⟩ := x; exact ⟨k _ _ (.inl rfl) e, ih q⟩
  | tbl ps =>
    have e : h.get? a = some { cls := .none, data := .fields ps } := x
    show h'.get? a = some { cls := .none, data := .fields ps }
    exact k a _ (.inl rfl) e
  | met f y =>
    have e : h.get? a = some (PySem.W.methodObj (.ref f) (.ref y)) := x
    show h'.get? a = some (PySem.W.methodObj (.ref f) (.ref y))
    exact k a _ (.inl rfl) e
  | ext φ => obtain ⟨p, ⟨o, e⟩, st⟩ := x; exact ⟨st _ _ p fun o q => k _ _ (.inl rfl) q, ⟨o, k _ _ (.inl rfl) e⟩, st⟩
theorem HOk.lt (x : HOk P w H h) (e : H a = some o) : a < h.objs.size := (x a o e).lt
theorem HOk.fresh (x : HOk P w H h) (e : h.objs.size ≤ a) : H a = none := by
  cases q : H a with
  | none => rfl
  | some u => exact absurd (Nat.lt_of_lt_of_le (x.lt q) e) (Nat.lt_irrefl _)
/-- every object of the heap is kept -/
theorem HOk.kept (x : HOk P w H h) (k : ∀ b u, h.get? b = some u → h'.get? b = some u) : HOk P w H h' := fun a o e =>
  (x a o e).stay (fun b u _ q => k b u q) (fun _ q => q) fun _ _ q => q
/-- a new object is laid and tracked -/
theorem HOk.laid (x : HOk P w H h) (k : ∀ b u, h.get? b = some u → h'.get? b = some u) (hp : h.objs.size ≤ a) (new : ObjOk P w (upd H a o) h' a o) : HOk P w (upd H a o) h' := fun b u e => by
  have hn := x.fresh hp
  by_cases hb : b = a
  · subst hb; rw [upd_same] at e; cases e; exact new
  · rw [upd_ne hb] at e
    exact (x b u e).stay (fun c v _ q => k c v q) (fun c q => by rw [upd_ne (ne_of_none q hn)]; exact q) fun c xs q => by rw [upd_ne (ne_of_none q hn)]; exact q
end

/-- what may be read as u: it is u, or a known u -/
def Rd (H : Hp) (a : Addr) (u : HO) : Prop := H a = some u ∨ ∃ o, H a = some (.frz o u)
theorem Rd.ok {P : Program} {w : World} {H : Hp} {h : Heap} {a : Addr} {u : HO} (r : Rd H a u) (x : HOk P w H h) : ObjOk P w H h a u := by
  rcases r with r | ⟨o, r⟩
  · exact x a u r
  · obtain ⟨_, q⟩ := x a _ r
    exact q
/-- what may be written -/
def Mut : Option HO → Prop
  | some (.lst _) => True
  | some (.dK _) => True
  | some (.dT _) => True
  | some (.set _ _) => True
  | some (.ins _ _ _) => True
  | some (.ext _) => True
  | _ => False
section
variable {P : Program} {w : World} {H : Hp} {h h' : Heap} {x e : Addr} {o' : HO}
/-- the object at e is changed: x itself, or the dict of the instance x -/
theorem HOk.write (ok : HOk P w H h) (mu : Mut (H x)) (he : e = x ∨ H e = some (.own x)) (k : ∀ b u, b ≠ e → h.get? b = some u → h'.get? b = some u) (heo : ∃ u, h'.get? e = some u)
    (new : ObjOk P w (upd H x o') h' x o') : HOk P w (upd H x o') h' := fun b u q => by
  have nown : ∀ c y, H c = some (.own y) → c ≠ x := fun c y r z => by subst z; rw [r] at mu; exact mu
  have ntup : ∀ c xs, H c = some (.tup xs) → c ≠ x := fun c xs r z => by subst z; rw [r] at mu; exact mu
  by_cases hb : b = x
  · subst hb; rw [upd_same] at q; cases q; exact new
  · rw [upd_ne hb] at q
    by_cases hbe : b = e
    · have q' : H b = some (.own x) := by
        rcases he with z | z
        · exact absurd (hbe.trans z) hb
        · rw [hbe]; exact z
      rw [q] at q'; cases q'
      obtain ⟨v, hv⟩ := heo
      exact ⟨v, by rw [hbe]; exact hv⟩
    · refine (ok b u q).stay (fun c v hc r => k c v ?_ r) (fun c r => by rw [upd_ne (nown c b r)]; exact r) fun c xs r => by rw [upd_ne (ntup c xs r)]; exact r
      rcases hc with rfl | hc
      · exact hbe
      · rintro rfl
        rcases he with z | z
        · exact nown c b hc z
        · rw [hc] at z; cases z; exact hb rfl
end

/-! ### kept unless tracked; of the frames at fs (the callers') the slots may change (an exception that passes writes there); of the records at ex (iterators) nothing is said -/
structure Un (fs ex : List Addr) (H H' : Hp) (h h' : Heap) : Prop where
  keep : ∀ b o, h.get? b = some o → H b = none → b ∉ fs → b ∉ ex → h'.get? b = some o
  slot : ∀ b o, h.get? b = some o → H b = none → b ∈ fs → b ∉ ex → ∃ sl, h'.get? b = some { o with slots := sl }
  free : ∀ b o, h.get? b = some o → H b = none → b ∉ ex → H' b = none
  there : ∀ b o, h.get? b = some o → b ∉ ex → ∃ o', h'.get? b = some o'
  tups : ∀ b xs, H b = some (.tup xs) → H' b = some (.tup xs)
  frzs : ∀ b o u, H b = some (.frz o u) → H' b = some (.frz o u)
  tbls : ∀ b ps, H b = some (.tbl ps) → ∃ more, H' b = some (.tbl (ps ++ more))
section
variable {fs fs' ex ex' : List Addr} {H H1 H2 : Hp} {h h1 h2 h' : Heap} {a x e : Addr} {o : HO}
theorem Un.any (u : Un fs ex H H1 h h1) {b : Addr} {ob : Obj} (q : h.get? b = some ob) (n : H b = none) (hx : b ∉ ex) : ∃ sl, h1.get? b = some { ob with slots := sl } := by
  by_cases hb : b ∈ fs
  · exact u.slot b ob q n hb hx
  · exact ⟨ob.slots, u.keep b ob q n hb hx⟩
theorem Un.kept (k : ∀ b u, h.get? b = some u → h'.get? b = some u) : Un fs ex H H h h' :=
  ⟨fun b ob q _ _ _ => k b ob q, fun b ob q _ _ _ => ⟨ob.slots, k b ob q⟩, fun _ _ _ n _ => n, fun b ob q _ => ⟨ob, k b ob q⟩, fun _ _ q => q, fun _ _ _ q => q, fun _ ps q => ⟨#[], by rw [q]; simp⟩⟩
theorem Un.refl : Un fs ex H H h h := Un.kept fun _ _ q => q
theorem Un.laid (k : ∀ b u, h.get? b = some u → h'.get? b = some u) (hp : h.objs.size ≤ a) (hn : H a = none) : Un fs ex H (upd H a o) h h' where
  keep := fun b u q _ _ _ => k b u q
  slot := fun b u q _ _ _ => ⟨u.slots, k b u q⟩
  free := fun b u q n _ => by rw [upd_ne (Nat.ne_of_lt (Nat.lt_of_lt_of_le (Heap.lt_size q) hp))]; exact n
  there := fun b u q _ => ⟨u, k b u q⟩
  tups := fun b xs q => by rw [upd_ne (ne_of_none q hn)]; exact q
  frzs := fun b u xs q => by rw [upd_ne (ne_of_none q hn)]; exact q
  tbls := fun b ps q => ⟨#[], by rw [upd_ne (ne_of_none q hn), q]; simp⟩
theorem Un.write (mu : Mut (H x)) (he : e = x ∨ H e = some (.own x)) (k : ∀ b u, b ≠ e → h.get? b = some u → h'.get? b = some u) (heo : ∃ u, h'.get? e = some u) : Un fs ex H (upd H x o) h h' := by
  have hx : ∀ b, H b = none → b ≠ x := fun b n z => by subst z; rw [n] at mu; exact mu
  have hb : ∀ b, H b = none → b ≠ e := fun b n z => by
    subst z
    rcases he with r | r
    · exact hx b n r
    · rw [n] at r; cases r
  have hm : ∀ b u, H b = some u → ¬ Mut (some u) → b ≠ x := fun b u q nm z => by subst z; rw [q] at mu; exact nm mu
  refine ⟨fun b u q n _ _ => k b u (hb b n) q, fun b u q n _ _ => ⟨u.slots, k b u (hb b n) q⟩, fun b u q n _ => by rw [upd_ne (hx b n)]; exact n, fun b u q _ => ?_,
    fun b xs q => by rw [upd_ne (hm b _ q fun z => z)]; exact q, fun b u xs q => by rw [upd_ne (hm b _ q fun z => z)]; exact q, fun b ps q => ⟨#[], by rw [upd_ne (hm b _ q fun z => z), q]; simp⟩⟩
  by_cases hbe : b = e
  · subst hbe; exact heo
  · exact ⟨u, k b u hbe q⟩
end

/-! ### the heap without what is tracked -/
def trk (h : Heap) (H : Hp) : List Addr := (List.range h.objs.size).filter fun a => (H a).isSome
def hidT (h : Heap) (H : Hp) : Heap := PySem.W.hideAll h (trk h H)
theorem hidT_size (h : Heap) (H : Hp) : (hidT h H).objs.size = h.objs.size := PySem.W.hideAll_size _ _
theorem hidT_get {h : Heap} {H : Hp} {b : Addr} {o : Obj} (e : h.get? b = some o) (n : H b = none) : (hidT h H).get? b = some o :=
  PySem.W.hideAll_get _ e fun hm => by
    have q : (H b).isSome = true := (List.mem_filter.mp hm).2
    rw [n] at q; simp at q
theorem of_hidT {h : Heap} {H : Hp} {b : Addr} {o : Obj} (e : (hidT h H).get? b = some o) : h.get? b = some o ∧ H b = none := by
  have e' : h.get? b = some o := PySem.W.of_hideAll (trk h H) e
  refine ⟨e', ?_⟩
  cases q : H b with
  | none => rfl
  | some x =>
    have hm : b ∈ trk h H := List.mem_filter.mpr ⟨List.mem_range.mpr (Heap.lt_size e'), by simp [q]⟩
    have z : (hidT h H).get? b = none := PySem.W.hideAll_none (trk h H) hm
    rw [z] at e; cases e

/-! ### OpenK's ledger, filled with every new object but one -/
end L2

namespace L2
open PySem PySem.Spec PyProof.Rows

/-- the module's facts, over the base: the heap at the law's entry without what is tracked there -/
structure Mod (K : PySem.W.Frag) (mg : Str → Option Value) (base : Heap) : Prop where
  kin : K.In base
  glob : base.Ns mainGlobals mg
  blt : ∃ mb, base.Ns builtinsNs mb ∧ ∀ x : Str, x ≠ "__name__" → mb x = bootBuiltins x
  nolimit : base.NoLimit

/-- the context: a def's body (or a comprehension's block) running. base: fixed through the whole law; s₀, H₀: the entry; outer: the frames whose slots others may change (a def's callers); stack: all frames that run;
   ex: iterators that were made ahead of the entry and are walked here (a comprehension's); fn: the names whose cells were made at the entry (a def: all; a comprehension's block: its own); calm: not within an except suite; pn: pins that every state bears; xe: what is wanted of an exception that leaves the code -/
structure Cx where
  prog : Program
  w : World
  K : PySem.W.Frag
  mg : Str → Option Value
  base : Heap
  A : Around
  N : List Str
  s₀ : Shared
  H₀ : Hp
  env : Env
  outer : List Env
  stack : List Env
  ex : List Addr
  fn : Str → Bool
  calm : Bool
  pn : List (Addr × Obj)
  xe : Value → Shared → Prop
/-- the callers' frames -/
def frs (l : List Env) : List Addr := l.filterMap (·.frame)
abbrev Cx.fs (X : Cx) : List Addr := frs X.outer

def Vis (sc : Scope) (x : Str) : Prop := sc.names.lookup x = some .local ∨ sc.names.lookup x = some .cell ∨ sc.names.lookup x = some .free
def Loc (sc : Scope) (x : Str) : Prop := sc.names.lookup x = some .local ∨ sc.names.lookup x = some .cell
def Look (env : Env) (h : Heap) (m : Str → Option Value) (x : Str) (u : Value) : Prop :=
  (env.kindOf x = some .local ∧ m x = some u) ∨ ((env.kindOf x = some .cell ∨ env.kindOf x = some .free) ∧ ∃ c, env.cells.lookup x = some c ∧ h.IsCell c (some u))

structure Cx.Ok (X : Cx) : Prop where
  mod : Mod X.K X.mg X.base
  kind : X.env.scope.kind = .function
  glob : X.env.globals = mainGlobals
  blt : X.env.builtins = builtinsNs
  above : X.s₀.heap.objs.size ≤ X.env.locals
  inj : ∀ x y c, X.env.cells.lookup x = some c → X.env.cells.lookup y = some c → x = y
  has : ∀ x, (X.env.kindOf x = some .cell ∨ X.env.kindOf x = some .free) → ∃ c, X.env.cells.lookup x = some c
  cab : ∀ x c, X.fn x = true → X.env.cells.lookup x = some c → X.s₀.heap.objs.size ≤ c
  hd : X.calm = true → X.A.handled = none
  frames : X.A.frames = some X.stack
  stk : X.stack = X.outer ∨ (X.stack = X.env :: X.outer ∧ X.env.frame = some X.env.locals)
  exf : ∀ b ∈ X.ex, b ≠ X.env.locals ∧ ∀ x c, X.env.cells.lookup x = some c → c ≠ b
  bs : ∀ b o, X.base.get? b = some o → X.s₀.heap.get? b = some o ∧ X.H₀ b = none
  bsz : X.base.objs.size ≤ X.s₀.heap.objs.size
  noex : ∀ b o, X.base.get? b = some o → b ∉ X.ex
  exfs : ∀ b ∈ X.ex, b ∉ X.fs
  funs : X.s₀.heap.FunFrames X.base X.outer
  frf : ∀ b ∈ X.fs, X.H₀ b = none

structure Inv (X : Cx) (pins : List (Addr × Obj)) (σ : List (Option V)) (H : Hp) (s : Shared) : Prop where
  ok : X.Ok
  os : s.os = X.s₀.os
  bare : AllBare s.gens
  base : Un X.fs X.ex X.H₀ H X.s₀.heap s.heap
  loc : ∃ m, s.heap.Ns X.env.locals m ∧ ∀ (i : Nat) (x : Str) (v : V), X.N[i]? = some x → σ[i]? = some (some v) → Vis X.env.scope x → ∃ u, RelV v u ∧ Look X.env s.heap m x u
  cell : ∀ x c, X.env.cells.lookup x = some c → ∃ v, s.heap.IsCell c v
  free : H X.env.locals = none
  freeC : ∀ x c, X.env.cells.lookup x = some c → H c = none
  pin : ∀ p ∈ X.pn ++ pins, s.heap.get? p.1 = some p.2 ∧ H p.1 = none ∧ p.1 ≠ X.env.locals ∧ p.1 ∉ X.fs ∧ ∀ v, p.2.data ≠ .cell v
  hok : HOk X.prog X.w H s.heap
  len : σ.length = X.N.length

section
variable {X : Cx} {pins : List (Addr × Obj)} {σ : List (Option V)} {H H' : Hp} {s : Shared} {h' : Heap}

theorem Cx.Ok.nofr (ok : X.Ok) {b : Addr} {o : Obj} (e : X.base.get? b = some o) : b ∉ X.fs := fun hb => by
  have := (ok.funs.mem hb).1
  rw [e] at this; cases this
theorem Inv.bs (I : Inv X pins σ H s) : ∀ b o, X.base.get? b = some o → s.heap.get? b = some o ∧ H b = none := fun b o e =>
  ⟨I.base.keep b o (I.ok.bs b o e).1 (I.ok.bs b o e).2 (I.ok.nofr e) (I.ok.noex b o e), I.base.free b o (I.ok.bs b o e).1 (I.ok.bs b o e).2 (I.ok.noex b o e)⟩
theorem Inv.bk (I : Inv X pins σ H s) : ∀ b o, X.base.get? b = some o → s.heap.get? b = some o := fun b o e => (I.bs b o e).1
theorem Inv.mod (I : Inv X pins σ H s) : Mod X.K X.mg X.base := I.ok.mod
theorem Inv.kIn (I : Inv X pins σ H s) : X.K.In s.heap := I.ok.mod.kin.keeps I.bk
theorem Inv.lt (I : Inv X pins σ H s) : X.env.locals < s.heap.objs.size := let ⟨_, hn, _⟩ := I.loc; hn.lt
theorem Inv.sz (I : Inv X pins σ H s) : X.s₀.heap.objs.size ≤ s.heap.objs.size := Nat.le_trans I.ok.above (Nat.le_of_lt I.lt)
theorem Inv.nofs (I : Inv X pins σ H s) {a : Addr} (h : s.heap.objs.size ≤ a) : a ∉ X.fs := fun hb => by
  obtain ⟨_, o, ho, _⟩ := I.ok.funs.mem hb
  exact absurd (Nat.lt_of_lt_of_le (Heap.lt_size ho) (Nat.le_trans I.sz h)) (Nat.lt_irrefl _)
theorem Inv.cne (I : Inv X pins σ H s) : ∀ x c, X.env.cells.lookup x = some c → c ≠ X.env.locals := fun x c e z => by
  obtain ⟨v, o, ho, hd⟩ := I.cell x c e
  obtain ⟨m, ⟨o', es, ep, ho', hd', _⟩, _⟩ := I.loc
  rw [z, ho'] at ho; cases ho; rw [hd'] at hd; cases hd
theorem Inv.funs (I : Inv X pins σ H s) : s.heap.FunFrames X.base X.outer := by
  have all : ∀ (l : List Env), (∀ b ∈ frs l, b ∈ X.fs) → X.s₀.heap.FunFrames X.base l → s.heap.FunFrames X.base l := by
    intro l
    induction l with
    | nil => intro _ _; trivial
    | cons env r ih =>
      intro hs hl
      obtain ⟨hk, ⟨L, o, hf, hn, ho, hd⟩, hr⟩ := hl
      have hL : L ∈ X.fs := hs L (by unfold frs; rw [List.filterMap_cons, hf]; exact List.mem_cons_self)
      obtain ⟨sl, e⟩ := I.base.slot L o ho (I.ok.frf L hL) hL fun z => I.ok.exfs L z hL
      exact ⟨hk, ⟨L, _, hf, hn, e, hd⟩, ih (fun b hb => hs b (by unfold frs; rw [List.filterMap_cons, hf]; exact List.mem_cons_of_mem _ hb)) hr⟩
  exact all X.outer (fun _ hb => hb) I.ok.funs

/-- the frames that run, for a call -/
theorem Inv.stack (I : Inv X pins σ H s) : s.heap.FunFrames X.base X.stack := by
  rcases I.ok.stk with e | ⟨e, hf⟩
  · rw [e]; exact I.funs
  · rw [e]
    obtain ⟨m, hn, _⟩ := I.loc
    refine .cons (by rw [I.ok.kind]; decide) hf hn ?_ I.funs
    exact Heap.get?_none_of_le (Nat.le_trans I.ok.bsz I.ok.above)
theorem Inv.stkSub (I : Inv X pins σ H s) : ∀ b ∈ frs X.stack, b ∈ X.env.locals :: X.fs := fun b hb => by
  rcases I.ok.stk with e | ⟨e, hf⟩
  · rw [e] at hb; exact List.mem_cons_of_mem _ hb
  · rw [e] at hb
    unfold frs at hb
    rw [List.filterMap_cons, hf] at hb
    exact hb
theorem Inv.stkFree (I : Inv X pins σ H s) : ∀ b ∈ frs X.stack, H b = none := fun b hb => by
  rcases List.mem_cons.mp (I.stkSub b hb) with e | hb
  · rw [e]; exact I.free
  · obtain ⟨_, o, ho, _⟩ := I.ok.funs.mem hb
    exact I.base.free b o ho (I.ok.frf b hb) fun z => I.ok.exfs b z hb

/-- THE STEP: the untracked objects but the frame and the records at ch are kept (the callers' frames up to slots), the frame's map is kept, the new abstract heap is held -/
theorem Inv.step {g' : Array GenState} {t' : Nat} {d' : Drawn} {ch : List Addr} (I : Inv X pins σ H s)
    (hch : ∀ b ∈ ch, (b ∈ X.ex ∨ X.s₀.heap.objs.size ≤ b) ∧ b ≠ X.env.locals ∧ (∀ x c, X.env.cells.lookup x = some c → c ≠ b) ∧ ∀ p ∈ X.pn ++ pins, p.1 ≠ b)
    (keep : ∀ b o, b ≠ X.env.locals → b ∉ X.fs → b ∉ ch → s.heap.get? b = some o → H b = none → h'.get? b = some o)
    (slot : ∀ b o, b ≠ X.env.locals → b ∈ X.fs → b ∉ ch → s.heap.get? b = some o → H b = none → ∃ sl, h'.get? b = some { o with slots := sl }) (free : ∀ b o, b ∉ ch → s.heap.get? b = some o → H b = none → H' b = none)
    (there : ∀ b o, b ∉ ch → s.heap.get? b = some o → ∃ o', h'.get? b = some o')
    (tups : ∀ b xs, H b = some (.tup xs) → H' b = some (.tup xs)) (frzs : ∀ b o u, H b = some (.frz o u) → H' b = some (.frz o u)) (tbls : ∀ b ps, H b = some (.tbl ps) → ∃ more, H' b = some (.tbl (ps ++ more)))
    (ns : ∀ m, s.heap.Ns X.env.locals m → h'.Ns X.env.locals m) (hok : HOk X.prog X.w H' h') (hg : AllBare g') :
    Inv X pins σ H' { s with heap := h', gens := g', drawn := d', toks := t' } := by
  have neL : ∀ b o, X.s₀.heap.get? b = some o → b ≠ X.env.locals := fun b o e => Nat.ne_of_lt (Nat.lt_of_lt_of_le (Heap.lt_size e) I.ok.above)
  have neC : ∀ b o, X.s₀.heap.get? b = some o → b ∉ X.ex → b ∉ ch := fun b o e hx hb => by
    rcases (hch b hb).1 with z | z
    · exact hx z
    · exact absurd (Nat.lt_of_lt_of_le (Heap.lt_size e) z) (Nat.lt_irrefl _)
  have cellK : ∀ x c, X.env.cells.lookup x = some c → ∀ v, s.heap.IsCell c v → h'.IsCell c v := fun x c e v ⟨o, ho, hd⟩ => by
    have nch : c ∉ ch := fun z => (hch c z).2.2.1 x c e rfl
    by_cases hc : c ∈ X.fs
    · obtain ⟨sl, q⟩ := slot c o (I.cne x c e) hc nch ho (I.freeC x c e)
      exact ⟨_, q, hd⟩
    · exact ⟨o, keep c o (I.cne x c e) hc nch ho (I.freeC x c e), hd⟩
  refine ⟨I.ok, I.os, hg, ⟨fun b o e n hb hx => ?_, fun b o e n hb hx => ?_, fun b o e n hx => ?_, fun b o e hx => ?_, fun b xs e => tups b xs (I.base.tups b xs e), fun b o xs e => frzs b o xs (I.base.frzs b o xs e), fun b ps e => ?_⟩, ?_, fun x c e => ?_, ?_, fun x c e => ?_, fun p hp => ?_, hok, I.len⟩
  · exact keep b o (neL b o e) hb (neC b o e hx) (I.base.keep b o e n hb hx) (I.base.free b o e n hx)
  · obtain ⟨sl, e1⟩ := I.base.slot b o e n hb hx
    obtain ⟨sl', e2⟩ := slot b _ (neL b o e) hb (neC b o e hx) e1 (I.base.free b o e n hx)
    exact ⟨sl', e2⟩
  · obtain ⟨o', e1⟩ := I.base.there b o e hx
    exact free b o' (neC b o e hx) e1 (I.base.free b o e n hx)
  · obtain ⟨o', e1⟩ := I.base.there b o e hx
    exact there b o' (neC b o e hx) e1
  · obtain ⟨m1, e1⟩ := I.base.tbls b ps e
    obtain ⟨m2, e2⟩ := tbls b _ e1
    exact ⟨m1 ++ m2, by rw [e2, Array.append_assoc]⟩
  · obtain ⟨m, hn, hl⟩ := I.loc
    refine ⟨m, ns m hn, fun i x v e1 e2 e3 => ?_⟩
    obtain ⟨u, r, l⟩ := hl i x v e1 e2 e3
    refine ⟨u, r, ?_⟩
    rcases l with l | ⟨k, c, e, z⟩
    · exact .inl l
    · exact .inr ⟨k, c, e, cellK x c e _ z⟩
  · obtain ⟨v, z⟩ := I.cell x c e
    exact ⟨v, cellK x c e v z⟩
  · obtain ⟨m, ⟨o, _, _, ho, _⟩, _⟩ := I.loc
    exact free _ o (fun z => (hch _ z).2.1 rfl) ho I.free
  · obtain ⟨v, o, ho, hd⟩ := I.cell x c e
    exact free c o (fun z => (hch c z).2.2.1 x c e rfl) ho (I.freeC x c e)
  · obtain ⟨e, n, ne, nf, d⟩ := I.pin p hp
    have nch : p.1 ∉ ch := fun z => (hch p.1 z).2.2.2 p hp rfl
    exact ⟨keep p.1 p.2 ne nf nch e n, free p.1 p.2 nch e n, ne, nf, d⟩
/-- .. where the frame's own object is kept too -/
theorem Inv.un {t' : Nat} (I : Inv X pins σ H s) (u : Un X.fs [] H H' s.heap h') (hok : HOk X.prog X.w H' h') : Inv X pins σ H' { s with heap := h', toks := t' } := by
  obtain ⟨m, ⟨o, es, ep, ho, r⟩, _⟩ := id I.loc
  obtain ⟨sl, hL⟩ := u.any ho I.free (by simp)
  exact I.step (g' := s.gens) (d' := s.drawn) (ch := []) (fun _ z => nomatch z) (fun b o _ hb _ e n => u.keep b o e n hb (by simp)) (fun b o _ hb _ e n => u.slot b o e n hb (by simp)) (fun b o _ e n => u.free b o e n (by simp)) (fun b o _ e => u.there b o e (by simp)) u.tups u.frzs u.tbls (fun m' hm => by
    obtain ⟨o', es', ep', ho', r'⟩ := hm
    rw [ho] at ho'; cases ho'
    exact ⟨_, es', ep', hL, r'⟩) hok I.bare
/-- behind a call (or a comprehension's block): the slots of this frame may have changed too, the records at ch may have turned -/
theorem Inv.call {g' : Array GenState} {t' : Nat} {d' : Drawn} {ch : List Addr} (I : Inv X pins σ H s) (u : Un (frs X.stack) ch H H' s.heap h') (hok : HOk X.prog X.w H' h') (hg : AllBare g')
    (hch : ∀ b ∈ ch, (b ∈ X.ex ∨ X.s₀.heap.objs.size ≤ b) ∧ b ≠ X.env.locals ∧ (∀ x c, X.env.cells.lookup x = some c → c ≠ b) ∧ ∀ p ∈ X.pn ++ pins, p.1 ≠ b) :
    Inv X pins σ H' { s with heap := h', gens := g', drawn := d', toks := t' } := by
  obtain ⟨m, ⟨o, es, ep, ho, r⟩, _⟩ := id I.loc
  obtain ⟨sl, hL⟩ := u.any ho I.free fun z => (hch _ z).2.1 rfl
  exact I.step (ch := ch) hch (fun b o hL hb hc e n => u.keep b o e n (fun z => (List.mem_cons.mp (I.stkSub b z)).elim hL hb) hc) (fun b o _ _ hc e n => u.any e n hc) (fun b o hc e n => u.free b o e n hc) (fun b o hc e => u.there b o e hc) u.tups u.frzs u.tbls (fun m' hm => by
    obtain ⟨o', es', ep', ho', r'⟩ := hm
    rw [ho] at ho'; cases ho'
    exact ⟨_, es', ep', hL, r'⟩) hok hg
/-- an untracked record of ours (an iterator) has turned -/
theorem Inv.turned {t' : Nat} {it : Addr} (I : Inv X pins σ H s) (k : ∀ b o, b ≠ it → s.heap.get? b = some o → h'.get? b = some o) (hn : H it = none) (hL : it ≠ X.env.locals)
    (h1 : it ∈ X.ex ∨ X.s₀.heap.objs.size ≤ it) (h2 : ∀ x c, X.env.cells.lookup x = some c → c ≠ it) (h3 : ∀ p ∈ X.pn ++ pins, p.1 ≠ it) : Inv X pins σ H { s with heap := h', toks := t' } := by
  have nit : ∀ b u, H b = some u → b ≠ it := fun b u e z => by rw [z, hn] at e; cases e
  refine I.step (g' := s.gens) (d' := s.drawn) (ch := [it]) (fun b hb => ?_) (fun b o _ _ hc e _ => k b o (fun z => hc (by simp [z])) e) (fun b o _ _ hc e _ => ⟨o.slots, k b o (fun z => hc (by simp [z])) e⟩) (fun _ _ _ _ n => n)
    (fun b o hc e => ⟨o, k b o (fun z => hc (by simp [z])) e⟩) (fun _ _ e => e) (fun _ _ _ e => e) (fun b ps e => ⟨#[], by rw [e]; simp⟩) (fun m hm => ?_) (fun b u e => ?_) I.bare
  · have e : b = it := by simpa using hb
    subst e
    exact ⟨h1, hL, h2, h3⟩
  · obtain ⟨o, es, ep, ho, r⟩ := hm
    exact ⟨o, es, ep, k _ o (Ne.symm hL) ho, r⟩
  · refine (I.hok b u e).stay (fun c v hc q => k c v ?_ q) (fun _ q => q) fun _ _ q => q
    rcases hc with z | z
    · rw [z]; exact nit b u e
    · exact nit c _ z
theorem Inv.tok (I : Inv X pins σ H s) (t : Nat) : Inv X pins σ H { s with toks := t } := I.un (h' := s.heap) (t' := t) Un.refl I.hok
/-- all objects kept -/
theorem Inv.kept {t' : Nat} (I : Inv X pins σ H s) (k : ∀ b u, s.heap.get? b = some u → h'.get? b = some u) : Inv X pins σ H { s with heap := h', toks := t' } := I.un (Un.kept k) (I.hok.kept k)
/-- a new object laid and tracked -/
theorem Inv.laid {a : Addr} {o : HO} {t' : Nat} (I : Inv X pins σ H s) (k : ∀ b u, s.heap.get? b = some u → h'.get? b = some u) (hp : s.heap.objs.size ≤ a) (new : ObjOk X.prog X.w (upd H a o) h' a o) :
    Inv X pins σ (upd H a o) { s with heap := h', toks := t' } := I.un (Un.laid k hp (I.hok.fresh hp)) (I.hok.laid k hp new)
/-- an object written -/
theorem Inv.write {x e : Addr} {o : HO} {t' : Nat} (I : Inv X pins σ H s) (mu : Mut (H x)) (he : e = x ∨ H e = some (.own x)) (k : ∀ b u, b ≠ e → s.heap.get? b = some u → h'.get? b = some u) (heo : ∃ u, h'.get? e = some u)
    (new : ObjOk X.prog X.w (upd H x o) h' x o) : Inv X pins σ (upd H x o) { s with heap := h', toks := t' } := I.un (Un.write mu he k heo) (I.hok.write mu he k heo new)
theorem Inv.pins_of {pins' : List (Addr × Obj)} (I : Inv X pins σ H s) (h : ∀ p ∈ pins', s.heap.get? p.1 = some p.2 ∧ H p.1 = none ∧ p.1 ≠ X.env.locals ∧ p.1 ∉ X.fs ∧ ∀ v, p.2.data ≠ .cell v) : Inv X pins' σ H s :=
  ⟨I.ok, I.os, I.bare, I.base, I.loc, I.cell, I.free, I.freeC, fun p hp => (List.mem_append.mp hp).elim (fun z => I.pin p (List.mem_append_left _ z)) (h p), I.hok, I.len⟩

theorem nodup_ix {N : List Str} (hN : N.Nodup) {i j : Nat} {x : Str} (a : N[i]? = some x) (b : N[j]? = some x) : i = j := by
  obtain ⟨h1, e1⟩ := List.getElem?_eq_some_iff.mp a
  obtain ⟨h2, e2⟩ := List.getElem?_eq_some_iff.mp b
  exact (List.getElem_inj hN).mp (e1.trans e2.symm)

/-- a name is stored; what changed -/
theorem store_ok2 {M : Model} {A : Around} {E : Value → Shared → Prop} {i : Nat} {x : Str} {v : V} {u : Value} {Q : Unit → Shared → Prop} (I : Inv X pins σ H s) (hN : X.N.Nodup) (hi : X.N[i]? = some x) (hx : Loc X.env.scope x) (r : RelV v u)
    (h : ∀ s', Inv X pins (σ.set i (some v)) H s' → (∃ a, Heap.SameBut a s.heap s'.heap ∧ (a = X.env.locals ∨ X.env.cells.lookup x = some a)) → Q () s') (hf : X.fn x = true ∨ X.env.scope.names.lookup x = some .local := by first | exact .inl rfl | exact .inr rfl | assumption) : wpAny M A (storeName X.env x u) Q E s := by
  obtain ⟨m, hn, hl⟩ := id I.loc
  have hcls : (X.env.scope.kind == .class || (X.env.scope.kind == .module && X.env.locals != X.env.globals)) = false := by rw [I.ok.kind]; rfl
  have hiσ : i < σ.length := by rw [I.len]; exact (List.getElem?_eq_some_iff.mp hi).1
  have cne := I.cne
  have tracked : ∀ {a : Addr} {h' : Heap}, (∃ o, s.heap.get? a = some o ∧ H a = none) → Heap.SameBut a s.heap h' → HOk X.prog X.w H h' := fun {a h'} ha hs b ob e => by
    obtain ⟨_, _, hfree⟩ := ha
    refine (I.hok b ob e).stay (fun c w' hc q => (hs.2 c ?_).trans q) (fun _ q => q) fun _ _ q => q
    rintro rfl
    rcases hc with rfl | hc
    · rw [hfree] at e; cases e
    · rw [hfree] at hc; cases hc
  rcases hx with hk | hk
  · refine wpAny_storeName_local hk hn (fun h' hn' hs => ?_) hcls
    obtain ⟨oL, _, _, hoL, _⟩ := id hn
    refine h _ ⟨I.ok, I.os, I.bare, ⟨fun b o e n hb hx => ?_, fun b o e n hb hx => ?_, I.base.free, fun b o e hx => ?_, I.base.tups, I.base.frzs, I.base.tbls⟩, ⟨_, hn', fun j y v' e1 e2 e3 => ?_⟩, fun y c e => ?_, I.free, I.freeC, fun p hp => ?_, tracked ⟨oL, hoL, I.free⟩ hs, by simpa using I.len⟩ ⟨_, hs, .inl rfl⟩
    · exact (hs.2 b (Nat.ne_of_lt (Nat.lt_of_lt_of_le (Heap.lt_size e) I.ok.above))).trans (I.base.keep b o e n hb hx)
    · obtain ⟨sl, e1⟩ := I.base.slot b o e n hb hx
      exact ⟨sl, (hs.2 b (Nat.ne_of_lt (Nat.lt_of_lt_of_le (Heap.lt_size e) I.ok.above))).trans e1⟩
    · obtain ⟨o', e1⟩ := I.base.there b o e hx
      exact ⟨o', (hs.2 b (Nat.ne_of_lt (Nat.lt_of_lt_of_le (Heap.lt_size e) I.ok.above))).trans e1⟩
    · by_cases hj : j = i
      · subst hj
        rw [hi] at e1; cases e1
        rw [List.getElem?_set_self hiσ] at e2
        cases e2
        exact ⟨u, r, .inl ⟨hk, by simp⟩⟩
      · rw [List.getElem?_set_ne (Ne.symm hj)] at e2
        obtain ⟨u', r', q⟩ := hl j y v' e1 e2 e3
        refine ⟨u', r', ?_⟩
        rcases q with ⟨k, e⟩ | ⟨k, c, e, z⟩
        · refine .inl ⟨k, ?_⟩
          have : y ≠ x := fun e => hj (nodup_ix hN e1 (e ▸ hi))
          simp [this, e]
        · exact .inr ⟨k, c, e, z.sameBut hs (cne y c e)⟩
    · obtain ⟨w', z⟩ := I.cell y c e
      exact ⟨w', z.sameBut hs (cne y c e)⟩
    · obtain ⟨e, n, ne, nf, d⟩ := I.pin p hp
      exact ⟨(hs.2 p.1 ne).trans e, n, ne, nf, d⟩
  · have hfn : X.fn x = true := by
      rcases hf with z | z
      · exact z
      · rw [z] at hk; cases hk
    obtain ⟨c, hc⟩ := I.ok.has x (.inl hk)
    obtain ⟨w', z⟩ := I.cell x c hc
    refine wpAny_storeName_cell I.ok.kind hk hc z (fun h' hc' hs => ?_)
    obtain ⟨oc, hoc, hocd⟩ := id z
    refine h { s with heap := h' } ⟨I.ok, I.os, I.bare, ⟨fun b o e n hb hx => ?_, fun b o e n hb hx => ?_, I.base.free, fun b o e hx => ?_, I.base.tups, I.base.frzs, I.base.tbls⟩, ⟨m, hn.sameBut hs (Ne.symm (cne x c hc)), fun j y v' e1 e2 e3 => ?_⟩, fun y c' e => ?_, I.free, I.freeC, fun p hp => ?_, tracked ⟨oc, hoc, I.freeC x c hc⟩ hs, by simpa using I.len⟩ ⟨c, hs, .inr hc⟩
    · exact (hs.2 b (Nat.ne_of_lt (Nat.lt_of_lt_of_le (Heap.lt_size e) (I.ok.cab x c hfn hc)))).trans (I.base.keep b o e n hb hx)
    · obtain ⟨sl, e1⟩ := I.base.slot b o e n hb hx
      exact ⟨sl, (hs.2 b (Nat.ne_of_lt (Nat.lt_of_lt_of_le (Heap.lt_size e) (I.ok.cab x c hfn hc)))).trans e1⟩
    · obtain ⟨o', e1⟩ := I.base.there b o e hx
      exact ⟨o', (hs.2 b (Nat.ne_of_lt (Nat.lt_of_lt_of_le (Heap.lt_size e) (I.ok.cab x c hfn hc)))).trans e1⟩
    · by_cases hj : j = i
      · subst hj
        rw [hi] at e1; cases e1
        rw [List.getElem?_set_self hiσ] at e2
        cases e2
        exact ⟨u, r, .inr ⟨.inl hk, c, hc, hc'⟩⟩
      · rw [List.getElem?_set_ne (Ne.symm hj)] at e2
        obtain ⟨u', r', q⟩ := hl j y v' e1 e2 e3
        refine ⟨u', r', ?_⟩
        rcases q with q | ⟨k, c', e, z'⟩
        · exact .inl q
        · refine .inr ⟨k, c', e, z'.sameBut hs ?_⟩
          rintro rfl
          exact hj (nodup_ix hN e1 (I.ok.inj _ _ _ e hc ▸ hi))
    · by_cases hcc : c' = c
      · subst hcc; exact ⟨_, hc'⟩
      · obtain ⟨w2, z2⟩ := I.cell y c' e
        exact ⟨w2, z2.sameBut hs hcc⟩
    · obtain ⟨e, n, ne, nf, d⟩ := I.pin p hp
      refine ⟨(hs.2 p.1 ?_).trans e, n, ne, nf, d⟩
      intro q
      rw [q, hoc] at e
      have q' : oc = p.2 := Option.some.inj e
      exact d w' (by rw [← q']; exact hocd)
theorem store_ok {M : Model} {A : Around} {E : Value → Shared → Prop} {i : Nat} {x : Str} {v : V} {u : Value} {Q : Unit → Shared → Prop} (I : Inv X pins σ H s) (hN : X.N.Nodup) (hi : X.N[i]? = some x) (hx : Loc X.env.scope x) (r : RelV v u)
    (h : ∀ s', Inv X pins (σ.set i (some v)) H s' → Q () s') (hf : X.fn x = true ∨ X.env.scope.names.lookup x = some .local := by first | exact .inl rfl | exact .inr rfl | assumption) : wpAny M A (storeName X.env x u) Q E s :=
  store_ok2 I hN hi hx r (fun s' I' _ => h s' I') hf
/-- behind a call or a block, the state as it is -/
theorem Inv.call' {s' : Shared} {ch : List Addr} (I : Inv X pins σ H s) (ho : s'.os = s.os) (u : Un (frs X.stack) ch H H' s.heap s'.heap) (hok : HOk X.prog X.w H' s'.heap) (hg : AllBare s'.gens)
    (hch : ∀ b ∈ ch, (b ∈ X.ex ∨ X.s₀.heap.objs.size ≤ b) ∧ b ≠ X.env.locals ∧ (∀ x c, X.env.cells.lookup x = some c → c ≠ b) ∧ ∀ p ∈ X.pn ++ pins, p.1 ≠ b) : Inv X pins σ H' s' := by
  obtain ⟨h', g', d', t', o'⟩ := s'
  have e : o' = s.os := ho
  subst e
  exact I.call (g' := g') (t' := t') (d' := d') u hok hg hch
end

/-! ### the judgements -/
/-- an exception: its class, its own dict's address (where it has one), the abstract heap behind it -/
abbrev XK := Value → Option Addr → Hp → Prop
abbrev St := List (Option V)
abbrev VK := V → Hp → Prop
/-- an expression's reading; a test's; an argument list's -/
abbrev TE := St → Hp → VK → Prop
abbrev TT := St → Hp → (Bool → Hp → Prop) → Prop
abbrev TA := St → Hp → (List V → Hp → Prop) → Prop
/-- what is wanted behind a statement -/
structure Ends where
  nx : St → Hp → Prop
  rt : VK
  bk : St → Hp → Prop := fun _ _ => False
  ct : St → Hp → Prop := fun _ _ => False
abbrev TS := Ends → St → Hp → Prop

def EP (X : Cx) (pins : List (Addr × Obj)) (σ : St) (Q : VK) (u : Value) (s' : Shared) : Prop := ∃ v H', Inv X pins σ H' s' ∧ RelV v u ∧ Q v H'
def TP (X : Cx) (pins : List (Addr × Obj)) (σ : St) (Q : Bool → Hp → Prop) (b : Bool) (s' : Shared) : Prop := ∃ H', Inv X pins σ H' s' ∧ Q b H'
def AP (X : Cx) (pins : List (Addr × Obj)) (σ : St) (Q : List V → Hp → Prop) (us : List Value) (s' : Shared) : Prop := ∃ vs H', Inv X pins σ H' s' ∧ Vals vs us ∧ Q vs H'
def SP (X : Cx) (pins : List (Addr × Obj)) (D : Ends) (f : Flow) (s' : Shared) : Prop :=
  match f with
  | .next => ∃ σ' H', Inv X pins σ' H' s' ∧ D.nx σ' H'
  | .brk => ∃ σ' H', Inv X pins σ' H' s' ∧ D.bk σ' H'
  | .cont => ∃ σ' H', Inv X pins σ' H' s' ∧ D.ct σ' H'
  | .ret u => ∃ v σ' H', Inv X pins σ' H' s' ∧ RelV v u ∧ D.rt v H'

def PE (X : Cx) (e : Expr) (t : TE) : Prop :=
  ∀ (pins : List (Addr × Obj)) (s : Shared) (σ : St) (H : Hp) (Q : VK), Inv X pins σ H s → t σ H Q → wpAny (model X.prog X.w) X.A (eval e X.env) (EP X pins σ Q) X.xe s
def PT (X : Cx) (e : Expr) (t : TT) : Prop :=
  ∀ (pins : List (Addr × Obj)) (s : Shared) (σ : St) (H : Hp) (Q : Bool → Hp → Prop), Inv X pins σ H s → t σ H Q → wpAny (model X.prog X.w) X.A (isTrue e X.env (eval e X.env)) (TP X pins σ Q) X.xe s
/-- a test whatever its 'whole' is (and, or) -/
def PW (X : Cx) (e : Expr) (t : TT) : Prop :=
  ∀ (whole : Sem Value) (pins : List (Addr × Obj)) (s : Shared) (σ : St) (H : Hp) (Q : Bool → Hp → Prop), Inv X pins σ H s → t σ H Q → wpAny (model X.prog X.w) X.A (isTrue e X.env whole) (TP X pins σ Q) X.xe s
theorem PW.pt {X : Cx} {e : Expr} {t : TT} (h : PW X e t) : PT X e t := h _
/-- an argument list (no star), from the left -/
def PA (X : Cx) (es : List Expr) (t : TA) : Prop :=
  ∀ (pos : Pos) (pins : List (Addr × Obj)) (s : Shared) (σ : St) (H : Hp) (Q : List V → Hp → Prop), Inv X pins σ H s → t σ H Q → wpAny (model X.prog X.w) X.A (spliced (backTo pos (starEach es X.env))) (AP X pins σ Q) X.xe s
def PS (X : Cx) (st : Stmt) (t : TS) : Prop :=
  ∀ (pins : List (Addr × Obj)) (s : Shared) (σ : St) (H : Hp) (D : Ends), Inv X pins σ H s → t D σ H → wpAny (model X.prog X.w) X.A (exec st X.env) (SP X pins D) X.xe s
def PSs (X : Cx) (st : List Stmt) (t : TS) : Prop :=
  ∀ (pins : List (Addr × Obj)) (s : Shared) (σ : St) (H : Hp) (D : Ends), Inv X pins σ H s → t D σ H → wpAny (model X.prog X.w) X.A (execs st X.env) (SP X pins D) X.xe s
/-- weaken the end -/
theorem thn {α : Type} {t : Sem α} {Q Q' : α → Shared → Prop} {M : Model} {A : Around} {E : Value → Shared → Prop} {s : Shared} (h : wpAny M A t Q E s) (hQ : ∀ a s, Q a s → Q' a s) : wpAny M A t Q' E s := wpAny_mono h hQ fun _ _ x => x
end L2

namespace L2
open PySem PySem.Spec PyProof.Rows
section
variable {X : Cx}

/-- two expressions in a row -/
theorem bin {a b : Expr} {ta tb : TE} (ha : PE X a ta) (hb : PE X b tb) {pins : List (Addr × Obj)} {s : Shared} {σ : St} {H : Hp} {R : V → V → Hp → Prop} (I : Inv X pins σ H s) (h : ta σ H fun x H1 => tb σ H1 fun y H2 => R x y H2)
    {α : Type} {Q : α → Shared → Prop} {f : Value → Value → Sem α}
    (hf : ∀ v u s2 x y H2, Inv X pins σ H2 s2 → RelV x v → RelV y u → R x y H2 → wpAny (model X.prog X.w) X.A (f v u) Q X.xe s2) :
    wpAny (model X.prog X.w) X.A (eval a X.env) (fun v s₁ => wpAny (model X.prog X.w) X.A (eval b X.env) (fun u s₂ => wpAny (model X.prog X.w) X.A (f v u) Q X.xe s₂) X.xe s₁) X.xe s := by
  refine thn (ha pins s σ H _ I h) fun v s1 ⟨x, H1, I1, r1, q1⟩ => ?_
  refine thn (hb pins s1 σ H1 _ I1 q1) fun u s2 ⟨y, H2, I2, r2, q2⟩ => ?_
  exact hf v u s2 x y H2 I2 r1 r2 q2

/-! ### names and constants -/
def tVar (i : Nat) : TE := fun σ H Q => ∃ v, σ[i]? = some (some v) ∧ Q v H
def tC (v : V) : TE := fun _ H Q => Q v H
theorem pe_var {i : Nat} {x : Str} {pos : Pos} (hN : X.N[i]? = some x) (hv : Vis X.env.scope x) (hd : (x == ("__debug__" : Str)) = false := by decide) (hcd : (x == ("__classdict__" : Str)) = false := by decide) : PE X (.Name x pos) (tVar i) := by
  intro pins s σ H Q I h
  obtain ⟨v, e, h⟩ := h
  obtain ⟨m, hn, hl⟩ := I.loc
  obtain ⟨u, r, l⟩ := hl i x v hN e hv
  have fin : EP X pins σ Q u s := ⟨v, H, I, r, h⟩
  rcases l with ⟨hk, hm⟩ | ⟨hk, c, hc, hcell⟩
  · exact wpAny_Name (wpAny_loadName_local I.ok.kind hk hn hm fin) hd
  · rcases hk with hk | hk
    · exact wpAny_Name (wpAny_loadName_cell I.ok.kind hk hc hcell fin) hd
    · exact wpAny_Name (wpAny_loadName_free I.ok.kind hk hc hcell fin hcd) hd
theorem pe_int {i j pos} : PE X (.Constant (.int i) j pos) (tC (.int i)) := fun _ _ _ H _ I h => wpAny_Constant_int ⟨.int i, H, I.tok _, ⟨_, rfl⟩, h⟩
theorem pe_bl {b j pos} : PE X (.Constant (.bool b) j pos) (tC (.bl b)) := fun _ _ _ H _ I h => Constant_bool ⟨.bl b, H, I, rfl, h⟩
theorem pe_non {j pos} : PE X (.Constant .none j pos) (tC .non) := fun _ _ _ H _ I h => Constant_none ⟨.non, H, I, rfl, h⟩
theorem pe_str {x j pos} : PE X (.Constant (.str x) j pos) (tC (.str x)) := fun _ _ _ H _ I h => Calls.Constant_str ⟨.str x, H, I.tok _, ⟨_, rfl⟩, h⟩

/-- a global name of the def -/
def Gl (X : Cx) (x : Str) : Prop := X.env.kindOf x = some .globalImplicit
theorem ld_glob {E : Value → Shared → Prop} {pins : List (Addr × Obj)} {s : Shared} {σ : St} {H : Hp} {x : Str} {u : Value} {pos : Pos} {Q : Value → Shared → Prop} (I : Inv X pins σ H s) (hg : Gl X x) (hm : X.mg x = some u) (h : Q u s)
    (hd : (x == ("__debug__" : Str)) = false := by decide) : wpAny (model X.prog X.w) X.A (eval (.Name x pos) X.env) Q E s :=
  Calls.Name_function_global I.ok.kind hg (Calls.loadGlobal_global (by rw [I.ok.glob]; exact I.mod.glob.keeps I.bk) hm h) hd
theorem ld_blt {E : Value → Shared → Prop} {pins : List (Addr × Obj)} {s : Shared} {σ : St} {H : Hp} {x : Str} {u : Value} {pos : Pos} {Q : Value → Shared → Prop} (I : Inv X pins σ H s) (hg : Gl X x) (hm : X.mg x = none) (hv : bootBuiltins x = some u) (h : Q u s)
    (hn : x ≠ "__name__" := by decide) (hd : (x == ("__debug__" : Str)) = false := by decide) : wpAny (model X.prog X.w) X.A (eval (.Name x pos) X.env) Q E s := by
  obtain ⟨mb, h1, h2⟩ := I.mod.blt
  exact Calls.Name_function_global I.ok.kind hg (Calls.loadGlobal_builtin (by rw [I.ok.glob]; exact I.mod.glob.keeps I.bk) hm (by rw [I.ok.blt]; exact h1.keeps I.bk) ((h2 x hn).trans hv) h) hd
theorem pe_bltn {x : Str} {v : V} {u : Value} {pos : Pos} (hg : Gl X x) (hm : X.mg x = none) (hv : bootBuiltins x = some u) (r : RelV v u) (hn : x ≠ "__name__" := by decide) (hd : (x == ("__debug__" : Str)) = false := by decide) : PE X (.Name x pos) (tC v) :=
  fun _ _ _ H _ I h => ld_blt I hg hm hv ⟨v, H, I, r, h⟩ hn hd

/-! ### arithmetic -/
variable {a b : Expr} {ta tb : TE} {pos : Pos}
/-! ### comparisons -/
def PC (X : Cx) (op : CmpOp) (a b : Expr) (t : TE) : Prop :=
  ∀ (pins : List (Addr × Obj)) (s : Shared) (σ : St) (H : Hp) (Q : VK), Inv X pins σ H s → t σ H Q →
    wpAny (model X.prog X.w) X.A (eval a X.env) (fun v s₁ => wpAny (model X.prog X.w) X.A (eval b X.env) (fun u s₂ => wpAny (model X.prog X.w) X.A (compareOp op v u) (EP X pins σ Q) X.xe s₂) X.xe s₁) X.xe s
/-- a comparison as a value, as a test -/
def tB (t : TE) : TT := fun σ H Q => t σ H fun x H1 => ∃ c, x = .bl c ∧ Q c H1
theorem pt_cmp {op : CmpOp} {t : TE} (h : PC X op a b t) (h1 : behindInMarks op b = false := by first | exact nobehind _ (by decide) (by decide) | rfl) : PT X (.Compare a [op] [b] pos) (tB t) := by
  intro pins s σ H Q I hw
  refine wpAny_isTrue_Compare1 (thn (h pins s σ H _ I hw) fun v s1 h1 => thn h1 fun u s2 h2 => thn h2 fun c s3 ⟨x, H1, I1, r1, q1⟩ => ?_) h1
  obtain ⟨d, rfl, q⟩ := q1
  cases r1
  exact wpAny_truthy_bool ⟨H1, I1, q⟩
/-- an expression whose value is a bool, as a test -/
theorem pt_val {e : Expr} {t : TE} (h : PE X e t) (he : ∀ whole, isTrue e X.env whole = (do let v ← whole; standAt e.pos; holding [v] (truthy v)) := by intro _; rfl) : PT X e (tB t) := by
  intro pins s σ H Q I hw
  refine isTrue_plain (thn (h pins s σ H _ I hw) fun v s1 ⟨x, H1, I1, r1, q1⟩ => ?_) (he _)
  obtain ⟨d, rfl, q⟩ := q1
  cases r1
  exact wpAny_truthy_bool ⟨H1, I1, q⟩

/-! ### and, or, not -/
variable {tA tB' : TT} {rest : List Expr}
def tAnd (t u : TT) : TT := fun σ H Q => t σ H fun c H1 => if c = true then u σ H1 Q else Q false H1
def tOr (t u : TT) : TT := fun σ H Q => t σ H fun c H1 => if c = true then Q true H1 else u σ H1 Q
def tNot (t : TT) : TT := fun σ H Q => t σ H fun c H1 => Q (!c) H1
theorem pw_and1 (ha : PT X a tA) : PW X (.BoolOp .And [a] pos) tA := by
  intro wh pins s σ H Q I h
  refine isTrue_and (thn (ha pins s σ H Q I h) fun c s1 e => ?_)
  cases c with
  | true => exact isTrue_and_nil e
  | false => exact e
theorem pw_or1 (ha : PT X a tA) : PW X (.BoolOp .Or [a] pos) tA := by
  intro wh pins s σ H Q I h
  refine isTrue_or (thn (ha pins s σ H Q I h) fun c s1 e => ?_)
  cases c with
  | false => exact isTrue_or_nil e
  | true => exact e
theorem pw_and (ha : PT X a tA) (hb : PW X (.BoolOp .And (b :: rest) pos) tB') : PW X (.BoolOp .And (a :: b :: rest) pos) (tAnd tA tB') := by
  intro wh pins s σ H Q I h
  refine isTrue_and (thn (ha pins s σ H _ I h) fun c s1 ⟨H1, I1, q1⟩ => ?_)
  cases c with
  | true => exact hb wh pins s1 σ H1 Q I1 q1
  | false => exact ⟨H1, I1, q1⟩
theorem pw_or (ha : PT X a tA) (hb : PW X (.BoolOp .Or (b :: rest) pos) tB') : PW X (.BoolOp .Or (a :: b :: rest) pos) (tOr tA tB') := by
  intro wh pins s σ H Q I h
  refine isTrue_or (thn (ha pins s σ H _ I h) fun c s1 ⟨H1, I1, q1⟩ => ?_)
  cases c with
  | true => exact ⟨H1, I1, q1⟩
  | false => exact hb wh pins s1 σ H1 Q I1 q1
theorem pt_not (ha : PT X a tA) : PT X (.UnaryOp .Not a pos) (tNot tA) := by
  intro pins s σ H Q I h
  exact isTrue_not (ha pins s σ H (fun c H1 => Q (!c) H1) I h)
/-- .. as values (bools) -/
def tAndV (ta tb : TE) : TE := fun σ H Q => ta σ H fun x H1 => ∃ c, x = .bl c ∧ if c = true then tb σ H1 Q else Q (.bl false) H1
def tNotV (ta : TE) : TE := fun σ H Q => ta σ H fun x H1 => ∃ c, x = .bl c ∧ Q (.bl (!c)) H1
theorem pe_one {op} {t : TE} (h : PE X a t) : PE X (.BoolOp op [a] pos) t := fun pins s σ H Q I hw => BoolOp_one (h pins s σ H Q I hw)
theorem pe_and (ha : PE X a ta) (hb : PE X (.BoolOp .And (b :: rest) pos) tb) : PE X (.BoolOp .And (a :: b :: rest) pos) (tAndV ta tb) := by
  intro pins s σ H Q I h
  refine BoolOp_and (thn (ha pins s σ H _ I h) fun v s1 ⟨x, H1, I1, r1, q1⟩ => ?_)
  obtain ⟨c, rfl, q1⟩ := q1
  cases r1
  refine wpAny_truthy_bool ?_
  cases c with
  | true => exact hb pins s1 σ H1 Q I1 q1
  | false => exact ⟨.bl false, H1, I1, rfl, q1⟩
theorem pe_not (ha : PE X a ta) : PE X (.UnaryOp .Not a pos) (tNotV ta) := by
  intro pins s σ H Q I h
  refine UnaryOp_ (thn (ha pins s σ H _ I h) fun v s1 ⟨x, H1, I1, r1, q1⟩ => ?_)
  obtain ⟨c, rfl, q1⟩ := q1
  cases r1
  exact not_of (wpAny_truthy_bool ⟨.bl (!c), H1, I1, rfl, q1⟩)
end
end L2

namespace L2
open PySem PySem.Spec PyProof.Rows

/-! ### a list, a tuple that is read: tracked, frozen, or an object of the module -/
def SqL (K : PySem.W.Frag) (H : Hp) (a : Addr) (xs : List V) : Prop :=
  Rd H a (.lst xs) ∨
    ∃ (o : Obj) (its : Array Value) (n : Nat), K.lookup a = some o ∧ o.cls = .type "list" ∧ o.dict = none ∧ o.data = .seq its n ∧ its.size ≤ sizeLine ∧ Vals xs its.toList
def SqT (K : PySem.W.Frag) (H : Hp) (a : Addr) (xs : List V) : Prop :=
  Rd H a (.tup xs) ∨
    ∃ (o : Obj) (its : Array Value) (n : Nat), K.lookup a = some o ∧ o.cls = .type "tuple" ∧ o.data = .seq its n ∧ its.size ≤ sizeLine ∧ Vals xs its.toList
def absV : Value → Option V
  | .none => some .non
  | .bool b => some (.bl b)
  | .int i _ => some (.int i)
  | .str x _ => some (.str x)
  | .bytes b _ => some (.byt b)
  | .float b _ => some (.flt b)
  | .ref a => some (.ref a)
  | .type n => some (.ty n)
  | _ => none
theorem RelV.abs {x : V} {u : Value} (r : RelV x u) : absV u = some x := by
  cases x with
  | non => cases r; rfl
  | bl _ => cases r; rfl
  | int _ => obtain ⟨t, rfl⟩ := r; rfl
  | str _ => obtain ⟨t, rfl⟩ := r; rfl
  | byt _ => obtain ⟨t, rfl⟩ := r; rfl
  | flt _ => obtain ⟨t, rfl⟩ := r; rfl
  | ref _ => cases r; rfl
  | ty _ => cases r; rfl
theorem RelV.inj {x y : V} {u : Value} (r : RelV x u) (q : RelV y u) : x = y := Option.some.inj (r.abs.symm.trans q.abs)
theorem Vals.inj : ∀ {xs ys : List V} {us : List Value}, Vals xs us → Vals ys us → xs = ys
  | _, _, _, .nil, .nil => rfl
  | _, _, _, .cons r t, .cons r' t' => by rw [r.inj r', Vals.inj t t']
section
variable {X : Cx} {pins : List (Addr × Obj)} {σ : St} {H : Hp} {s : Shared} {a : Addr} {xs ys : List V}
theorem SqL.of {K : PySem.W.Frag} (h : H a = some (.lst xs)) : SqL K H a xs := .inl (.inl h)
theorem SqT.of {K : PySem.W.Frag} (h : H a = some (.tup xs)) : SqT K H a xs := .inl (.inl h)
theorem Inv.list (I : Inv X pins σ H s) (h : SqL X.K H a xs) : ∃ its : List Value, Vals xs its ∧ PlainL s.heap a its.toArray ∧ xs.length ≤ sizeLine := by
  rcases h with h | ⟨o, its, n, hk, hc, hd, hs, hz, r⟩
  · obtain ⟨z, its, n, r, e⟩ := h.ok I.hok
    exact ⟨its, r, ⟨_, n, e, rfl, rfl, rfl⟩, z⟩
  · refine ⟨its.toList, r, ⟨o, n, I.kIn a o hk, hc, hd, by simpa using hs⟩, ?_⟩
    have e := r.length
    simp only [Array.length_toList] at e
    omega
theorem Inv.tuple (I : Inv X pins σ H s) (h : SqT X.K H a xs) : ∃ its : List Value, Vals xs its ∧ IsTup s.heap a its.toArray ∧ xs.length ≤ sizeLine := by
  rcases h with h | ⟨o, its, n, hk, hc, hs, hz, r⟩
  · obtain ⟨z, its, r, p⟩ := h.ok I.hok
    exact ⟨its, r, p, z⟩
  · refine ⟨its.toList, r, ⟨o, I.kIn a o hk, hc, n, by simpa using hs⟩, ?_⟩
    have e := r.length
    simp only [Array.length_toList] at e
    omega
theorem Inv.list_inj (I : Inv X pins σ H s) (h : SqL X.K H a xs) (h' : SqL X.K H a ys) : xs = ys := by
  obtain ⟨its, r, ⟨o, n, e, _, _, d⟩, _⟩ := I.list h
  obtain ⟨its', r', ⟨o', n', e', _, _, d'⟩, _⟩ := I.list h'
  rw [e] at e'; cases e'
  rw [d] at d'
  injection d' with d1 _
  have : its = its' := by simpa using congrArg Array.toList d1
  subst this
  exact r.inj r'
end

/-! ### another wish about exceptions -/
abbrev Cx.wish (X : Cx) (E : Value → Shared → Prop) : Cx := { X with xe := E }
/-- no exception leaves -/
abbrev Cx.nox (X : Cx) : Cx := X.wish fun _ _ => False
theorem Cx.Ok.wish {X : Cx} (ok : X.Ok) (E : Value → Shared → Prop) : (X.wish E).Ok :=
  ⟨ok.mod, ok.kind, ok.glob, ok.blt, ok.above, ok.inj, ok.has, ok.cab, ok.hd, ok.frames, ok.stk, ok.exf, ok.bs, ok.bsz, ok.noex, ok.exfs, ok.funs, ok.frf⟩
theorem Cx.Ok.unwish {X : Cx} {E : Value → Shared → Prop} (ok : (X.wish E).Ok) : X.Ok :=
  ⟨ok.mod, ok.kind, ok.glob, ok.blt, ok.above, ok.inj, ok.has, ok.cab, ok.hd, ok.frames, ok.stk, ok.exf, ok.bs, ok.bsz, ok.noex, ok.exfs, ok.funs, ok.frf⟩
section
variable {X : Cx} {pins : List (Addr × Obj)} {σ : St} {H : Hp} {s : Shared} {E : Value → Shared → Prop}
theorem Inv.wish (I : Inv X pins σ H s) (E : Value → Shared → Prop) : Inv (X.wish E) pins σ H s := ⟨I.ok.wish E, I.os, I.bare, I.base, I.loc, I.cell, I.free, I.freeC, I.pin, I.hok, I.len⟩
theorem Inv.unwish (I : Inv (X.wish E) pins σ H s) : Inv X pins σ H s := ⟨I.ok.unwish, I.os, I.bare, I.base, I.loc, I.cell, I.free, I.freeC, I.pin, I.hok, I.len⟩
theorem SP.unwish {D : Ends} {f : Flow} {s' : Shared} (h : SP (X.wish E) pins D f s') : SP X pins D f s' := by
  cases f with
  | next => obtain ⟨σ', H', I, q⟩ := h; exact ⟨σ', H', I.unwish, q⟩
  | brk => obtain ⟨σ', H', I, q⟩ := h; exact ⟨σ', H', I.unwish, q⟩
  | cont => obtain ⟨σ', H', I, q⟩ := h; exact ⟨σ', H', I.unwish, q⟩
  | ret u => obtain ⟨v, σ', H', I, r, q⟩ := h; exact ⟨v, σ', H', I.unwish, r, q⟩
theorem PSs.nox {st : List Stmt} {t : TS} (h : PSs X.nox st t) : PSs X st t := fun pins s σ H D I hw =>
  wpAny_mono (h pins s σ H D (I.wish _) hw) (fun _ _ q => q.unwish) fun _ _ z => False.elim z
end

/-! ### blocks and small statements -/
section
variable {X : Cx} {st : Stmt} {rest : List Stmt} {t u : TS} {e : Expr} {te : TE} {pos : Pos}
def tNext : TS := fun D σ H => D.nx σ H
def tSeq (t u : TS) : TS := fun D σ H => t { D with nx := u D } σ H
theorem pss_nil : PSs X [] tNext := fun _ _ σ H _ I h => wpAny_execs_nil ⟨σ, H, I, h⟩
theorem pss_cons (h1 : PS X st t) (h2 : PSs X rest u) : PSs X (st :: rest) (tSeq t u) := by
  intro pins s σ H D I h
  refine wpAny_execs_cons (thn (h1 pins s σ H { D with nx := u D } I h) fun f s1 q => ?_)
  cases f with
  | next =>
    obtain ⟨σ', H', I', q⟩ := q
    exact h2 pins s1 σ' H' D I' q
  | ret v => exact q
  | brk => exact q
  | cont => exact q
theorem pss_one (h1 : PS X st t) : PSs X [st] t := by
  intro pins s σ H D I h
  refine wpAny_execs_cons (thn (h1 pins s σ H D I h) fun f s1 q => ?_)
  cases f with
  | next => exact wpAny_execs_nil q
  | ret v => exact q
  | brk => exact q
  | cont => exact q
/-- in a def's body nothing is shown -/
theorem Inv.quiet {pins : List (Addr × Obj)} {σ : St} {H : Hp} {s : Shared} (I : Inv X pins σ H s) : interactive X.env = false := by simp [interactive, I.ok.kind]
/-- an expression whose value is dropped -/
def tDrop (te : TE) : TS := fun D σ H => te σ H fun _ H1 => D.nx σ H1
theorem ps_expr (he : PE X e te) (hs : swapsWith e none pos.line X.env = pure false := by rfl) : PS X (.Expr e pos) (tDrop te) := by
  intro pins s σ H D I h
  exact wpAny_Expr_any (thn (he pins s σ H _ I h) fun v s1 ⟨x, H1, I1, r1, q1⟩ => ⟨σ, H1, I1, q1⟩) I.quiet hs
def tRet (te : TE) : TS := fun D σ H => te σ H D.rt
theorem ps_ret (he : PE X e te) : PS X (.Return (some e) pos) (tRet te) := by
  intro pins s σ H D I h
  exact wpAny_Return_some (thn (he pins s σ H _ I h) fun v s1 ⟨x, H1, I1, r1, q1⟩ => ⟨x, σ, H1, I1, r1, q1⟩)
def tIfS (c : TT) (t u : TS) : TS := fun D σ H => c σ H fun b H1 => if b = true then t D σ H1 else u D σ H1
theorem ps_if {c : Expr} {a b : List Stmt} {tc : TT} (hc : PT X c tc) (ha : PSs X a t) (hb : PSs X b u) : PS X (.If c a b pos) (tIfS tc t u) := by
  intro pins s σ H D I h
  refine wpAny_If (thn (hc pins s σ H _ I h) fun d s1 ⟨H1, I1, q1⟩ => ?_)
  cases d with
  | true => exact ha pins s1 σ H1 D I1 q1
  | false => exact hb pins s1 σ H1 D I1 q1
end

/-! ### targets -/
abbrev TG := V → St → Hp → (St → Hp → Prop) → Prop
abbrev TGs := List V → St → Hp → (St → Hp → Prop) → Prop
def PG (X : Cx) (target : Expr) (t : TG) : Prop :=
  ∀ (pins : List (Addr × Obj)) (s : Shared) (σ : St) (H : Hp) (v : V) (u : Value) (Q : St → Hp → Prop), Inv X pins σ H s → RelV v u → t v σ H Q →
    wpAny (model X.prog X.w) X.A (assign target X.env u) (fun _ s' => ∃ σ' H', Inv X pins σ' H' s' ∧ Q σ' H') X.xe s
/-- several targets, one after another -/
def PGs (X : Cx) (ts : List Expr) (t : TGs) : Prop :=
  ∀ (pins : List (Addr × Obj)) (s : Shared) (σ : St) (H : Hp) (vs : List V) (us : List Value) (Q : St → Hp → Prop), Inv X pins σ H s → Vals vs us → t vs σ H Q →
    wpAny (model X.prog X.w) X.A (assignInOrder ((assignEach ts X.env).map (·.2)) us) (fun _ s' => ∃ σ' H', Inv X pins σ' H' s' ∧ Q σ' H') X.xe s
section
variable {X : Cx} {pos : Pos}
def gName (i : Nat) : TG := fun v σ H Q => Q (σ.set i (some v)) H
theorem pg_name {i : Nat} {x : Str} (hN : X.N.Nodup) (hi : X.N[i]? = some x) (hx : Loc X.env.scope x) (hf : X.fn x = true ∨ X.env.scope.names.lookup x = some .local := by first | exact .inl rfl | exact .inr rfl | assumption) : PG X (.Name x pos) (gName i) := by
  intro pins s σ H v u Q I r h
  exact wpAny_assign_Name (store_ok I hN hi hx r (fun s' I' => ⟨_, H, I', h⟩) hf)
def gNil : TGs := fun vs σ H Q => vs = [] ∧ Q σ H
def gCons (t : TG) (u : TGs) : TGs := fun vs σ H Q => ∃ v r, vs = v :: r ∧ t v σ H fun σ' H' => u r σ' H' Q
theorem pgs_nil : PGs X [] gNil := by
  intro pins s σ H vs us Q I r h
  obtain ⟨e, h⟩ := h
  subst e
  cases r
  exact assignInOrder_nil ⟨σ, H, I, h⟩
theorem pgs_cons {e : Expr} {es : List Expr} {t : TG} {u : TGs} (h1 : PG X e t) (h2 : PGs X es u)
    (hs : (assignEach (e :: es) X.env).map (·.2) = assign e X.env :: (assignEach es X.env).map (·.2) := by rfl) : PGs X (e :: es) (gCons t u) := by
  intro pins s σ H vs us Q I r h
  obtain ⟨v, vr, e1, h⟩ := h
  subst e1
  cases r with
  | cons r rr =>
    rw [hs]
    refine assignInOrder_cons (thn (h1 pins s σ H _ _ _ I r h) fun _ s1 ⟨σ1, H1, I1, q1⟩ => ?_)
    exact h2 pins s1 σ1 H1 _ _ Q I1 rr q1
/-- (a, b, ..) = a tuple of that length -/
def gTup (K : PySem.W.Frag) (n : Nat) (t : TGs) : TG := fun v σ H Q => ∃ a xs, v = .ref a ∧ SqT K H a xs ∧ xs.length = n ∧ t xs σ H Q
theorem pg_tup {es : List Expr} {k : Nat} {t : TGs} {n : Nat} (hc : X.calm = true) (h : PGs X es t)
    (hn : (assignEach es X.env).length = n := by rfl) (hst : (assignEach es X.env).findIdx? (·.1) = none := by rfl) : PG X (.Tuple es k pos) (gTup X.K n t) := by
  intro pins s σ H v u Q I r hw
  obtain ⟨a, xs, e1, hq, hl, hw⟩ := hw
  subst e1
  cases r
  obtain ⟨its, rv, ht, hz⟩ := I.tuple hq
  refine assign_Tuple_tuple (I.ok.hd hc) ht (by simp [hn, ← hl, rv.length]) hst fun h' hx => ?_
  have I1 : Inv X pins σ H { s with heap := h' } := I.kept (t' := s.toks) fun b o e => hx b o (Nat.ne_of_lt (Heap.lt_size e)) e
  exact h pins _ σ H xs _ Q I1 (by simpa using rv) hw
/-- target = value -/
def tAsg (te : TE) (g : TG) : TS := fun D σ H => te σ H fun x H1 => g x σ H1 D.nx
theorem ps_asg {tg e : Expr} {te : TE} {g : TG} (he : PE X e te) (hg : PG X tg g) (hs : swapsWithSole [tg] e pos.line X.env = pure false := by rfl) (hw : swappedStores [tg] e X.env = pure none := by rfl)
    (h1 : (assignEach [tg] X.env).map (·.2) = [assign tg X.env] := by rfl) : PS X (.Assign [tg] e pos) (tAsg te g) := by
  intro pins s σ H D I h
  refine wpAny_Assign_stores (thn (he pins s σ H _ I h) fun v s1 ⟨x, H1, I1, r1, q1⟩ => ?_) hs hw
  rw [h1]
  exact thn (hg pins s1 σ H1 x v _ I1 r1 q1) fun _ s2 q => q
/-- name = value -/
theorem ps_set {i : Nat} {x : Str} {e : Expr} {te : TE} {pos' : Pos} (hN : X.N.Nodup) (hi : X.N[i]? = some x) (hx : Loc X.env.scope x) (he : PE X e te) (hs : swapsWith e (some (.Name x pos')) pos.line X.env = pure false := by rfl) (hf : X.fn x = true ∨ X.env.scope.names.lookup x = some .local := by first | exact .inl rfl | exact .inr rfl | assumption) :
    PS X (.Assign [.Name x pos'] e pos) (tAsg te (gName i)) := by
  intro pins s σ H D I h
  refine wpAny_Assign_Name (thn (he pins s σ H _ I h) fun v s1 ⟨y, H1, I1, r1, q1⟩ => ?_) hs
  exact store_ok I1 hN hi hx r1 (fun s2 I2 => ⟨_, H1, I2, q1⟩) hf
end

/-! ### while -/
section
variable {X : Cx} {pos : Pos}
/-- the invariant W with its measure -/
def tWhile (c : TT) (tb : TS) : TS := fun D σ H => ∃ W : Nat → St → Hp → Prop, (∃ m, W m σ H) ∧ ∀ m σ H, W m σ H →
  c σ H fun b H1 => if b = true then ∃ N : St → Hp → Prop, (∀ σ' H', N σ' H' → ∃ m', m' < m ∧ W m' σ' H') ∧ tb { D with nx := N, ct := N, bk := D.nx } σ H1 else D.nx σ H1
theorem ps_while {c : Expr} {body : List Stmt} {tc : TT} {tb : TS} (hp : PassesOwn (model X.prog X.w) X.A X.env X.xe) (hc : PT X c tc) (hb : PSs X body tb) : PS X (.While c body [] pos) (tWhile tc tb) := by
  intro pins s σ H D I h
  obtain ⟨W, ⟨m0, w0⟩, turn⟩ := h
  refine wpAny_While (codeAny_whileLoop (fun n s' => ∃ σ' H', Inv X pins σ' H' s' ∧ W n σ' H') ?_ m0 ⟨σ, H, I, w0⟩)
  rintro n s1 ⟨σ1, H1, I1, w1⟩
  refine wpAny_passesOwn hp (thn (hc pins s1 σ1 H1 _ I1 (turn n σ1 H1 w1)) fun b s2 ⟨H2, I2, q2⟩ => ?_)
  cases b with
  | true =>
    obtain ⟨N, hN, q2⟩ := q2
    rw [if_pos rfl]
    refine wpAny_passesOwn hp (thn (hb pins s2 σ1 H2 _ I2 q2) fun f s3 q3 => ?_)
    cases f with
    | next =>
      obtain ⟨σ3, H3, I3, n3⟩ := q3
      obtain ⟨m', hm, w3⟩ := hN σ3 H3 n3
      exact ⟨m', hm, σ3, H3, I3, w3⟩
    | cont =>
      obtain ⟨σ3, H3, I3, n3⟩ := q3
      obtain ⟨m', hm, w3⟩ := hN σ3 H3 n3
      exact ⟨m', hm, σ3, H3, I3, w3⟩
    | brk => exact q3
    | ret v => exact q3
  | false =>
    rw [if_neg Bool.false_ne_true]
    exact wpAny_execs_nil ⟨σ1, H2, I2, q2⟩
end

/-! ### what a loop or a comprehension walks -/
/-- at turn i: it yields x (the heap may grow), or it stops -/
structure It where
  go : Nat → Hp → Prop
  yld : Nat → Hp → V → Hp → Prop
  stop : Nat → Hp → Prop
/-- the iterator's own objects may turn: they are not the frame's, not pinned, younger than the entry (or a comprehension's own) -/
def FpOk (X : Cx) (pins : List (Addr × Obj)) (H : Hp) (b : Addr) : Prop :=
  H b = none ∧ b ≠ X.env.locals ∧ b ∉ X.fs ∧ (b ∈ X.ex ∨ X.s₀.heap.objs.size ≤ b) ∧ (∀ x c, X.env.cells.lookup x = some c → c ≠ b) ∧ ∀ p ∈ X.pn ++ pins, p.1 ≠ b
theorem Inv.fpOk {X : Cx} {pins : List (Addr × Obj)} {σ : St} {H H' : Hp} {s : Shared} {b : Addr} (I : Inv X pins σ H s) (hb : s.heap.objs.size ≤ b) (hn : H' b = none) : FpOk X pins H' b := by
  refine ⟨hn, Nat.ne_of_gt (Nat.lt_of_lt_of_le I.lt hb), I.nofs hb, .inr (Nat.le_trans I.sz hb), fun x c e z => ?_, fun p hp z => ?_⟩
  · obtain ⟨v, q⟩ := I.cell x c e
    exact absurd (Nat.lt_of_lt_of_le q.lt (by rw [z]; exact hb)) (Nat.lt_irrefl _)
  · exact absurd (Nat.lt_of_lt_of_le (Heap.lt_size (I.pin p hp).1) (by rw [z]; exact hb)) (Nat.lt_irrefl _)
structure Turn (P : Program) (w : World) (K : PySem.W.Frag) (tg : Expr) (J : It) (fp : List Addr) (it : Addr) (tn : Nat → Heap → Prop) : Prop where
  mem : it ∈ fp
  obj : ∀ i h, tn i h → ∀ b ∈ fp, ∃ o, h.get? b = some o ∧ ∀ v, o.data ≠ .cell v
  keep : ∀ i h h', tn i h → (∀ b ∈ fp, ∀ o, h.get? b = some o → h'.get? b = some o) → tn i h'
  item : ∀ (X : Cx), X.prog = P → X.w = w → X.K = K → X.calm = true → ∀ (i : Nat) (pins : List (Addr × Obj)) (s : Shared) (σ : St) (H : Hp) (E : Value → Shared → Prop), Inv X pins σ H s → (∀ b ∈ fp, FpOk X pins H b) → tn i s.heap → J.go i H →
    wpAny (model P w) X.A (pyNext (.ref it)) (fun r s1 => ∃ u, r = some u ∧
      wpAny (model P w) X.A (letOwnedTupleGo tg (.ref it) u) (fun _ s2 => ∃ x H', Inv X pins σ H' s2 ∧ RelV x u ∧ J.yld i H x H' ∧ tn (i + 1) s2.heap ∧ ∀ b ∈ fp, H' b = none) E s1) E s
  done : ∀ (X : Cx), X.prog = P → X.w = w → X.K = K → X.calm = true → ∀ (i : Nat) (pins : List (Addr × Obj)) (s : Shared) (σ : St) (H : Hp) (E : Value → Shared → Prop), Inv X pins σ H s → (∀ b ∈ fp, FpOk X pins H b) → tn i s.heap → J.stop i H →
    wpAny (model P w) X.A (pyNext (.ref it)) (fun r s1 => r = none ∧ Inv X pins σ H s1) E s
  self : ∀ (A : Around) (i : Nat) (s : Shared) (Q : Value → Shared → Prop) (E : Value → Shared → Prop), tn i s.heap → Q (.ref it) s → wpAny (model P w) A (pyIter (.ref it)) Q E s
abbrev TI := St → Hp → (It → Hp → Prop) → Prop
/-- an iterator has come -/
def PIE (X : Cx) (pins : List (Addr × Obj)) (σ : St) (tg : Expr) (R : It → Hp → Prop) (itv : Value) (s2 : Shared) : Prop :=
  ∃ (it : Addr) (fp : List Addr) (tn : Nat → Heap → Prop) (J : It) (H' : Hp), itv = .ref it ∧ Inv X pins σ H' s2 ∧ Turn X.prog X.w X.K tg J fp it tn ∧ tn 0 s2.heap ∧ (∀ b ∈ fp, FpOk X pins H' b) ∧ R J H'
def PI (X : Cx) (tg iter : Expr) (wi : TI) : Prop :=
  ∀ (pins : List (Addr × Obj)) (s : Shared) (σ : St) (H : Hp) (R : It → Hp → Prop), Inv X pins σ H s → wi σ H R →
    wpAny (model X.prog X.w) X.A (eval iter X.env) (fun v s1 => wpAny (model X.prog X.w) X.A (pyIter v) (PIE X pins σ tg R) X.xe s1) X.xe s

/-- the step ahead of the store is nothing for an iterator that keeps no tuple -/
theorem go_of {M : Model} {A : Around} {E : Value → Shared → Prop} {s : Shared} {tg : Expr} {it : Addr} {u : Value} {o : Obj} {n : String} {vs : Array Value} {Q : Unit → Shared → Prop} (ho : s.heap.get? it = some o) (hc : o.cls = .type n) (hd : o.data = .fields vs)
    (hn : ["enumerate", "zip", "dict_itemiterator", "dict_reverseitemiterator", "odict_iterator", "itertools.zip_longest", "itertools.pairwise"].contains n = false) (hQ : Q () s) : wpAny M A (letOwnedTupleGo tg (.ref it) u) Q E s := by
  unfold letOwnedTupleGo
  cases tg <;> first
    | exact wpAny_pure hQ
    | (cases u <;> first
        | exact wpAny_pure hQ
        | (refine wpAny_bind (wpAny_load ho ?_)
           rw [hc, hd]
           show wpAny M A (if (["enumerate", "zip", "dict_itemiterator", "dict_reverseitemiterator", "odict_iterator", "itertools.zip_longest", "itertools.pairwise"].contains n && vs[0]? == some (rawInt _)) = true then _ else _) Q E s
           rw [if_neg (by intro h; rw [hn, Bool.false_and] at h; cases h)]
           exact wpAny_pure hQ))

/-- the list at a, as it stands at each turn (a loop may append to it) -/
def Itl (K : PySem.W.Frag) (a : Addr) : It :=
  ⟨fun i H => ∃ xs x, SqL K H a xs ∧ xs[i]? = some x, fun i H x H' => H' = H ∧ ∀ xs, SqL K H a xs → xs[i]? = some x, fun i H => ∃ xs, SqL K H a xs ∧ xs.length ≤ i⟩
/-- lo, lo + 1, .. (n of them) -/
def Itr (lo : Int) (n : Nat) : It := ⟨fun i _ => i < n, fun i H x H' => H' = H ∧ x = .int (lo + i), fun i _ => n ≤ i⟩
theorem turn_list {P : Program} {w : World} {K : PySem.W.Frag} {tg : Expr} (a it : Addr) : Turn P w K tg (Itl K a) [it] it (fun i h => h.IsListIter it a i) where
  mem := by simp
  obj := fun i h st b hb => by
    have e : b = it := by simpa using hb
    subst e
    obtain ⟨o, e, c, d⟩ := st
    exact ⟨o, e, fun v z => by rw [d] at z; cases z⟩
  keep := fun i h h' st k => st.at fun o e => k it (by simp) o e
  item := by
    intro X hP hw hK hc i pins s σ H E I hf st hg
    subst hP hw hK
    obtain ⟨xs, x, hq, hx⟩ := hg
    obtain ⟨its, rv, p, hz⟩ := I.list hq
    obtain ⟨u, hu, ru⟩ := rv.get hx
    obtain ⟨f0, f1, f2, f3, f4, f5⟩ := hf it (by simp)
    refine wpAny_pyNext_list_item st p.isList (x := u) (by simpa using hu) fun h' st' sb => ?_
    have I1 : Inv X pins σ H { s with heap := h' } := I.turned (t' := s.toks) (fun b o hb e => (sb.2 b hb).trans e) f0 f1 f3 f4 f5
    obtain ⟨o, e, c, d⟩ := id st'
    exact ⟨u, rfl, go_of (s := { s with heap := h' }) e c d (by decide) ⟨x, H, I1, ru, ⟨rfl, fun ys hy => by rw [I.list_inj hy hq]; exact hx⟩, st', fun b hb => (hf b hb).1⟩⟩
  done := by
    intro X hP hw hK hc i pins s σ H E I hf st hg
    subst hP hw hK
    obtain ⟨xs, hq, hx⟩ := hg
    obtain ⟨its, rv, p, hz⟩ := I.list hq
    obtain ⟨f0, f1, f2, f3, f4, f5⟩ := hf it (by simp)
    have hl := rv.length
    exact wpAny_pyNext_list_end (I.ok.hd hc) st p.isList (by simp; omega) fun h' eb => ⟨rfl, I.turned (t' := s.toks) (fun b o hb e => eb b o hb e) f0 f1 f3 f4 f5⟩
  self := fun _ _ _ _ _ st h => wpAny_pyIter_listiter st h
theorem turn_range {P : Program} {w : World} {K : PySem.W.Frag} {tg : Expr} (it : Addr) (lo : Int) (n : Nat) : Turn P w K tg (Itr lo n) [it] it (fun i h => IsRangeIter h it (lo + (i : Nat) * 1) ((n : Int) - (i : Nat)) 1) where
  mem := by simp
  obj := fun i h st b hb => by
    have e : b = it := by simpa using hb
    subst e
    exact ⟨_, st, fun v z => by
      have z' : Data.fields _ = Data.cell v := z
      cases z'⟩
  keep := fun i h h' st k => k it (by simp) _ st
  item := by
    intro X hP hw hK hc i pins s σ H E I hf st hg
    subst hP hw hK
    obtain ⟨f0, f1, f2, f3, f4, f5⟩ := hf it (by simp)
    have W := Walks.range (prog := X.prog) (w := X.w) (I.ok.hd hc) it lo 1 n
    refine W.item i s _ _ hg st fun v h' tk hv st' kk => ?_
    obtain ⟨t, rfl⟩ := hv
    have I1 : Inv X pins σ H { s with heap := h', toks := tk } := I.turned (fun b o hb e => kk b o (by simpa using hb) e) f0 f1 f3 f4 f5
    refine ⟨_, rfl, go_of (s := { s with heap := h', toks := tk }) (n := "range_iterator") st' rfl rfl (by decide) ⟨.int (lo + i), H, I1, ⟨t, ?_⟩, ⟨rfl, rfl⟩, st', fun b hb => (hf b hb).1⟩⟩
    rw [Int.mul_one]
  done := by
    intro X hP hw hK hc i pins s σ H E I hf st hg
    subst hP hw hK
    obtain ⟨f0, f1, f2, f3, f4, f5⟩ := hf it (by simp)
    exact wpAny_pyNext_range_end (I.ok.hd hc) st (by have : n ≤ i := hg; omega) fun h' eb => ⟨rfl, I.turned (t' := s.toks) (fun b o hb e => eb b o hb e) f0 f1 f3 f4 f5⟩
  self := fun _ _ _ _ _ st h => wpAny_pyIter_rangeiter st h
end L2

namespace L2
open PySem PySem.Spec PyProof.Rows
section
variable {X : Cx} {tg : Expr}
def iList (K : PySem.W.Frag) (tl : TE) : TI := fun σ H R => tl σ H fun x H1 => ∃ a, x = .ref a ∧ (∃ xs, SqL K H1 a xs) ∧ R (Itl K a) H1
theorem pi_list {l : Expr} {tl : TE} (hl : PE X l tl) : PI X tg l (iList X.K tl) := by
  intro pins s σ H R I h
  refine thn (hl pins s σ H _ I h) fun v s1 ⟨x, H1, I1, r1, q1⟩ => ?_
  obtain ⟨a, e, ⟨xs, hq⟩, q⟩ := q1
  subst e
  cases r1
  obtain ⟨its, rv, p, hz⟩ := I1.list hq
  refine wpAny_pyIter_list p.isList ?_
  refine ⟨s1.heap.objs.size, [s1.heap.objs.size], _, _, H1, rfl, I1.kept (t' := s1.toks) fun b o e => Heap.get?_push_of_some _ e, turn_list a _, ⟨_, Heap.get?_push_size _ rfl, rfl, rfl⟩, fun b hb => ?_, q⟩
  have e : b = s1.heap.objs.size := by simpa using hb
  subst e
  exact I1.fpOk (Nat.le_refl _) (I1.hok.fresh (Nat.le_refl _))
/-- a range object just made, walked -/
theorem range_it {pins : List (Addr × Obj)} {σ : St} {H : Hp} {s : Shared} {R : It → Hp → Prop} {E : Value → Shared → Prop} {lo hi : Int} {t u v : Tok} {tk : Nat} (I : Inv X pins σ H s) (h1 : -(2 ^ 62) ≤ lo) (h2 : lo < 2 ^ 62) (h3 : -(2 ^ 62) ≤ hi) (h4 : hi < 2 ^ 62)
    (q : R (Itr lo (hi - lo).toNat) H) : wpAny (model X.prog X.w) X.A (pyIter (.ref s.heap.objs.size)) (PIE X pins σ tg R) E { s with heap := s.heap.push { cls := .type "range", data := .fields #[.int lo t, .int hi u, .int 1 v] }, toks := tk } := by
  refine wpAny_pyIter_range (IsRange.new ..) (small_one h1 h2 h3 h4) ?_
  have I1 : Inv X pins σ H { s with heap := s.heap.push { cls := .type "range", data := .fields #[.int lo t, .int hi u, .int 1 v] }, toks := tk } := I.kept fun b o e => Heap.get?_push_of_some _ e
  refine ⟨(s.heap.push { cls := .type "range", data := .fields #[.int lo t, .int hi u, .int 1 v] }).objs.size, [(s.heap.push { cls := .type "range", data := .fields #[.int lo t, .int hi u, .int 1 v] }).objs.size], _, _, H, rfl,
    I1.kept (t' := tk) fun b o e => Heap.get?_push_of_some _ e, turn_range _ lo (hi - lo).toNat, ?_, fun b hb => ?_, q⟩
  · have e1 : lo + ((0 : Nat) : Int) * 1 = lo := by simp
    have e2 : (((hi - lo).toNat : Nat) : Int) - ((0 : Nat) : Int) = Builtin.Range.rangeSize lo hi 1 := by rw [rangeSize_one]; split <;> omega
    show IsRangeIter _ _ (lo + ((0 : Nat) : Int) * 1) ((((hi - lo).toNat : Nat) : Int) - ((0 : Nat) : Int)) 1
    rw [e1, e2]
    exact Heap.get?_push_size _ rfl
  · have e : b = (s.heap.push { cls := .type "range", data := .fields #[.int lo t, .int hi u, .int 1 v] }).objs.size := by simpa using hb
    subst e
    exact I1.fpOk (Nat.le_refl _) (I1.hok.fresh (Nat.le_refl _))
def iRng1 (ta : TA) : TI := fun σ H R => ta σ H fun vs H1 => ∃ j : Int, vs = [.int j] ∧ -(2 ^ 62) ≤ j ∧ j < 2 ^ 62 ∧ R (Itr 0 j.toNat) H1
theorem pi_range1 {a : Expr} {ta : TA} {p pos : Pos} (hg : Gl X "range") (hm : X.mg "range" = none) (ha : PA X [a] ta) (hs : starEach [a] X.env = [(false, eval a X.env)] := by rfl) : PI X tg (.Call (.Name "range" p) [a] [] pos) (iRng1 ta) := by
  intro pins s σ H R I h
  refine Call_ (ld_blt I hg hm boot_range (PyProof.Rows.callWith_type1 (thn (ha pos pins s σ H _ I h) fun us s1 ⟨vs, H1, I1, r1, q1⟩ => ?_) hs rfl))
  obtain ⟨j, e, q1, q2, q⟩ := q1
  subst e
  cases r1 with
  | cons r rr =>
    cases rr
    obtain ⟨t, rfl⟩ := r
    exact call_range_1 (range_it I1 (by omega) (by omega) q1 q2 (by simpa using q))
/-! ### for -/
/-- W: the invariant by the turn and a measure; N: what the body is to reach -/
def tFor (wi : TI) (g : TG) (tb : TS) : TS := fun D σ H => wi σ H fun J H1 => ∃ W : Nat → Nat → St → Hp → Prop, (∃ m, W 0 m σ H1) ∧ ∀ i m σ H, W i m σ H →
  (J.stop i H ∧ D.nx σ H) ∨ (J.go i H ∧ ∃ N : St → Hp → Prop, (∀ σ' H', N σ' H' → ∃ m', m' < m ∧ W (i + 1) m' σ' H') ∧ ∀ x H', J.yld i H x H' → g x σ H' fun σ2 H2 => tb { D with nx := N, ct := N, bk := D.nx } σ2 H2)
/-- the records at fp as they stand -/
def pinsAt (fp : List Addr) (h : Heap) : List (Addr × Obj) := fp.filterMap fun b => (h.get? b).map fun o => (b, o)
theorem mem_pinsAt {fp : List Addr} {h : Heap} {b : Addr} {o : Obj} (hb : b ∈ fp) (e : h.get? b = some o) : (b, o) ∈ pinsAt fp h := List.mem_filterMap.mpr ⟨b, hb, by rw [e]; rfl⟩
theorem of_pinsAt {fp : List Addr} {h : Heap} {p : Addr × Obj} (hp : p ∈ pinsAt fp h) : p.1 ∈ fp ∧ h.get? p.1 = some p.2 := by
  obtain ⟨b, hb, e⟩ := List.mem_filterMap.mp hp
  cases q : h.get? b with
  | none => rw [q] at e; cases e
  | some o =>
    rw [q] at e
    have e' : (b, o) = p := Option.some.inj e
    subst e'
    exact ⟨hb, q⟩
theorem Inv.pinned {pins : List (Addr × Obj)} {σ : St} {H : Hp} {s : Shared} {fp : List Addr} (I : Inv X pins σ H s) (hf : ∀ b ∈ fp, FpOk X pins H b) (ho : ∀ b ∈ fp, ∃ o, s.heap.get? b = some o ∧ ∀ v, o.data ≠ .cell v) : Inv X (pins ++ pinsAt fp s.heap) σ H s :=
  I.pins_of fun p hp => (List.mem_append.mp hp).elim (fun z => I.pin p (List.mem_append_right _ z)) fun z => by
    obtain ⟨hb, e⟩ := of_pinsAt z
    obtain ⟨f0, f1, f2, _⟩ := hf p.1 hb
    obtain ⟨o, e', d⟩ := ho p.1 hb
    rw [e] at e'; cases e'
    exact ⟨e, f0, f1, f2, d⟩
theorem Inv.unpinned {pins pl : List (Addr × Obj)} {σ : St} {H : Hp} {s : Shared} (I : Inv X (pins ++ pl) σ H s) : Inv X pins σ H s := I.pins_of fun p hp => I.pin p (List.mem_append_right _ (List.mem_append_left _ hp))
theorem ps_for {iter : Expr} {body : List Stmt} {wi : TI} {g : TG} {tb : TS} {pos : Pos} (hp : PassesOwn (model X.prog X.w) X.A X.env X.xe) (hc : X.calm = true) (hi : PI X tg iter wi) (hg : PG X tg g) (hb : PSs X body tb)
    (hs : ∀ x, foldedSetIterable iter X.env x = pure x := by intro _; rfl) : PS X (.For tg iter body [] pos) (tFor wi g tb) := by
  intro pins s σ H D I h
  refine wpAny_For (thn (hi pins s σ H _ I h) fun v s1 h1 => thn h1 fun itv s2 h2 => ?_) hs
  obtain ⟨it, fp, tn, J, H2, e, I2, T, st2, f2, W, ⟨m0, w0⟩, turn⟩ := h2
  subst e
  -- what stays true of the iterator's objects through the loop
  have stat : ∀ {H' : Hp}, (∀ b ∈ fp, H' b = none) → ∀ b ∈ fp, FpOk X pins H' b := fun hn b hb => ⟨hn b hb, (f2 b hb).2⟩
  refine codeAny_forLoop_any (fun n s' => ∃ i σ' H', Inv X pins σ' H' s' ∧ tn i s'.heap ∧ (∀ b ∈ fp, H' b = none) ∧ W i n σ' H') ?_ m0 ⟨0, σ, H2, I2, st2, fun b hb => (f2 b hb).1, w0⟩
  rintro n s3 ⟨i, σ3, H3, I3, st3, fr3, w3⟩
  rcases turn i n σ3 H3 w3 with ⟨stop, qn⟩ | ⟨go, N, hN, step⟩
  · refine wpAny_passesOwn hp (thn (T.done X rfl rfl rfl hc i pins s3 σ3 H3 X.xe I3 (stat fr3) st3 stop) fun r s4 ⟨hr, I4⟩ => ?_)
    subst hr
    exact wpAny_execs_nil ⟨σ3, H3, I4, qn⟩
  · refine wpAny_passesOwn hp (thn (T.item X rfl rfl rfl hc i pins s3 σ3 H3 X.xe I3 (stat fr3) st3 go) fun r s4 ⟨u, hr, h4⟩ => ?_)
    subst hr
    refine wpAny_passesOwn hp (thn h4 fun _ s5 ⟨x, H5, I5, r5, y5, st5, fr5⟩ => ?_)
    have I5' := I5.pinned (stat fr5) (T.obj _ _ st5)
    refine wpAny_passesOwn hp (thn (hg _ s5 σ3 H5 x u _ I5' r5 (step x H5 y5)) fun _ s6 ⟨σ6, H6, I6, q6⟩ => ?_)
    refine wpAny_passesOwn hp (thn (hb _ s6 σ6 H6 _ I6 q6) fun f s7 q7 => ?_)
    have again : ∀ {σ7 : St} {H7 : Hp}, Inv X (pins ++ pinsAt fp s5.heap) σ7 H7 s7 → N σ7 H7 → ∃ m, m < n ∧ ∃ i σ' H', Inv X pins σ' H' s7 ∧ tn i s7.heap ∧ (∀ b ∈ fp, H' b = none) ∧ W i m σ' H' := fun {σ7 H7} I7 n7 => by
      obtain ⟨m', hm, w7⟩ := hN σ7 H7 n7
      refine ⟨m', hm, i + 1, σ7, H7, I7.unpinned, T.keep _ _ _ st5 fun b hb o e => (I7.pin (b, o) (List.mem_append_right _ (List.mem_append_right _ (mem_pinsAt hb e)))).1, fun b hb => ?_, w7⟩
      obtain ⟨o, e, d⟩ := T.obj _ _ st5 b hb
      exact (I7.pin (b, o) (List.mem_append_right _ (List.mem_append_right _ (mem_pinsAt hb e)))).2.1
    cases f with
    | next => obtain ⟨σ7, H7, I7, n7⟩ := q7; exact again I7 n7
    | cont => obtain ⟨σ7, H7, I7, n7⟩ := q7; exact again I7 n7
    | brk => obtain ⟨σ7, H7, I7, q7⟩ := q7; exact ⟨σ7, H7, I7.unpinned, q7⟩
    | ret v => obtain ⟨x7, σ7, H7, I7, r7, q7⟩ := q7; exact ⟨x7, σ7, H7, I7.unpinned, r7, q7⟩
end

/-! ### the forms one uses -/
/-- over a list that the body leaves as it is -/
theorem for_list {K : PySem.W.Frag} {a : Addr} {xs : List V} {g : TG} {tb : TS} {D : Ends} {σ : St} {H : Hp} (Pv : Nat → St → Hp → Prop) (h0 : Pv 0 σ H) (hl : ∀ i σ H, i ≤ xs.length → Pv i σ H → SqL K H a xs)
    (hs : ∀ i x σ H, xs[i]? = some x → Pv i σ H → g x σ H fun σ2 H2 => tb { D with nx := Pv (i + 1), ct := Pv (i + 1), bk := D.nx } σ2 H2) (hd : ∀ σ H, Pv xs.length σ H → D.nx σ H) :
    ∃ W : Nat → Nat → St → Hp → Prop, (∃ m, W 0 m σ H) ∧ ∀ i m σ H, W i m σ H →
      ((Itl K a).stop i H ∧ D.nx σ H) ∨ ((Itl K a).go i H ∧ ∃ N : St → Hp → Prop, (∀ σ' H', N σ' H' → ∃ m', m' < m ∧ W (i + 1) m' σ' H') ∧ ∀ x H', (Itl K a).yld i H x H' → g x σ H' fun σ2 H2 => tb { D with nx := N, ct := N, bk := D.nx } σ2 H2) := by
  refine ⟨fun i m σ H => m = xs.length - i ∧ i ≤ xs.length ∧ Pv i σ H, ⟨xs.length, by simp, Nat.zero_le _, h0⟩, ?_⟩
  rintro i m σ H ⟨rfl, hi, p⟩
  have q := hl i σ H hi p
  by_cases hlt : i < xs.length
  · refine .inr ⟨⟨xs, xs[i], q, by simp [hlt]⟩, Pv (i + 1), fun σ' H' p' => ⟨xs.length - (i + 1), by omega, rfl, hlt, p'⟩, fun x H' y => ?_⟩
    obtain ⟨e, y⟩ := y
    subst e
    exact hs i x σ _ (y xs q) p
  · have e : i = xs.length := by omega
    subst e
    exact .inl ⟨⟨xs, q, Nat.le_refl _⟩, hd σ H p⟩
theorem for_range {lo : Int} {n : Nat} {g : TG} {tb : TS} {D : Ends} {σ : St} {H : Hp} (Pv : Nat → St → Hp → Prop) (h0 : Pv 0 σ H)
    (hs : ∀ i σ H, i < n → Pv i σ H → g (.int (lo + i)) σ H fun σ2 H2 => tb { D with nx := Pv (i + 1), ct := Pv (i + 1), bk := D.nx } σ2 H2) (hd : ∀ σ H, Pv n σ H → D.nx σ H) :
    ∃ W : Nat → Nat → St → Hp → Prop, (∃ m, W 0 m σ H) ∧ ∀ i m σ H, W i m σ H →
      ((Itr lo n).stop i H ∧ D.nx σ H) ∨ ((Itr lo n).go i H ∧ ∃ N : St → Hp → Prop, (∀ σ' H', N σ' H' → ∃ m', m' < m ∧ W (i + 1) m' σ' H') ∧ ∀ x H', (Itr lo n).yld i H x H' → g x σ H' fun σ2 H2 => tb { D with nx := N, ct := N, bk := D.nx } σ2 H2) := by
  refine ⟨fun i m σ H => m = n - i ∧ i ≤ n ∧ Pv i σ H, ⟨n, by simp, Nat.zero_le _, h0⟩, ?_⟩
  rintro i m σ H ⟨rfl, hi, p⟩
  by_cases hlt : i < n
  · refine .inr ⟨hlt, Pv (i + 1), fun σ' H' p' => ⟨n - (i + 1), by omega, rfl, hlt, p'⟩, fun x H' y => ?_⟩
    obtain ⟨e, y⟩ := y
    subst e y
    exact hs i σ _ hlt p
  · have e : i = n := by omega
    subst e
    exact .inl ⟨Nat.le_refl _, hd σ H p⟩
end L2

namespace L2
open PySem PySem.Spec PyProof.Rows

abbrev R2 := V → V → Hp → VK → Prop
/-- a two-place operation on values: f is binaryOp op, inplaceOp op or compareOp op -/
def OpR (X : Cx) (f : Value → Value → Sem Value) (r : R2) : Prop :=
  ∀ (pins : List (Addr × Obj)) (s : Shared) (σ : St) (H : Hp) (x y : V) (v u : Value) (Q : VK), Inv X pins σ H s → RelV x v → RelV y u → r x y H Q →
    wpAny (model X.prog X.w) X.A (f v u) (EP X pins σ Q) X.xe s
/-- a one-place operation -/
def UnR (X : Cx) (f : Value → Sem Value) (r : V → Hp → VK → Prop) : Prop :=
  ∀ (pins : List (Addr × Obj)) (s : Shared) (σ : St) (H : Hp) (x : V) (v : Value) (Q : VK), Inv X pins σ H s → RelV x v → r x H Q →
    wpAny (model X.prog X.w) X.A (f v) (EP X pins σ Q) X.xe s
/-- a call of a value that is known (a builtin, a type) with values -/
def CallR (X : Cx) (f : Value) (r : List V → Hp → VK → Prop) : Prop :=
  ∀ (pins : List (Addr × Obj)) (s : Shared) (σ : St) (H : Hp) (xs : List V) (us : List Value) (Q : VK), Inv X pins σ H s → Vals xs us → r xs H Q →
    wpAny (model X.prog X.w) X.A (call f us) (EP X pins σ Q) X.xe s
def tOp (r : R2) (ta tb : TE) : TE := fun σ H Q => ta σ H fun x H1 => tb σ H1 fun y H2 => r x y H2 Q
def tUn (r : V → Hp → VK → Prop) (ta : TE) : TE := fun σ H Q => ta σ H fun x H1 => r x H1 Q
/-- ints in, under C, and a value out -/
def rI (C : Int → Int → Prop) (g : Int → Int → V) : R2 := fun x y H Q => ∃ i j, x = .int i ∧ y = .int j ∧ C i j ∧ Q (g i j) H
def rI0 (g : Int → Int → V) : R2 := fun x y H Q => ∃ i j, x = .int i ∧ y = .int j ∧ Q (g i j) H
def rU (g : Int → V) : V → Hp → VK → Prop := fun x H Q => ∃ i, x = .int i ∧ Q (g i) H

section
variable {X : Cx} {a b c : Expr} {ta tb tc : TE} {pos : Pos}

theorem binT (ha : PE X a ta) (hb : PE X b tb) {pins : List (Addr × Obj)} {s : Shared} {σ : St} {H : Hp} {R : V → V → Hp → Prop} (I : Inv X pins σ H s)
    (h : ta σ H fun x H1 => tb σ H1 fun y H2 => R x y H2) {Q : Value → Shared → Prop} {f : Value → Value → Sem Value}
    (hf : ∀ v u s2 x y H2, Inv X pins σ H2 s2 → RelV x v → RelV y u → R x y H2 → wpAny (model X.prog X.w) X.A (f v u) Q X.xe s2) :
    wpAny (model X.prog X.w) X.A (eval a X.env) (fun v s₁ => wpAny (model X.prog X.w) X.A (eval b X.env) (fun u s₂ => wpAny (model X.prog X.w) X.A (f v u) Q X.xe s₂) X.xe s₁) X.xe s := by
  refine thn (ha pins s σ H _ I h) fun v s1 ⟨x, H1, I1, r1, q1⟩ => ?_
  refine thn (hb pins s1 σ H1 _ I1 q1) fun u s2 ⟨y, H2, I2, r2, q2⟩ => ?_
  exact hf v u s2 x y H2 I2 r1 r2 q2

theorem pe_op {op : Operator} {r : R2} (ho : OpR X (binaryOp op) r) (ha : PE X a ta) (hb : PE X b tb) : PE X (.BinOp a op b pos) (tOp r ta tb) := by
  intro pins s σ H Q I h
  exact wpAny_BinOp (binT ha hb I h fun v u s2 x y H2 I2 rx ry q => ho pins s2 σ H2 x y v u Q I2 rx ry q)
theorem pe_un {op : UnaryOp} {r : V → Hp → VK → Prop} (ho : UnR X (unaryOp op) r) (ha : PE X a ta) : PE X (.UnaryOp op a pos) (tUn r ta) := by
  intro pins s σ H Q I h
  exact UnaryOp_ (thn (ha pins s σ H _ I h) fun v s1 ⟨x, H1, I1, r1, q1⟩ => ho pins s1 σ H1 x v Q I1 r1 q1)
/-! ### ints -/
theorem opI {f : Value → Value → Sem Value} {C : Int → Int → Prop} {g : Int → Int → Int}
    (rule : ∀ (i j : Int) (t u : Tok) (s : Shared) (Q : Value → Shared → Prop) (E : Value → Shared → Prop), C i j → Q (.int (g i j) s.toks) { s with toks := s.toks + 1 } → wpAny (model X.prog X.w) X.A (f (.int i t) (.int j u)) Q E s) :
    OpR X f (rI C fun i j => .int (g i j)) := by
  intro pins s σ H x y v u Q I rx ry h
  obtain ⟨i, j, rfl, rfl, hc, q⟩ := h
  obtain ⟨t, rfl⟩ := rx
  obtain ⟨t', rfl⟩ := ry
  exact rule i j t t' s _ _ hc ⟨.int (g i j), H, I.tok _, ⟨_, rfl⟩, q⟩
theorem opI0 {f : Value → Value → Sem Value} {g : Int → Int → Int}
    (rule : ∀ (i j : Int) (t u : Tok) (s : Shared) (Q : Value → Shared → Prop) (E : Value → Shared → Prop), Q (.int (g i j) s.toks) { s with toks := s.toks + 1 } → wpAny (model X.prog X.w) X.A (f (.int i t) (.int j u)) Q E s) :
    OpR X f (rI0 fun i j => .int (g i j)) := by
  intro pins s σ H x y v u Q I rx ry h
  obtain ⟨i, j, rfl, rfl, q⟩ := h
  obtain ⟨t, rfl⟩ := rx
  obtain ⟨t', rfl⟩ := ry
  exact rule i j t t' s _ _ ⟨.int (g i j), H, I.tok _, ⟨_, rfl⟩, q⟩
theorem opB0 {f : Value → Value → Sem Value} {g : Int → Int → Bool}
    (rule : ∀ (i j : Int) (t u : Tok) (s : Shared) (Q : Value → Shared → Prop) (E : Value → Shared → Prop), Q (.bool (g i j)) s → wpAny (model X.prog X.w) X.A (f (.int i t) (.int j u)) Q E s) :
    OpR X f (rI0 fun i j => .bl (g i j)) := by
  intro pins s σ H x y v u Q I rx ry h
  obtain ⟨i, j, rfl, rfl, q⟩ := h
  obtain ⟨t, rfl⟩ := rx
  obtain ⟨t', rfl⟩ := ry
  exact rule i j t t' s _ _ ⟨.bl (g i j), H, I, rfl, q⟩

def CPow (i j : Int) : Prop := 0 ≤ j ∧ j ≤ 1000000 ∧ i.natAbs < 2 ^ 64
theorem op_add : OpR X (binaryOp .Add) (rI0 fun i j => .int (i + j)) := opI0 fun _ _ _ _ _ _ _ q => add_int q
theorem op_sub : OpR X (binaryOp .Sub) (rI0 fun i j => .int (i - j)) := opI0 fun _ _ _ _ _ _ _ q => sub_int q
/-- % by a positive divisor of any size -/
theorem op_mod : OpR X (binaryOp .Mod) (rI (fun _ j => 0 < j) fun i j => .int (i % j)) := opI fun i j _ _ _ _ _ hc q => by
  have h1 : (0 : Int) < j := hc
  exact mod_int' (by omega) (by rw [Int.fmod_eq_emod_of_nonneg i (by omega)]; exact q)
theorem op_pow : OpR X (binaryOp .Pow) (rI CPow fun i j => .int (i ^ j.toNat)) := opI fun _ _ _ _ _ _ _ hc q => pow_int_small hc.1 hc.2.1 hc.2.2 q
theorem unI {f : Value → Sem Value} {g : Int → Int}
    (rule : ∀ (i : Int) (t : Tok) (s : Shared) (Q : Value → Shared → Prop) (E : Value → Shared → Prop), Q (.int (g i) s.toks) { s with toks := s.toks + 1 } → wpAny (model X.prog X.w) X.A (f (.int i t)) Q E s) :
    UnR X f (rU fun i => .int (g i)) := by
  intro pins s σ H x v Q I rx h
  obtain ⟨i, rfl, q⟩ := h
  obtain ⟨t, rfl⟩ := rx
  exact rule i t s _ _ ⟨.int (g i), H, I.tok _, ⟨_, rfl⟩, q⟩
theorem un_neg : UnR X (unaryOp .USub) (rU fun i => .int (-i)) := unI fun _ _ _ _ _ q => neg_int q
/-! ### bools among ints: n += (a < b) -/
end

/-! ### comparisons -/
/-- the scalars that == tells apart as data does -/
def scal : V → V → Bool
  | .non, .non => true | .non, .int _ => true | .int _, .non => true | .non, .bl _ => true | .bl _, .non => true | .non, .str _ => true | .str _, .non => true
  | .int _, .int _ => true | .bl _, .bl _ => true | .str _, .str _ => true | .byt _, .byt _ => true
  | .int _, .str _ => true | .str _, .int _ => true | .bl _, .str _ => true | .str _, .bl _ => true
  | _, _ => false
def rEq : R2 := fun x y H Q => scal x y = true ∧ Q (.bl (decide (x = y))) H
def rNe : R2 := fun x y H Q => scal x y = true ∧ Q (.bl (!decide (x = y))) H

theorem dec_int {i j : Int} : decide (V.int i = V.int j) = (i == j) := by
  rw [Bool.eq_iff_iff]
  simp
theorem dec_bl {i j : Bool} : decide (V.bl i = V.bl j) = (i == j) := by
  rw [Bool.eq_iff_iff]
  simp
theorem dec_str {i j : Str} : decide (V.str i = V.str j) = (i == j) := by
  rw [Bool.eq_iff_iff]
  simp
theorem dec_byt {i j : Array UInt8} : decide (V.byt i = V.byt j) = (i.toList == j.toList) := by
  rw [Bool.eq_iff_iff]
  cases i
  cases j
  simp

section
variable {X : Cx} {a b c : Expr} {ta tb tc : TE} {pos : Pos}
theorem fin_bl {pins : List (Addr × Obj)} {σ : St} {H : Hp} {s : Shared} {Q : VK} {k k' : Bool} (I : Inv X pins σ H s) (q : Q (.bl k) H) (e : k = k') : EP X pins σ Q (.bool k') s := by
  subst e
  exact ⟨.bl k, H, I, rfl, q⟩
theorem op_eq : OpR X (compareOp .Eq) rEq := by
  intro pins s σ H x y v u Q I rx ry h
  obtain ⟨hs, q⟩ := h
  cases x with
  | non =>
    cases rx
    cases y with
    | non => cases ry; exact PySem.EqNone.eq_none_none (fin_bl I q (by simp))
    | bl j => cases ry; exact PySem.EqNone.eq_none_bool (fin_bl I q (by simp))
    | int j => obtain ⟨t', rfl⟩ := ry; exact PySem.EqNone.eq_none_int (fin_bl I q (by simp))
    | str j => obtain ⟨t', rfl⟩ := ry; exact PySem.EqNone.eq_none_str (fin_bl I q (by simp))
    | _ => exact absurd (show false = true from hs) Bool.false_ne_true
  | bl i =>
    cases rx
    cases y with
    | non => cases ry; exact PySem.EqNone.eq_bool_none (fin_bl I q (by simp))
    | bl j => cases ry; exact eq_bool (fin_bl I q dec_bl)
    | str j => obtain ⟨t', rfl⟩ := ry; exact PySem.EqMixed.eq_bool_str (fin_bl I q (by simp))
    | _ => exact absurd (show false = true from hs) Bool.false_ne_true
  | int i =>
    obtain ⟨t, rfl⟩ := rx
    cases y with
    | non => cases ry; exact PySem.EqNone.eq_int_none (fin_bl I q (by simp))
    | int j => obtain ⟨t', rfl⟩ := ry; exact eq_int (fin_bl I q dec_int)
    | str j => obtain ⟨t', rfl⟩ := ry; exact PySem.EqMixed.eq_int_str (fin_bl I q (by simp))
    | _ => exact absurd (show false = true from hs) Bool.false_ne_true
  | str i =>
    obtain ⟨t, rfl⟩ := rx
    cases y with
    | non => cases ry; exact PySem.EqNone.eq_str_none (fin_bl I q (by simp))
    | bl j => cases ry; exact PySem.EqMixed.eq_str_bool (fin_bl I q (by simp))
    | int j => obtain ⟨t', rfl⟩ := ry; exact PySem.EqMixed.eq_str_int (fin_bl I q (by simp))
    | str j => obtain ⟨t', rfl⟩ := ry; exact eq_str (fin_bl I q dec_str)
    | _ => exact absurd (show false = true from hs) Bool.false_ne_true
  | byt i =>
    obtain ⟨t, rfl⟩ := rx
    cases y with
    | byt j => obtain ⟨t', rfl⟩ := ry; exact PySem.W.eq_bytes (fin_bl I q dec_byt)
    | _ => exact absurd (show false = true from hs) Bool.false_ne_true
  | _ => cases y <;> exact absurd (show false = true from hs) Bool.false_ne_true
theorem op_ne : OpR X (compareOp .NotEq) rNe := by
  intro pins s σ H x y v u Q I rx ry h
  obtain ⟨hs, q⟩ := h
  cases x with
  | non =>
    cases rx
    cases y with
    | non => cases ry; exact PySem.EqNone.ne_none_none (fin_bl I q (by simp))
    | bl j => cases ry; exact PySem.EqNone.ne_none_bool (fin_bl I q (by simp))
    | int j => obtain ⟨t', rfl⟩ := ry; exact PySem.EqNone.ne_none_int (fin_bl I q (by simp))
    | str j => obtain ⟨t', rfl⟩ := ry; exact PySem.EqNone.ne_none_str (fin_bl I q (by simp))
    | _ => exact absurd (show false = true from hs) Bool.false_ne_true
  | bl i =>
    cases rx
    cases y with
    | non => cases ry; exact PySem.EqNone.ne_bool_none (fin_bl I q (by simp))
    | bl j => cases ry; exact ne_bool (fin_bl I q (congrArg not dec_bl))
    | str j => obtain ⟨t', rfl⟩ := ry; exact PySem.EqMixed.ne_bool_str (fin_bl I q (by simp))
    | _ => exact absurd (show false = true from hs) Bool.false_ne_true
  | int i =>
    obtain ⟨t, rfl⟩ := rx
    cases y with
    | non => cases ry; exact PySem.EqNone.ne_int_none (fin_bl I q (by simp))
    | int j => obtain ⟨t', rfl⟩ := ry; exact ne_int (fin_bl I q (congrArg not dec_int))
    | str j => obtain ⟨t', rfl⟩ := ry; exact PySem.EqMixed.ne_int_str (fin_bl I q (by simp))
    | _ => exact absurd (show false = true from hs) Bool.false_ne_true
  | str i =>
    obtain ⟨t, rfl⟩ := rx
    cases y with
    | non => cases ry; exact PySem.EqNone.ne_str_none (fin_bl I q (by simp))
    | bl j => cases ry; exact PySem.EqMixed.ne_str_bool (fin_bl I q (by simp))
    | int j => obtain ⟨t', rfl⟩ := ry; exact PySem.EqMixed.ne_str_int (fin_bl I q (by simp))
    | str j => obtain ⟨t', rfl⟩ := ry; exact ne_str (fin_bl I q (congrArg not dec_str))
    | _ => exact absurd (show false = true from hs) Bool.false_ne_true
  | byt i =>
    obtain ⟨t, rfl⟩ := rx
    cases y with
    | byt j => obtain ⟨t', rfl⟩ := ry; exact PySem.W.ne_bytes (fin_bl I q (congrArg not dec_byt))
    | _ => exact absurd (show false = true from hs) Bool.false_ne_true
  | _ => cases y <;> exact absurd (show false = true from hs) Bool.false_ne_true

theorem op_lt : OpR X (compareOp .Lt) (rI0 fun i j => .bl (decide (i < j))) := opB0 fun _ _ _ _ _ _ _ q => lt_int q
theorem op_le : OpR X (compareOp .LtE) (rI0 fun i j => .bl (decide (i ≤ j))) := opB0 fun _ _ _ _ _ _ _ q => le_int q
theorem op_gt : OpR X (compareOp .Gt) (rI0 fun i j => .bl (decide (j < i))) := opB0 fun _ _ _ _ _ _ _ q => gt_int q
theorem op_ge : OpR X (compareOp .GtE) (rI0 fun i j => .bl (decide (j ≤ i))) := opB0 fun _ _ _ _ _ _ _ q => ge_int q
/-- is None, is not None: the right side a value none -/
theorem op_isN : OpR X (compareOp .Is) (fun x y H Q => y = .non ∧ Q (.bl (decide (x = .non))) H) := by
  intro pins s σ H x y v u Q I rx ry h
  obtain ⟨rfl, q⟩ := h
  cases ry
  refine is_none_gen (fin_bl I q ?_)
  cases x <;> first
    | (cases rx; rfl)
    | (obtain ⟨t, rfl⟩ := rx; rfl)
theorem nomark (b : Expr) {op : CmpOp} (h : op ≠ .In := by decide) (h2 : op ≠ .NotIn := by decide) : behindInMarks op b = false := by
  have e1 : (op == CmpOp.In) = false := by cases op <;> first | rfl | exact absurd rfl h
  have e2 : (op == CmpOp.NotIn) = false := by cases op <;> first | rfl | exact absurd rfl h2
  cases b <;> simp [behindInMarks, e1, e2]
/-- a comparison as a value; hm: nomark b, or (for in, not in) by with_unfolding_all rfl -/
theorem pe_cmpR {op : CmpOp} {r : R2} (ho : OpR X (compareOp op) r) (ha : PE X a ta) (hb : PE X b tb) (hm : behindInMarks op b = false) : PE X (.Compare a [op] [b] pos) (tOp r ta tb) := by
  intro pins s σ H Q I h
  exact wpAny_Compare1 (binT ha hb I h fun v u s2 x y H2 I2 rx ry q => ho pins s2 σ H2 x y v u Q I2 rx ry q) hm
/-- a reading of a value as a test -/
def tTest (t : TE) : TT := fun σ H Q => t σ H fun x H' => ∃ k, x = .bl k ∧ Q k H'
theorem pt_cmpR {op : CmpOp} {r : R2} (ho : OpR X (compareOp op) r) (ha : PE X a ta) (hb : PE X b tb) (hm : behindInMarks op b = false) : PT X (.Compare a [op] [b] pos) (tTest (tOp r ta tb)) := by
  intro pins s σ H Q I h
  refine wpAny_isTrue_Compare1 (thn (ha pins s σ H _ I h) fun v s1 ⟨x, H1, I1, r1, q1⟩ => thn (hb pins s1 σ H1 _ I1 q1) fun u s2 ⟨y, H2, I2, r2, q2⟩ =>
    thn (ho pins s2 σ H2 x y v u _ I2 r1 r2 q2) fun c s3 ⟨z, H3, I3, r3, k, e, q3⟩ => ?_) hm
  subst e
  cases r3
  exact wpAny_truthy_bool ⟨H3, I3, q3⟩
/-- a op1 b op2 c -/
def tChain (r r' : R2) (ta tb tc : TE) : TE := fun σ H Q => ta σ H fun x H1 => tb σ H1 fun y H2 => r x y H2 fun z H3 => ∃ k, z = .bl k ∧
  (if k = true then tc σ H3 fun w' H4 => r' y w' H4 Q else Q (.bl false) H3)
theorem pe_chain {op op' : CmpOp} {r r' : R2} (ho : OpR X (compareOp op) r) (ho' : OpR X (compareOp op') r') (ha : PE X a ta) (hb : PE X b tb) (hc : PE X c tc)
    (hm : lastMarks [op, op'] [b, c] = false := by with_unfolding_all rfl) : PE X (.Compare a [op, op'] [b, c] pos) (tChain r r' ta tb tc) := by
  intro pins s σ H Q I h
  refine Compare_chain (thn (ha pins s σ H _ I h) fun v s1 ⟨x, H1, I1, r1, q1⟩ => chain_link (thn (hb pins s1 σ H1 _ I1 q1) fun u s2 ⟨y, H2, I2, r2, q2⟩ =>
    thn (ho pins s2 σ H2 x y v u _ I2 r1 r2 q2) fun d s3 ⟨z, H3, I3, r3, k, e, q3⟩ => ?_)) hm
  subst e
  cases r3
  refine wpAny_truthy_bool ?_
  cases k with
  | false => exact ite_ff ⟨.bl false, H3, I3, rfl, q3⟩
  | true => exact ite_tt (chain_last (thn (hc pins s3 σ H3 _ I3 q3) fun w' s4 ⟨z', H4, I4, r4, q4⟩ => ho' pins s4 σ H4 y z' u w' Q I4 r2 r4 q4))
/-! ### truth -/
theorem line63 : (sizeLine : Nat) < 2 ^ 63 := by rw [sizeLine_eq]; decide
/-! ### strs and bytes -/
/-! ### scalar builtins, by CallR -/
theorem vals1 {x : V} {us : List Value} (r : Vals [x] us) : ∃ u, us = [u] ∧ RelV x u := by
  cases r with
  | cons r1 r2 => cases r2; exact ⟨_, rfl, r1⟩
theorem vals2 {x y : V} {us : List Value} (r : Vals [x, y] us) : ∃ u w', us = [u, w'] ∧ RelV x u ∧ RelV y w' := by
  cases r with
  | cons r1 r2 =>
    cases r2 with
    | cons r3 r4 => cases r4; exact ⟨_, _, rfl, r1, r3⟩
theorem call_min2 (hc : X.calm = true) : CallR X (.builtin "min") (fun xs H Q => ∃ i j, xs = [.int i, .int j] ∧ Q (.int (if j < i then j else i)) H) := by
  intro pins s σ H xs us Q I r h
  obtain ⟨i, j, rfl, q⟩ := h
  obtain ⟨u, w', rfl, ⟨t, rfl⟩, ⟨t', rfl⟩⟩ := vals2 r
  refine min_two_ints (I.ok.hd hc) fun h' tk k => ⟨_, H, I.kept k, ?_, q⟩
  by_cases hj : j < i
  · rw [if_pos hj, if_pos hj]; exact ⟨_, rfl⟩
  · rw [if_neg hj, if_neg hj]; exact ⟨_, rfl⟩
end
end L2

namespace L2
open PySem PySem.Spec PyProof.Rows

/-! ### an instance, its attributes a map -/
structure ObjM (h : Heap) (x dx C : Addr) (mA : Str → Option Value) : Prop where
  obj : h.get? x = some (PySem.W.instObj C dx)
  ns : h.Ns1 dx mA
  ne : dx ≠ x

theorem lookIn_ns {h : Heap} {dx : Addr} {mA : Str → Option Value} (n : h.Ns1 dx mA) : ∃ od, h.get? dx = some od ∧ ∀ name, PySem.W.lookIn name od = some (mA name) := by
  obtain ⟨o, es, ep, ho, hd, hk, _, hm⟩ := n
  refine ⟨o, ho, fun name => ?_⟩
  have e := hm name
  unfold nsFind findBy at e
  rw [← Array.find?_toList] at e
  unfold PySem.W.lookIn
  rw [hd]
  dsimp only
  split
  · rename_i y q
    rw [q] at e
    exact congrArg some e
  · rename_i q
    rw [q] at e
    have a : es.toList.any (·.refKey) = false := by
      rw [List.any_eq_false]
      intro y hy
      obtain ⟨z, t, hkey⟩ := hk y (Array.mem_toList_iff.mp hy)
      simp [DictEntry.refKey, hkey]
    have a' : ¬ es.toList.any (·.refKey) = true := by rw [a]; exact Bool.false_ne_true
    rw [if_neg a']
    exact congrArg some e

theorem ObjM.look {h : Heap} {x dx C : Addr} {mA : Str → Option Value} (I : ObjM h x dx C mA) : ∃ od, PySem.W.InstAt h x (PySem.W.instObj C dx) C (some od) ∧ ∀ name, PySem.W.lookIn name od = some (mA name) :=
  let ⟨od, ho, hl⟩ := lookIn_ns I.ns
  ⟨od, ⟨I.obj, rfl, rfl, ho⟩, hl⟩

section
variable {prog : Program} {w : World} {A : Around} {E : Value → Shared → Prop} {s : Shared} {K : PySem.W.Frag} {x dx C f : Addr} {mA : Str → Option Value} {name : Str} {v : Value}

theorem get_map {expr : Bool} {Q : Value → Shared → Prop} (X : K.In s.heap) (I : ObjM s.heap x dx C mA) (hg : PySem.W.plainGet K C name = true) (hh : PySem.W.hasDictIn K C = true)
    (ha : PySem.W.findIn K (.ref C) name = some none) (hv : mA name = some v) (hv' : PySem.W.handedIn v = true) (h : Q v { s with toks := s.toks + 1 }) :
    wpAny (model prog w) A (getAttr (.ref x) name expr) Q E s := by
  obtain ⟨od, J, hl⟩ := I.look
  exact PySem.W.get_value X J (PySem.W.plainGet_of hg).1 (PySem.W.findObj_own hh ha rfl (by rw [hl, hv])) hv' h

theorem get_meth {pl : Sem Bool} {Q : Value × List Value → Shared → Prop} (X : K.In s.heap) (I : ObjM s.heap x dx C mA) (hg : PySem.W.plainGet K C name = true)
    (hf : PySem.W.findIn K (.ref C) name = some (some (.ref f))) (ht : PySem.W.isFn K (.ref f) = true) (hv : mA name = none) (h : Q (.ref f, [.ref x]) s) :
    wpAny (model prog w) A (getMethod (.ref x) name pl) Q E s := by
  obtain ⟨od, J, hl⟩ := I.look
  exact PySem.W.method_fn X J (PySem.W.plainGet_of hg).1 (PySem.W.plainGet_of hg).2 hf (beq_iff_eq.mp ht) (by show (PySem.W.lookIn name od).map (·.isSome) = some false; rw [hl, hv]; rfl) h

theorem set_map {ns : List Str} {Q : Unit → Shared → Prop} (X : K.In s.heap) (I : ObjM s.heap x dx C mA)
    (hs : PySem.W.findIn K (.ref C) "__setattr__" = some (some (.builtin "object.__setattr__"))) (hp : PySem.W.plainOver K C = true) (ht : PySem.W.takerIn K C name = some none) (hh : PySem.W.hasDictIn K C = true)
    (hw : PySem.Within mA ns) (hsz : ns.length ≤ sizeLine)
    (h : ∀ h', ObjM h' x dx C (fun y => if y = name then some v else mA y) → Heap.SameBut dx s.heap h' → Q () { s with heap := h', toks := s.toks + 2 }) :
    wpAny (model prog w) A (setAttr (.ref x) name v) Q E s := by
  obtain ⟨od, J, hl⟩ := I.look
  refine PySem.W.set_plain X J hs (PySem.W.osa_open (s := { s with toks := s.toks + 1 }) (r := none) X J hp ht fun b => ?_)
  obtain ⟨cd, hc, hd'⟩ := PySem.W.any_some hh
  have hx : s.heap.get? x = some ⟨.ref C, some dx, .plain, #[]⟩ := I.obj
  refine wpAny_bind (wpAny_pure (wpAny_bind (wpAny_bind (wpAny_loadPart hx (wpAny_bind (PySem.W.Looks.here (s := { s with toks := s.toks + 1 }) (PySem.W.looks_clsIn X hc) ?_))))))
  rw [hd']
  refine wpAny_pure (a := some dx) (wpAny_bind (wpAny_pure (wpAny_bind ?_)))
  refine wpAny_nsSet1 (s := { s with toks := s.toks + 1 }) I.ns fun h' hn2 hs2 => ?_
  obtain ⟨oD, esD, epD, hoD, hdD, hcD⟩ := hn2.count (PySem.Within.cons name v hw)
  refine wpAny_bind (wpAny_lookBehind hoD (by rw [hdD]; exact pastItsLine_dict (Nat.le_trans hcD (by rw [List.length_cons]; omega))) ?_)
  exact wpAny_pure (h _ ⟨(hs2.2 _ (Ne.symm I.ne)).trans I.obj, hn2, I.ne⟩ hs2)

/-- C(..): the dict at the heap's end, the instance behind it; then its __init__ -/
theorem make_map {R : Result → Shared → Prop} {vs : List Value} {kw : List (Str × Value)} (X : K.In s.heap) (hm : PySem.W.makesIn K C = true)
    (hi : PySem.W.findIn K (.ref C) "__init__" = some (some (.ref f))) (hf : PySem.W.typeIn K (.ref f) = some (.type "function"))
    (h : codeAny (model prog w) (A.under (.builtin "type.__call__" ⟨.ref C :: vs, kw⟩)) (.call (.ref f) ⟨.ref (s.heap.objs.size + 1) :: vs, kw⟩) (PySem.W.InitBack (s.heap.objs.size + 1) R)
      { s with heap := (s.heap.push PySem.W.emptyDict).push (PySem.W.instObj C s.heap.objs.size) }) :
    codeAny (model prog w) A (.call (.ref C) ⟨vs, kw⟩) R s := by
  obtain ⟨hh, g, d, t, os⟩ := s
  exact PySem.W.make_core (PySem.W.makes_of X hm) (PySem.W.looks_findIn X hi) (fun self => PySem.W.bind_fn X self hf) (.inl rfl) h
end

/-! ### the attributes as a list of pairs -/
def putF (f : Str) (v : V) : List (Str × V) → List (Str × V)
  | [] => [(f, v)]
  | (g, x) :: r => if g = f then (g, v) :: r else (g, x) :: putF f v r
theorem lookup_putF (f g : Str) (v : V) : ∀ fs : List (Str × V), (putF f v fs).lookup g = if g = f then some v else fs.lookup g
  | [] => by
    show List.lookup g [(f, v)] = _
    by_cases h : g = f
    · have hb : (g == f) = true := beq_iff_eq.mpr h
      simp only [List.lookup, hb, if_pos h]
    · have hb : (g == f) = false := beq_eq_false_iff_ne.mpr h
      simp only [List.lookup, hb, if_neg h]
  | (k, x) :: r => by
    have ih := lookup_putF f g v r
    rw [show putF f v ((k, x) :: r) = (if k = f then (k, v) :: r else (k, x) :: putF f v r) from rfl]
    by_cases hk : k = f
    · rw [if_pos hk]
      by_cases h : g = k
      · have hb : (g == k) = true := beq_iff_eq.mpr h
        simp only [List.lookup, hb, if_pos (h.trans hk)]
      · have hb : (g == k) = false := beq_eq_false_iff_ne.mpr h
        simp only [List.lookup, hb, if_neg (fun e : g = f => h (e.trans hk.symm))]
    · rw [if_neg hk]
      by_cases h : g = k
      · have hb : (g == k) = true := beq_iff_eq.mpr h
        simp only [List.lookup, hb, if_neg (fun e : g = f => hk (h.symm.trans e))]
      · have hb : (g == k) = false := beq_eq_false_iff_ne.mpr h
        simp only [List.lookup, hb]
        exact ih
theorem keys_putF (f : Str) (v : V) : ∀ fs : List (Str × V), f ∈ (putF f v fs).map (·.1) ∧ ∀ g, g ∈ fs.map (·.1) → g ∈ (putF f v fs).map (·.1)
  | [] => ⟨by simp [putF], fun g h => by simp at h⟩
  | (k, x) :: r => by
    obtain ⟨i1, i2⟩ := keys_putF f v r
    rw [show putF f v ((k, x) :: r) = (if k = f then (k, v) :: r else (k, x) :: putF f v r) from rfl]
    by_cases hk : k = f
    · rw [if_pos hk]
      subst hk
      exact ⟨by simp, fun g h => by simpa using h⟩
    · rw [if_neg hk]
      refine ⟨?_, fun g h => ?_⟩
      · rw [List.map_cons]
        exact List.mem_cons_of_mem _ i1
      · rw [List.map_cons] at h ⊢
        rcases List.mem_cons.mp h with e | e
        · exact List.mem_cons.mpr (.inl e)
        · exact List.mem_cons_of_mem _ (i2 g e)
theorem length_putF (f : Str) (v : V) : ∀ fs : List (Str × V), (putF f v fs).length ≤ fs.length + 1
  | [] => by simp [putF]
  | (k, x) :: r => by
    have ih := length_putF f v r
    rw [show putF f v ((k, x) :: r) = (if k = f then (k, v) :: r else (k, x) :: putF f v r) from rfl]
    by_cases hk : k = f
    · rw [if_pos hk, List.length_cons, List.length_cons]; omega
    · rw [if_neg hk, List.length_cons, List.length_cons]; omega

theorem RelO.some_of {v : V} {o : Option Value} (r : RelO (some v) o) : ∃ u, o = some u ∧ RelV v u := by
  cases o with
  | none => exact (show False from r).elim
  | some u => exact ⟨u, rfl, r⟩
theorem RelO.none_of {o : Option Value} (r : RelO none o) : o = none := by
  cases o with
  | none => rfl
  | some u => exact (show False from r).elim
theorem handed_of {v : V} {u : Value} (r : RelV v u) : PySem.W.handedIn u = true := by
  cases v with
  | non => cases (show u = Value.none from r); rfl
  | bl b => cases (show u = Value.bool b from r); rfl
  | int i => obtain ⟨t, e⟩ := (show ∃ t, u = Value.int i t from r); cases e; rfl
  | str x => obtain ⟨t, e⟩ := (show ∃ t, u = Value.str x t from r); cases e; rfl
  | byt b => obtain ⟨t, e⟩ := (show ∃ t, u = Value.bytes b t from r); cases e; rfl
  | flt b => obtain ⟨t, e⟩ := (show ∃ t, u = Value.float b t from r); cases e; rfl
  | ref a => cases (show u = Value.ref a from r); rfl
  | ty n => cases (show u = Value.type n from r); rfl

section
variable {P : Program} {w : World} {H H' : Hp} {h h' : Heap} {a C dx : Addr} {fs fs' : List (Str × V)}
theorem ins_get (hok : HOk P w H h) (e : H a = some (.ins C dx fs)) : ∃ mA, ObjM h a dx C mA ∧ (∀ f, RelO (fs.lookup f) (mA f)) ∧ PySem.Within mA (fs.map (·.1)) ∧ fs.length ≤ 1000 ∧ H dx = some (.own a) := by
  obtain ⟨d, z, ne, ob, mA, n, r, q⟩ := (show ObjOk P w H h a (.ins C dx fs) from hok a _ e)
  exact ⟨mA, ⟨ob, n, ne⟩, r, q, z, d⟩
end

/-! ### what of the text a class must have -/
structure Cls (K : PySem.W.Frag) (C : Addr) : Prop where
  pg : PySem.W.plainGet K C Str.empty = true
  hd : PySem.W.hasDictIn K C = true
  po : PySem.W.plainOver K C = true
  sa : PySem.W.findIn K (.ref C) "__setattr__" = some (some (.builtin "object.__setattr__"))
theorem Cls.get {K : PySem.W.Frag} {C : Addr} (c : Cls K C) (f : Str) : PySem.W.plainGet K C f = true := c.pg
/-- no class of it has the name -/
def NoAttr (K : PySem.W.Frag) (C : Addr) (f : Str) : Prop := PySem.W.findIn K (.ref C) f = some none
theorem NoAttr.taker {K : PySem.W.Frag} {C : Addr} {f : Str} (n : NoAttr K C f) : PySem.W.takerIn K C f = some none := by
  unfold PySem.W.takerIn
  rw [show PySem.W.findIn K (.ref C) f = some none from n]
  rfl
/-- a method: a plain def of the class or of one above it -/
structure Meth (K : PySem.W.Frag) (C : Addr) (m : Str) (f : Addr) : Prop where
  at_ : PySem.W.findIn K (.ref C) m = some (some (.ref f))
  fn : PySem.W.isFn K (.ref f) = true
  kp : PySem.W.keepIn K (.ref f) = true

section
variable {X : Cx} {pins : List (Addr × Obj)} {σ : St} {H : Hp} {s : Shared} {a C dx : Addr} {fs : List (Str × V)} {f : Str} {v : V} {A : Around} {E : Value → Shared → Prop}

theorem getattr_ok {b : Bool} {Q : Value → Shared → Prop} (I : Inv X pins σ H s) (e : H a = some (.ins C dx fs)) (c : Cls X.K C) (n : NoAttr X.K C f) (l : fs.lookup f = some v)
    (h : ∀ u s', Inv X pins σ H s' → RelV v u → Q u s') : wpAny (model X.prog X.w) A (getAttr (.ref a) f b) Q E s := by
  obtain ⟨mA, O, r, _, _, _⟩ := ins_get I.hok e
  obtain ⟨u, hu, ru⟩ := RelO.some_of (v := v) (o := mA f) (by rw [← l]; exact r f)
  exact get_map I.kIn O (c.get f) c.hd n hu (handed_of ru) (h u _ (I.tok _) ru)

theorem getmeth_ok {m : Str} {g : Addr} {pl : Sem Bool} {Q : Value × List Value → Shared → Prop} (I : Inv X pins σ H s) (e : H a = some (.ins C dx fs)) (c : Cls X.K C) (k : Meth X.K C m g) (l : fs.lookup m = none)
    (h : Q (.ref g, [.ref a]) s) : wpAny (model X.prog X.w) A (getMethod (.ref a) m pl) Q E s := by
  obtain ⟨mA, O, r, _, _, _⟩ := ins_get I.hok e
  have hn : mA m = none := RelO.none_of (by rw [← l]; exact r m)
  exact get_meth I.kIn O (c.get m) k.at_ k.fn hn h

theorem setattr_ok {y : V} {u : Value} {Q : Unit → Shared → Prop} (I : Inv X pins σ H s) (e : H a = some (.ins C dx fs)) (c : Cls X.K C) (n : NoAttr X.K C f) (hl : fs.length < 1000) (ry : RelV y u)
    (h : ∀ s', Inv X pins σ (upd H a (.ins C dx (putF f y fs))) s' → Q () s') : wpAny (model X.prog X.w) A (setAttr (.ref a) f u) Q E s := by
  obtain ⟨mA, O, r, wi, _, ho⟩ := ins_get I.hok e
  have hz : (fs.map (·.1)).length ≤ sizeLine := by rw [List.length_map, sizeLine_eq]; omega
  refine set_map I.kIn O c.sa c.po n.taker c.hd wi hz fun h' O' sb => h _ ?_
  have hd : ∃ o, h'.get? dx = some o := let ⟨o, _, _, e', _⟩ := O'.ns; ⟨o, e'⟩
  refine I.write (x := a) (e := dx) (by rw [e]; exact True.intro) (.inr ho) (fun b q hb z => (sb.2 b hb).trans z) hd ?_
  refine ⟨by rw [upd_ne O.ne]; exact ho, ?_, O.ne, O'.obj, _, O'.ns, fun g => ?_, fun g hg => ?_⟩
  · have := length_putF f y fs; omega
  · show RelO ((putF f y fs).lookup g) (if g = f then some u else mA g)
    rw [lookup_putF]
    by_cases q : g = f
    · rw [if_pos q, if_pos q]; exact ry
    · rw [if_neg q, if_neg q]; exact r g
  · by_cases q : g = f
    · rw [q]; exact (keys_putF f y fs).1
    · refine (keys_putF f y fs).2 g (wi g fun z => hg ?_)
      show (if g = f then some u else mA g) = none
      rw [if_neg q]; exact z

/-- a new instance, tracked, without attributes -/
theorem Inv.made (I : Inv X pins σ H s) : Inv X pins σ (upd (upd H s.heap.objs.size (.own (s.heap.objs.size + 1))) (s.heap.objs.size + 1) (.ins C s.heap.objs.size []))
    { s with heap := (s.heap.push PySem.W.emptyDict).push (PySem.W.instObj C s.heap.objs.size) } := by
  have e1 : (s.heap.push PySem.W.emptyDict).get? s.heap.objs.size = some PySem.W.emptyDict := Heap.get?_push_size s.heap rfl
  have e2 : ((s.heap.push PySem.W.emptyDict).push (PySem.W.instObj C s.heap.objs.size)).get? (s.heap.objs.size + 1) = some (PySem.W.instObj C s.heap.objs.size) := by
    have := Heap.get?_push_size (s.heap.push PySem.W.emptyDict) (o := PySem.W.instObj C s.heap.objs.size) rfl
    rwa [Heap.size_push] at this
  have e3 : (s.heap.push PySem.W.emptyDict).Ns s.heap.objs.size (fun _ => none) := ⟨PySem.W.emptyDict, #[], _, e1, rfl, (fun e he => absurd he (by simp)), fun _ => rfl⟩
  have I1 := I.laid (a := s.heap.objs.size) (o := .own (s.heap.objs.size + 1)) (h' := s.heap.push PySem.W.emptyDict) (t' := s.toks) (fun b u q => Heap.get?_push_of_some _ q) (Nat.le_refl _) ⟨_, e1⟩
  refine I1.laid (a := s.heap.objs.size + 1) (o := .ins C s.heap.objs.size []) (t' := s.toks) (fun b u q => Heap.get?_push_of_some _ q) (Nat.le_of_eq (Heap.size_push _ _)) ?_
  have ne : s.heap.objs.size ≠ s.heap.objs.size + 1 := Nat.ne_of_lt (Nat.lt_succ_self _)
  refine ⟨by rw [upd_ne ne, upd_same], Nat.zero_le _, ne, e2, fun _ => none, (Heap.Ns1.of_empty e3).at fun o q => Heap.get?_push_of_some _ q, fun _ => True.intro, fun y hy => absurd rfl hy⟩

/-- e.f where nothing but the object is asked: through attributeBase (super) and the last hold -/
theorem attr_of {prog : Program} {w : World} {env : Env} {e : Expr} {f : Str} {pos : Pos} {s : Shared} {Q : Value → Shared → Prop} (hb : attributeBase e f env (eval e env) = eval e env)
    (h : wpAny (model prog w) A (eval e env) (fun o s₁ => wpAny (model prog w) A (getAttr o f true) Q E s₁) E s) : wpAny (model prog w) A (eval (.Attribute e f pos) env) Q E s :=
  Attribute_any_ h (by rw [arm_eval_Attribute, hb])
end

/-! ### readings and rules -/
/-- e.f, an attribute of the instance -/
def tFld (K : PySem.W.Frag) (ta : TE) (f : Str) : TE := fun σ H Q => ta σ H fun x H1 => ∃ a C dx fs v, x = .ref a ∧ H1 a = some (.ins C dx fs) ∧ Cls K C ∧ NoAttr K C f ∧ fs.lookup f = some v ∧ Q v H1
/-- e.f = value -/
def sFld (K : PySem.W.Frag) (ta tv : TE) (f : Str) : TS := fun D σ H => tv σ H fun y H1 => ta σ H1 fun x H2 => ∃ a C dx fs, x = .ref a ∧ H2 a = some (.ins C dx fs) ∧ Cls K C ∧ NoAttr K C f ∧ fs.length < 1000 ∧
  D.nx σ (upd H2 a (.ins C dx (putF f y fs)))
section
variable {X : Cx} {o e value : Expr} {f : Str} {pos pos' tpos : Pos} {ta tv : TE}
theorem pe_fld (he : PE X e ta) (hb : attributeBase e f X.env (eval e X.env) = eval e X.env) : PE X (.Attribute e f pos) (tFld X.K ta f) := by
  intro pins s σ H Q I h
  refine attr_of hb (thn (he pins s σ H _ I h) fun u s1 ⟨x, H1, I1, rx, a, C, dx, fs, v, ex, ea, c, n, l, q⟩ => ?_)
  subst ex
  obtain rfl : u = Value.ref a := rx
  exact getattr_ok I1 ea c n l fun u' s2 I2 ru => ⟨v, H1, I2, ru, q⟩
theorem ps_fld (ha : PE X o ta) (hv : PE X value tv) (hs : swapsWith value (some (.Attribute o f pos')) pos.line X.env = pure false) : PS X (.Assign [.Attribute o f pos'] value pos) (sFld X.K ta tv f) := by
  intro pins s σ H D I h
  refine plainObj_wpAny_Assign_Attribute (thn (hv pins s σ H _ I h) fun u s1 ⟨y, H1, I1, ry, q⟩ => thn (ha pins s1 σ H1 _ I1 q) fun ov s2 ⟨x, H2, I2, rx, a, C, dx, fs, ex, ea, c, n, l, q2⟩ => ?_) hs
  subst ex
  obtain rfl : ov = Value.ref a := rx
  exact setattr_ok I2 ea c n l ry fun s3 I3 => ⟨σ, _, I3, q2⟩
/-- what is between an instance and its method: the tree of a method call -/
theorem methcall_of {pl : Sem Bool} {m : Str} {apos : Pos} {args : List Expr} {pins : List (Addr × Obj)} {s : Shared} {σ : St} {H : Hp} {Q : Value → Shared → Prop} {te : TE} (he : PE X e te) (I : Inv X pins σ H s)
    (h : te σ H fun x H1 => ∃ a C dx fs g, x = .ref a ∧ H1 a = some (.ins C dx fs) ∧ Cls X.K C ∧ Meth X.K C m g ∧ fs.lookup m = none ∧
      ∀ s1, Inv X pins σ H1 s1 → wpAny (model X.prog X.w) X.A (callWith pos (.ref g) [.ref a] (backTo pos (starEach args X.env)) (backToKw pos (keywordEach [] X.env))) Q X.xe s1)
    (ht : eval (.Call (.Attribute e m apos) args [] pos) X.env = (do
      let ov ← eval e X.env
      standAt apos.atName
      let (f, first) ← holding [ov] (getMethod ov m pl)
      callWith pos f first (backTo pos (starEach args X.env)) (backToKw pos (keywordEach [] X.env)))) :
    wpAny (model X.prog X.w) X.A (eval (.Call (.Attribute e m apos) args [] pos) X.env) Q X.xe s := by
  refine PySem.W.methodCall_KW (pl := pl) (thn (he pins s σ H _ I h) fun u s1 ⟨x, H1, I1, rx, a, C, dx, fs, g, ex, ea, c, k, l, q⟩ => ?_) ht
  subst ex
  obtain rfl : u = Value.ref a := rx
  exact getmeth_ok I1 ea c k l (q s1 I1)
end

/-! ### isinstance -/
section
variable {X : Cx} {pins : List (Addr × Obj)} {σ : St} {H : Hp} {s : Shared} {A : Around} {E : Value → Shared → Prop} {Q : Value → Shared → Prop} {c : Value} {b : Bool}
/-- the type of a value, as the fragment's deciders take it; for an instance its class -/
inductive TyOf (K : PySem.W.Frag) (H : Hp) : V → Value → Prop where
  | non : TyOf K H .non (.type "NoneType")
  | bl (x : Bool) : TyOf K H (.bl x) (.type "bool")
  | int (i : Int) : TyOf K H (.int i) (.type "int")
  | str (x : Str) : TyOf K H (.str x) (.type "str")
  | flt (x : UInt64) : TyOf K H (.flt x) (.type "float")
  | lst {a : Addr} {xs : List V} (e : H a = some (.lst xs)) : TyOf K H (.ref a) (.type "list")
  | frz {a : Addr} {o : Obj} {xs : List V} (e : H a = some (.frz o (.lst xs))) : TyOf K H (.ref a) (.type "list")
  | tup {a : Addr} {xs : List V} (e : H a = some (.tup xs)) : TyOf K H (.ref a) (.type "tuple")
  | dK {a : Addr} {kvs : List (Key × V)} (e : H a = some (.dK kvs)) : TyOf K H (.ref a) (.type "dict")
  | dT {a : Addr} {kvs : List (List Key × V)} (e : H a = some (.dT kvs)) : TyOf K H (.ref a) (.type "dict")
  | ins {a C dx : Addr} {fs : List (Str × V)} (e : H a = some (.ins C dx fs)) (cl : Cls K C) (ha : PySem.W.findIn K (.ref C) "__class__" = some (some (.builtin "object.__class__")))
      (hn : PySem.W.specialIn K (.builtin "object.__class__") "__get__" = some (some (.builtin "getset_descriptor.__get__"))) (htk : PySem.W.takesIn K (.builtin "object.__class__") = some true)
      (hm : PySem.W.mroIn K C (.type "object") = some true) : TyOf K H (.ref a) (.ref C)
/-- isinstance(x, c) for one class c, a built-in or an own one: kitOne's answer -/
theorem isinst_ok {x : V} {u t : Value} (I : Inv X pins σ H s) (rx : RelV x u) (ty : TyOf X.K H x t) (e : PySem.W.kitOne X.K t c = some b) (h : ∀ tk, Q (.bool b) { s with toks := tk }) :
    wpAny (model X.prog X.w) A (call (.builtin "isinstance") [u, c]) Q E s := by
  cases ty with
  | non => cases (show u = Value.none from rx); exact PySem.W.kia_one PySem.W.kitx_none I.kIn True.intro e (fun z => nomatch z) h
  | bl y => cases (show u = Value.bool y from rx); exact PySem.W.kia_one PySem.W.kitx_bool I.kIn True.intro e (fun z => nomatch z) h
  | int i => obtain ⟨t, q⟩ := (show ∃ t, u = Value.int i t from rx); cases q; exact PySem.W.kia_one PySem.W.kitx_int I.kIn True.intro e (fun z => nomatch z) h
  | str y => obtain ⟨t, q⟩ := (show ∃ t, u = Value.str y t from rx); cases q; exact PySem.W.kia_one PySem.W.kitx_str I.kIn True.intro e (fun z => nomatch z) h
  | flt y => obtain ⟨t, q⟩ := (show ∃ t, u = Value.float y t from rx); cases q; exact PySem.W.kia_one PySem.W.kitx_float I.kIn True.intro e (fun z => nomatch z) h
  | @lst a xs ea =>
    cases (show u = Value.ref a from rx)
    obtain ⟨_, _, n, _, h1⟩ := (show ObjOk X.prog X.w H s.heap a (.lst xs) from I.hok a _ ea)
    exact PySem.W.kia_one PySem.W.kitx_list I.kIn ⟨_, h1, rfl⟩ e (fun z => nomatch z) h
  | @frz a ob xs ea =>
    cases (show u = Value.ref a from rx)
    obtain ⟨_, _, _, n, _, h1⟩ := (show ObjOk X.prog X.w H s.heap a (.frz ob (.lst xs)) from I.hok a _ ea)
    exact PySem.W.kia_one PySem.W.kitx_list I.kIn ⟨_, h1, rfl⟩ e (fun z => nomatch z) h
  | @tup a xs ea =>
    cases (show u = Value.ref a from rx)
    obtain ⟨_, _, _, p⟩ := (show ObjOk X.prog X.w H s.heap a (.tup xs) from I.hok a _ ea)
    obtain ⟨o, h1, h2, _⟩ := p
    exact PySem.W.kia_one PySem.W.kitx_tuple I.kIn ⟨o, h1, h2⟩ e (fun z => nomatch z) h
  | @dK a kvs ea =>
    cases (show u = Value.ref a from rx)
    obtain ⟨_, _, vs, _, p⟩ := (show ObjOk X.prog X.w H s.heap a (.dK kvs) from I.hok a _ ea)
    obtain ⟨o, es, ep, h1, h2, _⟩ := p
    exact PySem.W.kia_one PySem.W.kitx_dict I.kIn ⟨o, h1, h2.1⟩ e (fun z => nomatch z) h
  | @dT a kvs ea =>
    cases (show u = Value.ref a from rx)
    obtain ⟨_, _, xs, _, o, es, ep, h1, h2, _⟩ := (show ObjOk X.prog X.w H s.heap a (.dT kvs) from I.hok a _ ea)
    exact PySem.W.kia_one PySem.W.kitx_dict I.kIn ⟨o, h1, h2.1⟩ e (fun z => nomatch z) h
  | @ins a C dx fs ea cl ha hn htk hm =>
    cases (show u = Value.ref a from rx)
    obtain ⟨mA, O, _⟩ := ins_get I.hok ea
    obtain ⟨od, J, _⟩ := O.look
    exact PySem.W.kia_one (PySem.W.kitx_own (cl.get _) cl.hd ha hn htk hm) I.kIn J e (fun z => nomatch z) h
end
end L2

namespace L2
open PySem PySem.Spec PyProof.Rows

/-! ### room -/
structure Room (k : Nat) (A : Around) : Prop where
  hd : A.handled = none
  dp : A.depth + 3 * k + 5 < recursionLimit
  un : A.units + 16 * k + 200 < cLine
theorem Room.mono {j k : Nat} {A : Around} (r : Room k A) (h : j ≤ k) : Room j A := ⟨r.hd, by have := r.dp; omega, by have := r.un; omega⟩
theorem Room.deeper {k : Nat} {A : Around} (r : Room (k + 1) A) (env : Env) : Room k (A.deeper env) :=
  ⟨r.hd, by have := r.dp; show A.depth + 1 + 3 * k + 5 < _; omega, by have := r.un; show A.units + 3 + 16 * k + 200 < _; omega⟩
theorem make_depth {A : Around} {C : Addr} {us : List Value} {kw : List (Str × Value)} : (A.under (.builtin "type.__call__" ⟨.ref C :: us, kw⟩)).depth = A.depth + 1 := by
  first | rfl | simp [Around.under, Code.weight, Code.isCreation, Code.isGuard, Code.isCaller, Code.frames, Code.isFrame, guardIds]
theorem make_units {A : Around} {C : Addr} {us : List Value} {kw : List (Str × Value)} : (A.under (.builtin "type.__call__" ⟨.ref C :: us, kw⟩)).units = A.units + 1 := by
  first | rfl | simp [Around.under, Code.cUnits, Code.frames, Code.isFrame]
theorem Room.make {k : Nat} {A : Around} (r : Room (k + 1) A) (C : Addr) (us : List Value) (kw : List (Str × Value)) : Room k (A.under (.builtin "type.__call__" ⟨.ref C :: us, kw⟩)) :=
  ⟨r.hd, by have := r.dp; rw [make_depth]; omega, by have := r.un; rw [make_units]; omega⟩
theorem Room.depth {k : Nat} {A : Around} (r : Room k A) : A.depth < recursionLimit := by have := r.dp; omega
theorem Room.units {k : Nat} {A : Around} (r : Room k A) : A.units + 64 < cLine := by have := r.un; omega
/-! ### argument lists and displays -/
def tNil : TA := fun _ H Q => Q [] H
def tCons (ta : TE) (tr : TA) : TA := fun σ H Q => ta σ H fun x H1 => tr σ H1 fun xs H2 => Q (x :: xs) H2
section
variable {X : Cx} {e : Expr} {es : List Expr} {te : TE} {t : TA} {pos : Pos}
theorem pa_nil : PA X [] tNil := fun _ _ _ _ H Q I h => Calls.spliced_nil ⟨[], H, I, .nil, h⟩
theorem pa_cons (ha : PE X e te) (hr : PA X es t) (hs : starEach (e :: es) X.env = (false, eval e X.env) :: starEach es X.env := by rfl) : PA X (e :: es) (tCons te t) := by
  intro pos pins s σ H Q I h
  rw [hs]
  show wpAny _ _ (spliced ((false, eval e X.env) :: backTo pos (starEach es X.env))) _ _ s
  refine Calls.spliced_cons (thn (ha pins s σ H _ I h) fun u s1 ⟨x, H1, I1, r1, q1⟩ => ?_)
  exact thn (hr pos pins s1 σ H1 _ I1 q1) fun us s2 ⟨xs, H2, I2, r2, q2⟩ => ⟨x :: xs, H2, I2, .cons r1 r2, q2⟩

/-- a tuple, a list of written items -/
def tTup (t : TA) : TE := fun σ H Q => t σ H fun xs H1 => xs.length ≤ sizeLine ∧ ∀ p, H1 p = none → Q (.ref p) (upd H1 p (.tup xs))
def tLst (t : TA) : TE := fun σ H Q => t σ H fun xs H1 => xs.length ≤ sizeLine ∧ ∀ p, H1 p = none → Q (.ref p) (upd H1 p (.lst xs))
theorem pe_tup {x1} (h : PA X es t) : PE X (.Tuple es x1 pos) (tTup t) := by
  intro pins s σ H Q I hq
  refine wpAny_Tuple_spliced (thn (h pos pins s σ H _ I hq) fun us s1 ⟨xs, H1, I1, r, z, q⟩ => ⟨by rw [← r.length]; exact z, ?_⟩)
  have hf : H1 s1.heap.objs.size = none := I1.hok.fresh (Nat.le_refl _)
  refine ⟨.ref s1.heap.objs.size, upd H1 s1.heap.objs.size (.tup xs), I1.laid (t' := s1.toks) (fun b u e => Heap.get?_push_of_some _ e) (Nat.le_refl _) ?_, rfl, q _ hf⟩
  exact ⟨z, us, r, ⟨_, Heap.get?_push_size _ rfl, rfl, _, rfl⟩⟩
theorem pe_lst (h : PA X es t) : PE X (.List es pos) (tLst t) := by
  intro pins s σ H Q I hq
  refine wpAny_List_spliced (thn (h pos pins s σ H _ I hq) fun us s1 ⟨xs, H1, I1, r, z, q⟩ => ⟨by rw [← r.length]; exact z, ?_⟩)
  have hf : H1 s1.heap.objs.size = none := I1.hok.fresh (Nat.le_refl _)
  refine ⟨.ref s1.heap.objs.size, upd H1 s1.heap.objs.size (.lst xs), I1.laid (t' := s1.toks) (fun b u e => Heap.get?_push_of_some _ e) (Nat.le_refl _) ?_, rfl, q _ hf⟩
  exact ⟨z, us, 0, r, Heap.get?_push_size _ rfl⟩
end

/-! ### what a def promises -/
/-- a def's promise: the bound arguments in the parameters' order, the heap, the wanted end, the wanted exception -/
abbrev Sp := List V → Hp → VK → XK → Prop
/-- how an exception lies behind a call (file 08 gives it): the callers' frames, abstract heap and state ahead of the call, the wish, the exception, the state -/
abbrev CXT := List Env → Hp → Shared → XK → Value → Shared → Prop

/-- the state at a call -/
structure Env0 (P : Program) (w : World) (K : PySem.W.Frag) (mg : Str → Option Value) (base : Heap) (A : Around) (outer : List Env) (s : Shared) (H : Hp) : Prop where
  frames : A.frames = some outer
  mod : Mod K mg base
  bs : ∀ b o, base.get? b = some o → s.heap.get? b = some o ∧ H b = none
  bsz : base.objs.size ≤ s.heap.objs.size
  funs : s.heap.FunFrames base outer
  frf : ∀ b ∈ frs outer, H b = none
  hok : HOk P w H s.heap
  bare : AllBare s.gens
/-- a call's end -/
def CE (outer : List Env) (P : Program) (w : World) (H : Hp) (s : Shared) (Q : VK) (u : Value) (s' : Shared) : Prop :=
  ∃ v H', s'.os = s.os ∧ AllBare s'.gens ∧ Un (frs outer) [] H H' s.heap s'.heap ∧ HOk P w H' s'.heap ∧ RelV v u ∧ Q v H'
def CR (CX : CXT) (outer : List Env) (P : Program) (w : World) (H : Hp) (s : Shared) (Q : VK) (E : XK) (r : Result) (s' : Shared) : Prop :=
  match r with
  | .ok (.ret u) => CE outer P w H s Q u s'
  | .ok _ => False
  | .error e => CX outer H s E e s'
structure FnOk (P : Program) (w : World) (K : PySem.W.Frag) (mg : Str → Option Value) (base : Heap) (CX : CXT) (k : Nat) (f : Addr) (fd : FuncData) (ps : List Str) (sp : Sp) : Prop where
  len : ∀ vs H Q E, sp vs H Q E → vs.length = ps.length
  run : ∀ (A : Around) (outer : List Env) (s : Shared) (H : Hp) (args : Args) (us : List Value) (vs : List V) (Q : VK) (E : XK), Room k A → Env0 P w K mg base A outer s H → BindsTo s fd args (ps.zip us) → Vals vs us → sp vs H Q E →
    codeAny (model P w) A (.call (.ref f) args) (CR CX outer P w H s Q E) s
theorem Env0.make {P : Program} {w : World} {K : PySem.W.Frag} {mg : Str → Option Value} {base : Heap} {A : Around} {outer : List Env} {s : Shared} {H : Hp} (e : Env0 P w K mg base A outer s H) (C : Addr) (us : List Value) (kw : List (Str × Value)) :
    Env0 P w K mg base (A.under (.builtin "type.__call__" ⟨.ref C :: us, kw⟩)) outer s H := ⟨by first | exact e.frames | (simpa [Around.under, Code.envs, Code.isFrame, pushEnvs] using e.frames), e.mod, e.bs, e.bsz, e.funs, e.frf, e.hok, e.bare⟩
section
variable {X : Cx} {pins : List (Addr × Obj)} {σ : St} {H : Hp} {s s' : Shared}
/-- from a body: what a callee wants -/
theorem Inv.env0 (I : Inv X pins σ H s) : Env0 X.prog X.w X.K X.mg X.base X.A X.stack s H :=
  ⟨I.ok.frames, I.ok.mod, I.bs, Nat.le_trans I.ok.bsz I.sz, I.stack, I.stkFree, I.hok, I.bare⟩
/-- behind a call -/
theorem Inv.after {Q : VK} {u : Value} (I : Inv X pins σ H s) (h : CE X.stack X.prog X.w H s Q u s') : EP X pins σ Q u s' := by
  obtain ⟨v, H', os, bare, un, hok, r, q⟩ := h
  obtain ⟨hh, g, d, t, os'⟩ := s'
  obtain rfl : os' = s.os := os
  exact ⟨v, H', I.call (h' := hh) (g' := g) (d' := d) (t' := t) (ch := []) un hok bare (fun b z => absurd z (by simp)), r, q⟩
end

/-! ### calls -/
/-- f(..): the written arguments, then the defaults dvs; E: what is wanted of an exception -/
def tCall (sp : Sp) (dvs : List V) (E : XK) (t : TA) : TE := fun σ H Q => t σ H fun vs H1 => sp (vs ++ dvs) H1 Q E
/-- o.m(..) of an instance of the class at C -/
def tMeth (C : Addr) (m : Str) (sp : Sp) (dvs : List V) (E : XK) (ta : TE) (t : TA) : TE := fun σ H Q => ta σ H fun x H1 => ∃ a dx fs, x = .ref a ∧ H1 a = some (.ins C dx fs) ∧ fs.lookup m = none ∧
  t σ H1 fun vs H2 => sp (x :: (vs ++ dvs)) H2 Q E
/-- C(..): a new instance and its dict, then __init__ -/
def tMake (C : Addr) (sp : Sp) (dvs : List V) (E : XK) (t : TA) : TE := fun σ H Q => t σ H fun vs H1 => ∀ x dx, H1 x = none → H1 dx = none → dx ≠ x →
  sp (.ref x :: (vs ++ dvs)) (upd (upd H1 dx (.own x)) x (.ins C dx [])) (fun v H2 => v = .non ∧ Q (.ref x) H2) E

/-- how the parameters are bound: us the positional arguments, kw the keywords' values by name, ds the defaults that fill up -/
def Binds (K : PySem.W.Frag) (fd : FuncData) (ps : List Str) (ds : List Value) : Prop :=
  ∀ (s : Shared) (us : List Value), K.In s.heap → (us ++ ds).length = ps.length → BindsTo s fd ⟨us, []⟩ (ps.zip (us ++ ds))
/-- every parameter is given -/
theorem Binds.all {K : PySem.W.Frag} {fd : FuncData} {ps : List Str} (h : ∀ us : List Value, us.length = ps.length → bindArgs fd ⟨us, []⟩ = pure (ps.zip us)) : Binds K fd ps [] := fun s us _ hl => by
  rw [List.append_nil] at hl ⊢
  exact .of_eq (h us hl)

/-- an exception of a callee reaches what this body wants of exceptions -/
def Passes (CX : CXT) (X : Cx) (E : XK) : Prop := ∀ (pins : List (Addr × Obj)) (σ : St) (H : Hp) (s : Shared) (e : Value) (s' : Shared), Inv X pins σ H s → CX X.stack H s E e s' → X.xe e s'

section
variable {X : Cx} {CX : CXT} {k : Nat} {f C : Addr} {fd : FuncData} {ps : List Str} {sp : Sp} {dvs : List V} {ds : List Value} {E : XK} {x m : Str} {p pos apos : Pos} {e o : Expr} {es : List Expr} {ta : TE} {t : TA}

/-- the callee runs -/
theorem run_fn {pins : List (Addr × Obj)} {σ : St} {H : Hp} {s : Shared} {Q : VK} {us : List Value} {vs : List V} (F : FnOk X.prog X.w X.K X.mg X.base CX k f fd ps sp) (hr : Room k X.A) (hb : Binds X.K fd ps ds) (hd : Vals dvs ds) (hx : Passes CX X E)
    (I : Inv X pins σ H s) (r : Vals vs us) (h : sp (vs ++ dvs) H Q E) : wpAny (model X.prog X.w) X.A (call (.ref f) us) (EP X pins σ Q) X.xe s := by
  have r2 : Vals (vs ++ dvs) (us ++ ds) := r.append hd
  have hl : (us ++ ds).length = ps.length := by rw [← r2.length]; exact F.len _ _ _ _ h
  refine wpAny_call (codeAny_mono (F.run X.A X.stack s H ⟨us, []⟩ (us ++ ds) (vs ++ dvs) Q E hr I.env0 (hb s us I.kIn hl) r2 h) fun r s' hq => ?_)
  cases r with
  | error e => exact hx pins σ H s e s' I hq
  | ok fl =>
    cases fl with
    | ret u => exact I.after hq
    | next => exact False.elim hq
    | brk => exact False.elim hq
    | cont => exact False.elim hq

theorem pe_call (F : FnOk X.prog X.w X.K X.mg X.base CX k f fd ps sp) (hr : Room k X.A) (hg : Gl X x) (hm : X.mg x = some (.ref f)) (hk : PySem.W.keepIn X.K (.ref f) = true) (hb : Binds X.K fd ps ds) (hd : Vals dvs ds) (hx : Passes CX X E)
    (ha : PA X (e :: es) t) (hdb : (x == ("__debug__" : Str)) = false := by decide) (he : starEach (e :: es) X.env = (false, eval e X.env) :: starEach es X.env := by rfl) (hpl : (backTo pos (starEach es X.env)).any (·.1) = false := by rfl) :
    PE X (.Call (.Name x p) (e :: es) [] pos) (tCall sp dvs E t) := by
  intro pins s σ H Q I h
  refine wpAny_Call_Name_kw (ld_glob I hg hm ?_ hdb)
  refine PySem.W.callWith_K (h₀ := X.base) I.ok.mod.kin hk (thn (ha pos pins s σ H _ I h) fun us s1 ⟨vs, H1, I1, r, q⟩ => ⟨I1.kIn, ?_⟩) he hpl
  exact run_fn F hr hb hd hx I1 r q
theorem pe_call0 (F : FnOk X.prog X.w X.K X.mg X.base CX k f fd ps sp) (hr : Room k X.A) (hg : Gl X x) (hm : X.mg x = some (.ref f)) (hk : PySem.W.keepIn X.K (.ref f) = true) (hb : Binds X.K fd ps ds) (hd : Vals dvs ds) (hx : Passes CX X E)
    (hdb : (x == ("__debug__" : Str)) = false := by decide) : PE X (.Call (.Name x p) [] [] pos) (tCall sp dvs E tNil) := by
  intro pins s σ H Q I h
  refine wpAny_Call_Name_kw (ld_glob I hg hm ?_ hdb)
  exact PySem.W.callWith_K0 I.kIn hk (run_fn (us := []) F hr hb hd hx I .nil h)

/-- o.m(e, ..) -/
theorem pe_meth {pl : Sem Bool} (he : PE X o ta) (c : Cls X.K C) (hm : Meth X.K C m f) (F : FnOk X.prog X.w X.K X.mg X.base CX k f fd ps sp) (hr : Room k X.A) (hb : Binds X.K fd ps ds) (hd : Vals dvs ds) (hx : Passes CX X E) (ha : PA X (e :: es) t)
    (hst : starEach (e :: es) X.env = (false, eval e X.env) :: starEach es X.env := by rfl) (hpl : (backTo pos (starEach es X.env)).any (·.1) = false := by rfl)
    (ht : eval (.Call (.Attribute o m apos) (e :: es) [] pos) X.env = (do
      let ov ← eval o X.env
      standAt apos.atName
      let (f, first) ← holding [ov] (getMethod ov m pl)
      callWith pos f first (backTo pos (starEach (e :: es) X.env)) (backToKw pos (keywordEach [] X.env))) := by rfl) :
    PE X (.Call (.Attribute o m apos) (e :: es) [] pos) (tMeth C m sp dvs E ta t) := by
  intro pins s σ H Q I h
  refine PySem.W.methodCall_KW (pl := pl) (thn (he pins s σ H _ I h) fun u s1 ⟨x, H1, I1, rx, a, dx, fs, ex, ea, l, q⟩ => ?_) ht
  subst ex
  obtain rfl : u = Value.ref a := rx
  refine getmeth_ok I1 ea c hm l ?_
  refine PySem.W.callWith_K (first := [.ref a]) (h₀ := X.base) I.ok.mod.kin hm.kp (thn (ha pos pins s1 σ H1 _ I1 q) fun us s2 ⟨vs, H2, I2, r, q2⟩ => ⟨I2.kIn, ?_⟩) hst hpl
  exact run_fn (us := .ref a :: us) (vs := .ref a :: vs) F hr hb hd hx I2 (.cons rfl r) q2
/-- what a class must have to be made -/
structure Mk (K : PySem.W.Frag) (C f : Addr) : Prop where
  makes : PySem.W.makesIn K C = true
  init : PySem.W.findIn K (.ref C) "__init__" = some (some (.ref f))
  fn : PySem.W.isFn K (.ref f) = true
  kp : PySem.W.keepIn K (.ref C) = true

theorem run_make {pins : List (Addr × Obj)} {σ : St} {H : Hp} {s : Shared} {Q : VK} {us : List Value} {vs : List V} (M : Mk X.K C f) (F : FnOk X.prog X.w X.K X.mg X.base CX k f fd ps sp) (hr : Room (k + 1) X.A) (hb : Binds X.K fd ps ds) (hd : Vals dvs ds)
    (hx : Passes CX X E) (I : Inv X pins σ H s) (r : Vals vs us)
    (h : ∀ x dx, H x = none → H dx = none → dx ≠ x → sp (.ref x :: (vs ++ dvs)) (upd (upd H dx (.own x)) x (.ins C dx [])) (fun v H2 => v = .non ∧ Q (.ref x) H2) E) :
    wpAny (model X.prog X.w) X.A (call (.ref C) us) (EP X pins σ Q) X.xe s := by
  have hq := h (s.heap.objs.size + 1) s.heap.objs.size (I.hok.fresh (Nat.le_succ _)) (I.hok.fresh (Nat.le_refl _)) (Nat.ne_of_lt (Nat.lt_succ_self _))
  have I2 := Inv.made (C := C) I
  have r2 : Vals (V.ref (s.heap.objs.size + 1) :: (vs ++ dvs)) (Value.ref (s.heap.objs.size + 1) :: (us ++ ds)) := .cons rfl (r.append hd)
  have hl : (Value.ref (s.heap.objs.size + 1) :: us ++ ds).length = ps.length := by
    have e := r2.length
    rw [F.len _ _ _ _ hq] at e
    exact e.symm
  refine wpAny_call (make_map (f := f) I.kIn M.makes M.init (beq_iff_eq.mp M.fn) (codeAny_mono (F.run _ X.stack _ _ ⟨Value.ref (s.heap.objs.size + 1) :: us, []⟩ (Value.ref (s.heap.objs.size + 1) :: (us ++ ds)) _ _ E (hr.make C us [])
    (I2.env0.make C us []) (hb _ (Value.ref (s.heap.objs.size + 1) :: us) I2.kIn hl) r2 hq) fun r s' hq' => ?_))
  cases r with
  | error e => exact hx pins σ _ _ e s' I2 hq'
  | ok fl =>
    cases fl with
    | ret u =>
      obtain ⟨v, H', I3, rv, ev, q3⟩ := I2.after hq'
      subst ev
      exact ⟨rv, ⟨V.ref (s.heap.objs.size + 1), H', I3, rfl, q3⟩⟩
    | next => exact False.elim hq'
    | brk => exact False.elim hq'
    | cont => exact False.elim hq'
theorem pe_make (M : Mk X.K C f) (F : FnOk X.prog X.w X.K X.mg X.base CX k f fd ps sp) (hr : Room (k + 1) X.A) (hg : Gl X x) (hm : X.mg x = some (.ref C)) (hb : Binds X.K fd ps ds) (hd : Vals dvs ds) (hx : Passes CX X E)
    (ha : PA X (e :: es) t) (hdb : (x == ("__debug__" : Str)) = false := by decide) (he : starEach (e :: es) X.env = (false, eval e X.env) :: starEach es X.env := by rfl) (hpl : (backTo pos (starEach es X.env)).any (·.1) = false := by rfl) :
    PE X (.Call (.Name x p) (e :: es) [] pos) (tMake C sp dvs E t) := by
  intro pins s σ H Q I h
  refine wpAny_Call_Name_kw (ld_glob I hg hm ?_ hdb)
  refine PySem.W.callWith_K (h₀ := X.base) I.ok.mod.kin M.kp (thn (ha pos pins s σ H _ I h) fun us s1 ⟨vs, H1, I1, r, q⟩ => ⟨I1.kIn, ?_⟩) he hpl
  exact run_make M F hr hb hd hx I1 r q
end

/-! ### keywords -/
section
variable {X : Cx} {CX : CXT} {k : Nat} {f C : Addr} {fd : FuncData} {ps ks : List Str} {sp : Sp} {E : XK} {x m : Str} {p pos apos kpos : Pos} {e o : Expr} {es : List Expr} {kws : List Keyword} {te ta : TE} {t tk : TA} {nm : Option Str}
variable {g : List Value → List Value → List Value} {gV : List V → List V → List V}
end

/-! ### a def's body keeps its promise -/
/-- names: the parameters first -/
structure FnScope (N P : List Str) (sc : Scope) : Prop where
  kind : sc.kind = .function
  co : sc.isCoroutine = false
  gen : sc.isGenerator = false
  nd : N.Nodup
  pre : N.take P.length = P
  par : ∀ x ∈ P, sc.names.lookup x = some .local ∨ sc.names.lookup x = some .cell
  nofree : ∀ y ∈ sc.names, y.2 ≠ .free

theorem bindL_out {kindOf : Str → Option NameKind} {x : Str} : ∀ {binds : List (Str × Value)} {m : Str → Option Value}, (∀ v, (x, v) ∉ binds) → bindL kindOf binds m x = m x
  | [], _, _ => rfl
  | (n, v) :: r, m, h => by
    unfold bindL
    rw [bindL_out fun w hw => h w (List.mem_cons_of_mem _ hw)]
    split
    · have : x ≠ n := by rintro rfl; exact h v List.mem_cons_self
      simp [this]
    · rfl
theorem bindC_out {kindOf : Str → Option NameKind} {x : Str} : ∀ {binds : List (Str × Value)} {m : Str → Option Value}, (∀ v, (x, v) ∉ binds) → bindC kindOf binds m x = m x
  | [], _, _ => rfl
  | (n, v) :: r, m, h => by
    unfold bindC
    rw [bindC_out fun w hw => h w (List.mem_cons_of_mem _ hw)]
    split
    · rfl
    · have : x ≠ n := by rintro rfl; exact h v List.mem_cons_self
      simp [this]
theorem bindL_get {kindOf : Str → Option NameKind} {x : Str} {v : Value} : ∀ {P : List Str} {vs : List Value} {i : Nat} {m : Str → Option Value}, P.Nodup → P[i]? = some x → vs[i]? = some v → kindOf x = some .local →
    bindL kindOf (P.zip vs) m x = some v
  | [], _, _, _, _, h, _, _ => by simp at h
  | _ :: _, [], _, _, _, _, h, _ => by simp at h
  | p :: P, w :: vs, 0, m, nd, h1, h2, hk => by
    simp at h1 h2; subst h1; subst h2
    show bindL kindOf ((p, w) :: P.zip vs) m p = _
    unfold bindL
    rw [bindL_out fun v hv => (List.nodup_cons.mp nd).1 (List.of_mem_zip hv).1, if_pos hk]
    simp
  | p :: P, w :: vs, i + 1, m, nd, h1, h2, hk => by
    show bindL kindOf ((p, w) :: P.zip vs) m x = _
    unfold bindL
    exact bindL_get (i := i) (List.nodup_cons.mp nd).2 (by simpa using h1) (by simpa using h2) hk
theorem bindC_get {kindOf : Str → Option NameKind} {x : Str} {v : Value} : ∀ {P : List Str} {vs : List Value} {i : Nat} {m : Str → Option Value}, P.Nodup → P[i]? = some x → vs[i]? = some v → kindOf x ≠ some .local →
    bindC kindOf (P.zip vs) m x = some v
  | [], _, _, _, _, h, _, _ => by simp at h
  | _ :: _, [], _, _, _, _, h, _ => by simp at h
  | p :: P, w :: vs, 0, m, nd, h1, h2, hk => by
    simp at h1 h2; subst h1; subst h2
    show bindC kindOf ((p, w) :: P.zip vs) m p = _
    unfold bindC
    rw [bindC_out fun v hv => (List.nodup_cons.mp nd).1 (List.of_mem_zip hv).1, if_neg hk]
    simp
  | p :: P, w :: vs, i + 1, m, nd, h1, h2, hk => by
    show bindC kindOf ((p, w) :: P.zip vs) m x = _
    unfold bindC
    exact bindC_get (i := i) (List.nodup_cons.mp nd).2 (by simpa using h1) (by simpa using h2) hk

/-- the names' values at the entry -/
def start (N : List Str) (vs : List V) : St := vs.map some ++ List.replicate (N.length - vs.length) none

/-- the context of a def's body, at its entry; an exception leaves the frame, then lies as CX says -/
def cxOf (CX : CXT) (P : Program) (w : World) (K : PySem.W.Frag) (mg : Str → Option Value) (base : Heap) (N : List Str) (qual : Str) (scope : Scope) (f : Addr) (cd : Value) (A : Around) (outer : List Env) (s : Shared) (H : Hp) (E : XK) : Cx where
  prog := P
  w := w
  K := K
  mg := mg
  base := base
  A := A.deeper (envOfC qual scope s.heap.objs.size f cd)
  N := N
  s₀ := s
  H₀ := H
  env := envOfC qual scope s.heap.objs.size f cd
  outer := outer
  stack := envOfC qual scope s.heap.objs.size f cd :: outer
  ex := []
  calm := true
  fn := fun _ => true
  pn := []
  xe := fun e s' => wpAny (model P w) (A.deeper (envOfC qual scope s.heap.objs.size f cd)) (leaving (envOfC qual scope s.heap.objs.size f cd) e) (fun _ s'' => CX outer H s E e s'') (fun e' s'' => CX outer H s E e' s'') s'

theorem cell_has {sc : Scope} {n : Nat} {x : Str} (h : sc.names.lookup x = some .cell) : ∃ c, (cellsFrom n sc.names []).lookup x = some c := by
  have q := PySem.W.cellsFrom_some sc.names n [] (.inl h)
  exact Option.isSome_iff_exists.mp q

theorem inv_start {CX : CXT} {P : Program} {w : World} {K : PySem.W.Frag} {mg : Str → Option Value} {base : Heap} {N ps : List Str} {qual : Str} {scope : Scope} {f : Addr} {cd : Value} {A : Around} {outer : List Env} {s s1 : Shared} {H : Hp} {E : XK} {us : List Value} {vs : List V}
    (S : FnScope N ps scope) (hd : A.handled = none) (e0 : Env0 P w K mg base A outer s H) (hl : vs.length = ps.length) (r : Vals vs us)
    (x : InCallC s s.heap.objs.size (bindL (envOfC qual scope s.heap.objs.size f cd).kindOf (ps.zip us) fun _ => none) (cellsFrom (s.heap.objs.size + 1) scope.names []) (bindC (envOfC qual scope s.heap.objs.size f cd).kindOf (ps.zip us) fun _ => none) s1) :
    Inv (cxOf CX P w K mg base N qual scope f cd A outer s H E) [] (start N vs) H s1 := by
  have hpl : ps.length ≤ N.length := by have := congrArg List.length S.pre; rw [List.length_take] at this; omega
  obtain ⟨h1, tk, rfl, hk⟩ := x.done
  have noA : ∀ b : Addr, b ∉ (cxOf CX P w K mg base N qual scope f cd A outer s H E).ex := fun b z => absurd (show b ∈ ([] : List Addr) from z) (by simp)
  refine ⟨⟨e0.mod, S.kind, rfl, rfl, Nat.le_refl _, fun y z c h1 h2 => ?_, fun y hy => ?_, fun y c _ h => ?_, fun _ => hd, Around.frames_deeper e0.frames, .inr ⟨rfl, rfl⟩, fun b z => absurd z (noA b), e0.bs, e0.bsz, fun b _ _ => noA b, fun b z => absurd z (noA b), e0.funs, e0.frf⟩,
    rfl, e0.bare, Un.kept hk, ⟨_, x.toInCall.ns, fun i y v h1 h2 h3 => ?_⟩, fun y c h => ⟨_, x.cell y c h⟩, e0.hok.fresh (Nat.le_refl _), fun y c h => ?_, fun p hp => absurd (show p ∈ ([] : List (Addr × Obj)) from hp) (by simp), e0.hok.kept hk, ?_⟩
  · exact name_of_addr x.apart (PySem.mem_of_lookup h1) (PySem.mem_of_lookup h2)
  · have hy : scope.names.lookup y = some .cell ∨ scope.names.lookup y = some .free := hy
    rcases hy with hy | hy
    · exact cell_has hy
    · exact absurd rfl (S.nofree _ (PySem.mem_of_lookup hy))
  · exact Nat.le_of_lt (x.above y c (PySem.mem_of_lookup h))
  · have hi : i < vs.length := by
      unfold start at h2
      by_cases hi : i < vs.length
      · exact hi
      · rw [List.getElem?_append_right (by simpa using hi)] at h2
        rw [List.getElem?_replicate] at h2
        split at h2 <;> cases h2
    have ha : vs[i]? = some v := by
      unfold start at h2
      rw [List.getElem?_append_left (by simpa using hi), List.getElem?_map] at h2
      cases e : vs[i]? with
      | none => rw [e] at h2; cases h2
      | some a => rw [e] at h2; cases h2; rfl
    obtain ⟨u, hu, rv⟩ := r.get ha
    have hp : ps[i]? = some y := by
      rw [← S.pre, List.getElem?_take_of_lt (by omega)]; exact h1
    have ndP : ps.Nodup := by rw [← S.pre]; exact S.nd.sublist (List.take_sublist _ _)
    refine ⟨u, rv, ?_⟩
    rcases S.par y (List.mem_of_getElem? hp) with k | k
    · exact .inl ⟨k, bindL_get ndP hp hu k⟩
    · obtain ⟨c, e⟩ := cell_has (n := s.heap.objs.size + 1) k
      refine .inr ⟨.inl k, c, e, ?_⟩
      have q := x.cell y c e
      rw [bindC_get ndP hp hu (by show scope.names.lookup y ≠ _; rw [k]; decide)] at q
      exact q
  · exact e0.hok.fresh (Nat.le_of_lt (x.above y c (PySem.mem_of_lookup h)))
  · unfold start
    show _ = N.length
    rw [List.length_append, List.length_map, List.length_replicate]
    omega

/-- THE RULE: a def (or a method) of the text, by its body. The body's reading t is chosen for each entry; it is run at the parameters' values -/
theorem fn_of {CX : CXT} {P : Program} {w : World} {K : PySem.W.Frag} {mg : Str → Option Value} {base : Heap} {k : Nat} {f : Addr} {name qual : Str} {params : Arguments} {body : List Stmt} {scope : Scope} {dV kV doc pm cdv ct oc : Value} {an od : Option Addr}
    {osl : Array (Option Value)} {N ps : List Str} {sp : Sp} (lk : K.lookup f = some ⟨oc, od, .func (PySem.W.fnOf name qual params body scope dV kV doc pm an cdv ct), osl⟩) (hcd : PySem.W.codeIn K cdv qual = true) (S : FnScope N ps scope)
    (len : ∀ vs H Q E, sp vs H Q E → vs.length = ps.length)
    (hbody : ∀ (A : Around) (outer : List Env) (s : Shared) (H : Hp) (vs : List V) (Q : VK) (E : XK), Room k (A.deeper (envOfC qual scope s.heap.objs.size f cdv)) → sp vs H Q E →
      ∃ t, PSs (cxOf CX P w K mg base N qual scope f cdv A outer s H E) body t ∧ t { nx := fun _ H' => Q .non H', rt := Q } (start N vs) H) :
    FnOk P w K mg base CX (k + 1) f (PySem.W.fnOf name qual params body scope dV kV doc pm an cdv ct) ps sp := by
  refine ⟨len, fun A outer s H args us vs Q E hr e0 hb r hsp => ?_⟩
  have hl := len _ _ _ _ hsp
  have KX : K.In s.heap := e0.mod.kin.keeps fun b o e => (e0.bs b o e).1
  have lim : s.heap.NoLimit := e0.mod.nolimit.keeps fun b o e => (e0.bs b o e).1
  have hkind : ∀ y ∈ ps.zip us, scope.names.lookup y.1 = some .local ∨ (scope.names.lookup y.1 = some .cell ∧ ((cellsFrom (s.heap.objs.size + 1) scope.names []).lookup y.1).isSome = true) := fun ⟨n, v⟩ hy => by
    rcases S.par n (List.of_mem_zip hy).1 with q | q
    · exact .inl q
    · exact .inr ⟨q, PySem.W.cellsFrom_some _ _ _ (.inl q)⟩
  refine codeAny_call_function hr.depth (KX _ _ lk) rfl S.co S.gen rfl (PySem.W.codeRec_of KX hcd) (hb _ _ _ _ ?_)
  refine wpAny_newFunctionEnv_cells S.kind hkind fun env he s1 x => ?_
  subst he
  refine ⟨lim.keeps x.toInCall.keep, codeAny_func ?_⟩
  obtain ⟨t, ht, hq⟩ := hbody A outer s H vs Q E (hr.deeper _) hsp
  have I : Inv (cxOf CX P w K mg base N qual scope f cdv A outer s H E) [] (start N vs) H s1 := inv_start S hr.hd e0 hl r x
  refine wpAny_mono (ht [] s1 (start N vs) H _ I hq) (fun fl s' hs => ?_) fun e s' hs => hs
  have fin : ∀ {σ' : St} {H' : Hp} {v : V} {u : Value}, Inv (cxOf CX P w K mg base N qual scope f cdv A outer s H E) [] σ' H' s' → RelV v u → Q v H' → CE outer P w H s Q u s' :=
    fun {σ' H' v u} J rv q => ⟨v, H', J.os, J.bare, J.base, J.hok, rv, q⟩
  cases fl with
  | ret u =>
    obtain ⟨v, σ', H', J, rv, q⟩ := hs
    exact fin J rv q
  | next =>
    obtain ⟨σ', H', J, q⟩ := hs
    exact fin (v := V.non) (u := Value.none) J rfl q
  | brk =>
    obtain ⟨_, _, _, q⟩ := hs
    exact False.elim q
  | cont =>
    obtain ⟨_, _, _, q⟩ := hs
    exact False.elim q
end L2

namespace L2
open PySem PySem.Spec PyProof.Rows
section
variable {X : Cx} {x : Str} {p pos : Pos} {e : Expr} {es : List Expr} {t : TA} {id T : String} {r : List V → Hp → VK → Prop}

def tCB (r : List V → Hp → VK → Prop) (t : TA) : TE := fun σ H Q => t σ H fun vs H1 => r vs H1 Q
/-- f(e, ..), f a built-in function -/
theorem pe_callB (hc : CallR X (.builtin id) r) (hg : Gl X x) (hm : X.mg x = none) (hv : bootBuiltins x = some (.builtin id)) (ha : PA X (e :: es) t) (hn : x ≠ "__name__" := by decide) (hdb : (x == ("__debug__" : Str)) = false := by decide)
    (he : starEach (e :: es) X.env = (false, eval e X.env) :: starEach es X.env := by rfl) (hpl : (backTo pos (starEach es X.env)).any (·.1) = false := by rfl) : PE X (.Call (.Name x p) (e :: es) [] pos) (tCB r t) := by
  intro pins s σ H Q I h
  refine wpAny_Call_Name_kw (ld_blt I hg hm hv ?_ hn hdb)
  exact PyProof.Rows.callWith_builtin1 (thn (ha pos pins s σ H _ I h) fun us s1 ⟨vs, H1, I1, r1, q1⟩ => hc pins s1 σ H1 vs us Q I1 r1 q1) he hpl
/-- T(e, ..), T a built-in type -/
theorem pe_callTy (hc : CallR X (.type T) r) (hg : Gl X x) (hm : X.mg x = none) (hv : bootBuiltins x = some (.type T)) (ha : PA X (e :: es) t) (hn : x ≠ "__name__" := by decide) (hdb : (x == ("__debug__" : Str)) = false := by decide)
    (he : starEach (e :: es) X.env = (false, eval e X.env) :: starEach es X.env := by rfl) (hpl : (backTo pos (starEach es X.env)).any (·.1) = false := by rfl) : PE X (.Call (.Name x p) (e :: es) [] pos) (tCB r t) := by
  intro pins s σ H Q I h
  refine wpAny_Call_Name_kw (ld_blt I hg hm hv ?_ hn hdb)
  exact PyProof.Rows.callWith_type1 (thn (ha pos pins s σ H _ I h) fun us s1 ⟨vs, H1, I1, r1, q1⟩ => hc pins s1 σ H1 vs us Q I1 r1 q1) he hpl
end
end L2

namespace HT
open PySem PyProof.Rows

section
open PySem.SeqAt
open PySem.AutoSeq1 (wpAny_loadPart')
open PySem.MeetsSeq PySem.MeetsSeq2 PySem.MeetsSeq3

end

section
variable {prog : Program} {w : World} {A : Around} {E : Value → Shared → Prop} {s : Shared}

/-! ### t[a:b], not the whole -/
/-- a slice's bound as a place among n (d where it is left out) -/
def sIx (n d : Nat) : Option Int → Nat
  | none => d
  | some v => if v < 0 then (v + (n : Int)).toNat else min v.toNat n
theorem sIx_nat (n d k : Nat) : sIx n d (some (k : Int)) = min k n := by
  show (if (k : Int) < 0 then ((k : Int) + (n : Int)).toNat else min (k : Int).toNat n) = min k n
  rw [if_neg (by omega), Int.toNat_natCast]
end
end HT

namespace L2
open PySem PySem.Spec PyProof.Rows

/-! ### the parts of a slice -/
abbrev TO := St → Hp → (Option Int → Hp → Prop) → Prop
/-- a slice's part (left out, or an int) -/
def PO (X : Cx) (e : Option Expr) (t : TO) : Prop :=
  ∀ (pins : List (Addr × Obj)) (s : Shared) (σ : St) (H : Hp) (Q : Option Int → Hp → Prop), Inv X pins σ H s → t σ H Q →
    wpAny (model X.prog X.w) X.A (evalPart e X.env) (fun u s' => ∃ o H', Inv X pins σ H' s' ∧ IsPart u o ∧ Q o H') X.xe s
def tPart (t : TE) : TO := fun σ H Q => t σ H fun x H1 => ∃ i, x = .int i ∧ Q (some i) H1

section
variable {X : Cx} {e : Expr} {te : TE} {lo hi : Option Expr} {tl th : TO} {pos p2 : Pos}

theorem po_some (h : PE X e te) : PO X (some e) (tPart te) := by
  intro pins s σ H Q I hw
  rw [evalPart_some]
  refine thn (h pins s σ H _ I hw) fun u s1 ⟨x, H1, I1, r1, q1⟩ => ?_
  obtain ⟨i, rfl, q⟩ := q1
  obtain ⟨t, rfl⟩ := r1
  exact ⟨some i, H1, I1, .int i t, q⟩

/-- what a slice of a value is, by values: the slice object stands at sl -/
def SlR (X : Cx) (r : V → Option Int → Option Int → Hp → VK → Prop) : Prop :=
  ∀ (pins : List (Addr × Obj)) (s : Shared) (σ : St) (H : Hp) (x : V) (v vl vu : Value) (lo hi : Option Int) (sl : Addr) (Q : VK), Inv X pins σ H s → RelV x v → s.heap.IsSliceOf sl vl vu .none → IsPart vl lo → IsPart vu hi → r x lo hi H Q →
    ∃ T id, typeLookup (.type T) "__getitem__" = pure (some (.builtin id)) ∧ s.TypeIs v T ∧ wpAny (model X.prog X.w) X.A (getItem v (.ref sl)) (EP X pins σ Q) X.xe s
def tSl (r : V → Option Int → Option Int → Hp → VK → Prop) (te : TE) (tl th : TO) : TE := fun σ H Q => te σ H fun x H1 => tl σ H1 fun l H2 => th σ H2 fun u H3 => r x l u H3 Q
/-- a[lo:hi], any a -/
theorem pe_slice {r : V → Option Int → Option Int → Hp → VK → Prop} (hr : SlR X r) (he : PE X e te) (hl : PO X lo tl) (hu : PO X hi th) : PE X (.Subscript e (.Slice lo hi none p2) pos) (tSl r te tl th) := by
  intro pins s σ H Q I h
  refine Subscript_ (thn (he pins s σ H _ I h) fun v s1 ⟨x, H1, I1, r1, q1⟩ => ?_)
  refine wpAny_Slice (thn (hl pins s1 σ H1 _ I1 q1) fun vl s2 ⟨l, H2, I2, pl, q2⟩ => thn (hu pins s2 σ H2 _ I2 q2) fun vu s3 ⟨u, H3, I3, pu, q3⟩ => ?_)
  rw [evalPart_none]
  refine wpAny_pure ?_
  have I4 : Inv X pins σ H3 { s3 with heap := s3.heap.push { cls := .type "slice", data := .fields #[vl, vu, .none] } } := I3.kept (t' := s3.toks) fun b ob q => Heap.get?_push_of_some _ q
  obtain ⟨T, id, hT, ht, hg⟩ := hr pins { s3 with heap := s3.heap.push { cls := .type "slice", data := .fields #[vl, vu, .none] } } σ H3 x v vl vu l u s3.heap.objs.size Q I4 r1 (Heap.IsSliceOf.new ..) pl pu q3
  show wpAny (model X.prog X.w) X.A (subscriptTail e (.Slice lo hi none p2) v (.ref s3.heap.objs.size)) (EP X pins σ Q) X.xe { s3 with heap := s3.heap.push { cls := .type "slice", data := .fields #[vl, vu, .none] } }
  exact tail_any (ops := [.ref s3.heap.objs.size, v]) ht hT hg (by with_unfolding_all rfl)

/-- the items of xs[lo:hi] -/
def cutV (xs : List V) (lo hi : Option Int) : List V := (xs.drop (HT.sIx xs.length 0 lo)).take (HT.sIx xs.length xs.length hi - HT.sIx xs.length 0 lo)
theorem cutV_length (xs : List V) (lo hi : Option Int) : (cutV xs lo hi).length ≤ xs.length := by
  unfold cutV
  rw [List.length_take, List.length_drop]
  omega
/-! ### t < u, t + u -/
end
end L2

namespace L2
open PySem PySem.Spec PyProof.Rows

/-! ### places -/
/-- the place that an index of any sign means -/
def ixN (n : Nat) (i : Int) : Option Nat := if 0 ≤ i then (if i < n then some i.toNat else none) else if -(n : Int) ≤ i then some (i + n).toNat else none
def atI {α : Type} (xs : List α) (i : Int) : Option α := (ixN xs.length i).bind fun j => xs[j]?
theorem ixN_seq {n : Nat} {i : Int} {j : Nat} (h : ixN n i = some j) : seqIndex? i n = some j ∧ j < n ∧ -(n : Int) ≤ i ∧ i < n := by
  unfold ixN at h
  by_cases h0 : 0 ≤ i
  · rw [if_pos h0] at h
    by_cases h1 : i < n
    · rw [if_pos h1] at h
      have e : i.toNat = j := Option.some.inj h
      exact ⟨by rw [seqIndex_of h0 h1, e], by omega, by omega, h1⟩
    · rw [if_neg h1] at h; cases h
  · rw [if_neg h0] at h
    by_cases h1 : -(n : Int) ≤ i
    · rw [if_pos h1] at h
      have e : (i + n).toNat = j := Option.some.inj h
      exact ⟨by rw [seqIndex_neg (by omega) h1, e], by omega, h1, by omega⟩
    · rw [if_neg h1] at h; cases h
theorem atI_get {α : Type} {xs : List α} {i : Int} {v : α} (h : atI xs i = some v) : ∃ j, seqIndex? i xs.length = some j ∧ xs[j]? = some v ∧ j < xs.length ∧ -(xs.length : Int) ≤ i ∧ i < xs.length := by
  unfold atI at h
  cases e : ixN xs.length i with
  | none => rw [e] at h; cases h
  | some j =>
    rw [e] at h
    obtain ⟨h1, h2, h3, h4⟩ := ixN_seq e
    exact ⟨j, h1, h, h2, h3, h4⟩
theorem atI_nat {α : Type} {xs : List α} {j : Nat} {v : α} (h : xs[j]? = some v) : atI xs (j : Int) = some v := by
  have hj : j < xs.length := (List.getElem?_eq_some_iff.mp h).1
  have e : ixN xs.length (j : Int) = some j := by
    unfold ixN
    rw [if_pos (by omega), if_pos (by omega)]; simp
  unfold atI; rw [e]; exact h
/-! ### what may be subscripted -/
/-- what stands as an index of a plain subscript -/
def PlainIx (b : Expr) : Prop := ∀ o i, subscripted b false o i = operate [o, i] (getItem o i)
/-- a subscript by values -/
def IxR (X : Cx) (r : R2) : Prop :=
  ∀ (value slice : Expr) (pins : List (Addr × Obj)) (s : Shared) (σ : St) (H : Hp) (x y : V) (v u : Value) (Q : VK), Inv X pins σ H s → RelV x v → RelV y u → r x y H Q →
    subscripted slice false v u = operate [v, u] (getItem v u) → wpAny (model X.prog X.w) X.A (subscriptTail value slice v u) (EP X pins σ Q) X.xe s
/-- a call of a builtin's method by values: the receiver, the arguments -/
def MtR (X : Cx) (id : String) (r : V → List V → Hp → VK → Prop) : Prop :=
  ∀ (pins : List (Addr × Obj)) (s : Shared) (σ : St) (H : Hp) (x : V) (xs : List V) (v : Value) (us : List Value) (Q : VK), Inv X pins σ H s → RelV x v → Vals xs us → r x xs H Q →
    wpAny (model X.prog X.w) X.A (call (.builtin id) (v :: us)) (EP X pins σ Q) X.xe s
section
variable {X : Cx} {a b : Expr} {ta tb : TE} {pos : Pos}
theorem IxR.or {r r' : R2} (h : IxR X r) (h' : IxR X r') : IxR X (fun x y H Q => r x y H Q ∨ r' x y H Q) := by
  intro value slice pins s σ H x y v u Q I rx ry q hs
  rcases q with q | q
  · exact h value slice pins s σ H x y v u Q I rx ry q hs
  · exact h' value slice pins s σ H x y v u Q I rx ry q hs
/-- a[b] -/
theorem pe_ix {r : R2} (hr : IxR X r) (ha : PE X a ta) (hb : PE X b tb) (hs : PlainIx b) : PE X (.Subscript a b pos) (tOp r ta tb) := by
  intro pins s σ H Q I h
  exact Subscript_ (binT ha hb I h fun v u s2 x y H2 I2 rx ry q => hr a b pins s2 σ H2 x y v u Q I2 rx ry q (hs _ _))

def rIxL (K : PySem.W.Frag) : R2 := fun x y H Q => ∃ p xs i v, x = .ref p ∧ y = .int i ∧ SqL K H p xs ∧ atI xs i = some v ∧ Q v H
def rIxT (K : PySem.W.Frag) : R2 := fun x y H Q => ∃ p xs i v, x = .ref p ∧ y = .int i ∧ SqT K H p xs ∧ atI xs i = some v ∧ Q v H
def rIxS : R2 := fun x y H Q => ∃ z i c, x = .str z ∧ y = .int i ∧ z.length ≤ sizeLine ∧ atI z.cps.toList i = some c ∧ Q (.str ⟨#[c]⟩) H
theorem ix_list : IxR X (rIxL X.K) := by
  intro value slice pins s σ H x y v u Q I rx ry h hs
  obtain ⟨p, xs, i, z, rfl, rfl, hq, he, q⟩ := h
  cases rx
  obtain ⟨t, rfl⟩ := ry
  obtain ⟨its, r, pl, hz⟩ := I.list hq
  obtain ⟨j, h1, h2, h3, h4, h5⟩ := atI_get he
  obtain ⟨w, ew, rw'⟩ := r.get h2
  have hl := r.length
  have hn := line63
  have fin : EP X pins σ Q w s := ⟨z, H, I, rw', q⟩
  by_cases h0 : 0 ≤ i
  · have hj : i.toNat = j := by
      rw [seqIndex_of h0 h5] at h1
      exact Option.some.inj h1
    exact item_listR pl.isList h0 (by omega) (by rw [hj]; simpa using ew) fin hs
  · have hj : (i + (its.toArray.size : Int)).toNat = j := by
      rw [seqIndex_neg (by omega) h4] at h1
      rw [List.size_toArray, ← hl]
      exact Option.some.inj h1
    exact subscriptTail_builtinR (x := w) pl.isList.typeIs slot_list_getitem.lookup
      (wpAny_getItem_list_neg (Q := fun r s' => r = w ∧ EP X pins σ Q r s') pl.isList (by omega) (by rw [List.size_toArray] <;> omega) (by omega) (by rw [hj]; simpa using ew) ⟨rfl, fin⟩) hs
theorem ix_tup : IxR X (rIxT X.K) := by
  intro value slice pins s σ H x y v u Q I rx ry h hs
  obtain ⟨p, xs, i, z, rfl, rfl, hq, he, q⟩ := h
  cases rx
  obtain ⟨t, rfl⟩ := ry
  obtain ⟨its, r, pl, hz⟩ := I.tuple hq
  obtain ⟨j, h1, h2, h3, h4, h5⟩ := atI_get he
  obtain ⟨w, ew, rw'⟩ := r.get h2
  have hl := r.length
  have hn := line63
  have fin : EP X pins σ Q w s := ⟨z, H, I, rw', q⟩
  exact subscriptTail_builtinR (x := w) pl.typeIs slot_tuple_getitem.lookup
    (getItem_tuple (j := j) (Q := fun r s' => r = w ∧ EP X pins σ Q r s') pl (by omega) (by omega) (by rw [List.size_toArray, ← hl]; exact h1) (by simpa using ew) ⟨rfl, fin⟩) hs
theorem ix_str : IxR X rIxS := by
  intro value slice pins s σ H x y v u Q I rx ry h hs
  obtain ⟨z, i, c, rfl, rfl, hz, he, q⟩ := h
  obtain ⟨t, rfl⟩ := rx
  obtain ⟨t', rfl⟩ := ry
  obtain ⟨j, h1, h2, h3, h4, h5⟩ := atI_get he
  have hl : z.cps.toList.length = z.length := by simp [Str.length]
  rw [hl] at h1 h4 h5
  have hn := line63
  exact tail_any (typeIs_str s z t) slot_str_getitem.lookup (getItem_str (c := c) (by
    have e1 : decide (i < -(2 ^ 63 : Int)) = false := decide_eq_false (by omega)
    have e2 : decide (i ≥ 2 ^ 63) = false := decide_eq_false (by omega)
    rw [e1, e2, Bool.or_false]) (by rw [h1]; simpa using h2) ⟨.str ⟨#[c]⟩, H, I.tok _, ⟨_, rfl⟩, q⟩) hs
/-- list, tuple or str -/
def rIx (K : PySem.W.Frag) : R2 := fun x y H Q => rIxL K x y H Q ∨ rIxT K x y H Q ∨ rIxS x y H Q
theorem ix_seq : IxR X (rIx X.K) := ix_list.or (ix_tup.or ix_str)

/-! ### xs[i] = v, any sign -/
/-! ### slices -/
theorem slice_bounds (lo hi : Option Int) (n : Nat) : (sliceBounds lo hi none n).1 = ((HT.sIx n 0 lo : Nat) : Int) ∧ (sliceBounds lo hi none n).2.1 = ((HT.sIx n n hi : Nat) : Int) ∧ (sliceBounds lo hi none n).2.2 = 1 := by
  refine ⟨?_, ?_, rfl⟩
  · cases lo with
    | none => simp [sliceBounds, HT.sIx]
    | some i =>
      simp only [sliceBounds, HT.sIx, Option.getD_none, show (1 : Int) > 0 by decide, if_true]
      by_cases h : i < 0
      · simp only [h, if_true] <;> omega
      · simp only [h, if_false] <;> omega
  · cases hi with
    | none => simp [sliceBounds, HT.sIx]
    | some i =>
      simp only [sliceBounds, HT.sIx, Option.getD_none, show (1 : Int) > 0 by decide, if_true]
      by_cases h : i < 0
      · simp only [h, if_true] <;> omega
      · simp only [h, if_false] <;> omega
theorem slicePick_cut (its : List Value) (lo hi : Option Int) : slicePick its.toArray lo hi none = ((its.drop (HT.sIx its.length 0 lo)).take (HT.sIx its.length its.length hi - HT.sIx its.length 0 lo)).toArray := by
  obtain ⟨h1, h2, h3⟩ := slice_bounds lo hi its.toArray.size
  unfold slicePick
  rw [h1, h2, h3]
  simp only [sliceRange_one, pick_run, List.size_toArray] <;> rfl
/-- xs[lo:hi] of a list: a new list -/
def rSlL (K : PySem.W.Frag) : V → Option Int → Option Int → Hp → VK → Prop := fun x lo hi H Q => ∃ a xs, x = .ref a ∧ SqL K H a xs ∧ ∀ p, H p = none → Q (.ref p) (upd H p (.lst (cutV xs lo hi)))
theorem sl_list : SlR X (rSlL X.K) := by
  intro pins s σ H x v vl vu lo hi sl Q I rx hs pl pu h
  obtain ⟨a, xs, rfl, hx, q⟩ := h
  cases rx
  obtain ⟨its, r, ht, hz⟩ := I.list hx
  have hlen := r.length
  refine ⟨"list", _, slot_list_getitem.lookup, ht.isList.typeIs, ?_⟩
  refine wpAny_getItem_list_slice ht.isList hs pl pu .none (by simp) ?_ (by rw [List.size_toArray] <;> omega)
  rw [slicePick_cut, ← hlen]
  refine ⟨.ref s.heap.objs.size, _, I.laid (t' := s.toks) (o := .lst (cutV xs lo hi)) (fun b ob q => Heap.get?_push_of_some _ q) (Nat.le_refl _) ?_, rfl, q _ (I.hok.fresh (Nat.le_refl _))⟩
  exact ⟨Nat.le_trans (cutV_length xs lo hi) hz, _, 0, (r.drop (HT.sIx xs.length 0 lo)).take (HT.sIx xs.length xs.length hi - HT.sIx xs.length 0 lo), Heap.get?_push_size _ rfl⟩

/-! ### in, not in: flat items -/
/-! ### len, list(x), tuple(x) of any list or tuple that is read -/
theorem call_len_seq : CallR X (.builtin "len") (fun xs H Q => ∃ p ys, xs = [.ref p] ∧ (SqL X.K H p ys ∨ SqT X.K H p ys) ∧ Q (.int ys.length) H) := by
  intro pins s σ H xs us Q I r h
  obtain ⟨p, ys, rfl, hq, q⟩ := h
  obtain ⟨u, rfl, rx⟩ := vals1 r
  cases rx
  have hn := line63
  rcases hq with hq | hq
  · obtain ⟨its, r', pl, hz⟩ := I.list hq
    have hlen := r'.length
    exact Calls.call_len_list pl.isList (by simp only [List.size_toArray] <;> omega) ⟨.int ys.length, H, I.tok _, ⟨s.toks + 1, by rw [List.size_toArray, hlen]⟩, q⟩
  · obtain ⟨its, r', pl, hz⟩ := I.tuple hq
    have hlen := r'.length
    exact len_tuple pl (by simp only [List.size_toArray] <;> omega) ⟨.int ys.length, H, I.tok _, ⟨s.toks + 1, by rw [List.size_toArray, hlen]⟩, q⟩
/-! ### the call of a builtin's method: o.m(..) -/
/-- the value is of that builtin type -/
def tyV (K : PySem.W.Frag) (T : String) (x : V) (H : Hp) : Prop := match x with
  | .str _ => T = "str"
  | .int _ => T = "int"
  | .ref p => (T = "list" ∧ ∃ xs, SqL K H p xs) ∨ (T = "tuple" ∧ ∃ o, K.lookup p = some o ∧ o.cls = .type "tuple" ∧ o.dict = none) ∨
      (T = "dict" ∧ ((∃ kvs, H p = some (.dK kvs)) ∨ ∃ kvs, H p = some (.dT kvs))) ∨ (T = "set" ∧ ∃ S n, H p = some (.set S n))
  | _ => False
theorem tyV_is {pins : List (Addr × Obj)} {σ : St} {H : Hp} {s : Shared} {T : String} {x : V} {v : Value} (I : Inv X pins σ H s) (r : RelV x v) (ty : tyV X.K T x H) :
    s.TypeIs v T ∧ ∀ a, v = .ref a → ∃ ob, s.heap.get? a = some ob ∧ ob.dict = none := by
  cases x with
  | str z =>
    obtain ⟨t, rfl⟩ := r
    cases (show T = "str" from ty)
    exact ⟨typeIs_str s z t, fun _ e => nomatch e⟩
  | int i =>
    obtain ⟨t, rfl⟩ := r
    cases (show T = "int" from ty)
    exact ⟨typeIs_int s i t, fun _ e => nomatch e⟩
  | ref p =>
    cases r
    rcases ty with ⟨rfl, xs, hq⟩ | ⟨rfl, o, hk, hc, hd⟩ | ⟨rfl, hk⟩ | ⟨rfl, S, n, hk⟩
    · obtain ⟨its, _, pl, _⟩ := I.list hq
      refine ⟨pl.isList.typeIs, fun a e => ?_⟩
      cases e
      obtain ⟨o, n, e, c, hd, _⟩ := pl
      exact ⟨o, e, hd⟩
    · refine ⟨⟨o, I.kIn p o hk, hc⟩, fun a e => ?_⟩
      cases e
      exact ⟨o, I.kIn _ o hk, hd⟩
    · have z : ∃ o, s.heap.get? p = some o ∧ o.ExactDict := by
        rcases hk with ⟨kvs, hk⟩ | ⟨kvs, hk⟩
        · obtain ⟨_, _, _, _, o, _, _, e, ex, _⟩ := I.hok p _ hk
          exact ⟨o, e, ex⟩
        · obtain ⟨_, _, _, _, o, _, _, e, ex, _⟩ := I.hok p _ hk
          exact ⟨o, e, ex⟩
      obtain ⟨o, e, ex⟩ := z
      refine ⟨⟨o, e, ex.1⟩, fun a e2 => ?_⟩
      cases e2
      exact ⟨o, e, ex.2.1⟩
    · obtain ⟨o, _, _, _, e, ex, _⟩ := I.hok p _ hk
      refine ⟨⟨o, e, ex.1⟩, fun a e2 => ?_⟩
      cases e2
      exact ⟨o, e, ex.2.1⟩
  | _ => exact False.elim ty
def tBM (K : PySem.W.Frag) (T : String) (r : V → List V → Hp → VK → Prop) (to : TE) (t : TA) : TE := fun σ H Q => to σ H fun x H1 => tyV K T x H1 ∧ t σ H1 fun xs H2 => r x xs H2 Q
variable {o e : Expr} {es : List Expr} {to : TE} {t : TA} {name : Str} {apos cpos : Pos} {T id : String} {r : V → List V → Hp → VK → Prop}
theorem pe_bm (pa : PlainAttrs T) (slot : Slot T name id) (hty : typeOf (.builtin id) = pure (.type "method_descriptor")) (hm : MtR X id r) (ho : PE X o to) (ha : PA X (e :: es) t)
    (hbase : attributeBase o name X.env (eval o X.env) = eval o X.env := by rfl)
    (hfew : ((backTo cpos (starEach (e :: es) X.env)).all (fun x => !x.1) && (backToKw cpos (keywordEach [] X.env)).all (fun x => x.1.isSome)
      && decide ((e :: es).length + ([] : List Keyword).length + (if ([] : List Keyword).isEmpty then 0 else 1) < 30)) = true := by rfl)
    (hline : (apos.endLine == cpos.line) = true := by rfl) (hs : starEach (e :: es) X.env = (false, eval e X.env) :: starEach es X.env := by rfl) (hplain : (backTo cpos (starEach es X.env)).any (·.1) = false := by rfl) :
    PE X (.Call (.Attribute o name apos) (e :: es) [] cpos) (tBM X.K T r to t) := by
  intro pins s σ H Q I h
  refine wpAny_Call_method_late hbase hfew hline rfl (thn (ho pins s σ H _ I h) fun v s1 ⟨x, H1, I1, r1, ty, q1⟩ => ?_)
  obtain ⟨h1, h2⟩ := tyV_is I1 r1 ty
  refine ⟨T, id, pa, slot, hty, h1, h2, ?_⟩
  have hA := ha cpos pins s1 σ H1 _ I1 q1
  rw [hs] at hA ⊢
  refine Calls.callWith_builtin (by show (false || (backTo cpos (starEach es X.env)).any (·.1)) = false; rw [hplain] <;> rfl) (Calls.evalArgs_plain ?_)
  exact thn hA fun us s2 ⟨vs, H2, I2, r2, q2⟩ => hm pins s2 σ H2 x vs v us Q I2 r1 r2 q2

end
end L2

namespace L2
open PySem PySem.Spec PyProof.Rows

def MtM (X : Cx) (id : String) (r : V → List V → Hp → VK → Prop) : Prop :=
  ∀ (pins : List (Addr × Obj)) (s : Shared) (σ : St) (H : Hp) (x : V) (xs : List V) (v : Value) (us : List Value) (Q : VK), Inv X pins σ H s → RelV x v → Vals xs us → r x xs H Q →
    wpAny (model X.prog X.w) X.A (call (.builtin id) (v :: us)) (EP X pins σ Q) X.xe s

/-! ### lists of values -/
theorem Vals.one : ∀ {x : V} {us : List Value}, Vals [x] us → ∃ u, us = [u] ∧ RelV x u
  | _, _, .cons r .nil => ⟨_, rfl, r⟩
section
variable {X : Cx} {pins : List (Addr × Obj)} {σ : St} {H : Hp} {s : Shared} {l b : Addr} {xs ys zs : List V}

/-! ### the two steps: a tracked list is rewritten, a new list is laid -/
theorem Inv.lset {its its' : List Value} {n : Nat} {f : Array Value → Array Value} {t' : Nat} (I : Inv X pins σ H s) (hH : H l = some (.lst xs))
    (e : s.heap.get? l = some { cls := .type "list", data := .seq its.toArray n }) (hf : f its.toArray = its'.toArray) (hv : Vals ys its') (hz : ys.length ≤ sizeLine) :
    Inv X pins σ (upd H l (.lst ys)) { s with heap := s.heap.update l (Obj.mapSeq f), toks := t' } := by
  have q := PySem.IsL.update e f
  rw [hf] at q
  refine I.write (x := l) (e := l) (by rw [hH]; exact trivial) (.inl rfl) (fun b' u hb hu => (Heap.get?_update_other s.heap (Obj.mapSeq f) (Ne.symm hb)).trans hu) ⟨_, q⟩ ?_
  exact ⟨hz, its', _, hv, q⟩
theorem Inv.lnew {its : List Value} {t' : Nat} (I : Inv X pins σ H s) (hv : Vals ys its) (hz : ys.length ≤ sizeLine) :
    Inv X pins σ (upd H s.heap.objs.size (.lst ys)) { s with heap := s.heap.push { cls := .type "list", data := .seq its.toArray }, toks := t' } :=
  I.laid (fun _ _ q => Heap.get?_push_of_some _ q) (Nat.le_refl _) ⟨hz, its, 0, hv, Heap.get?_push_size _ rfl⟩
theorem Inv.fresh (I : Inv X pins σ H s) : H s.heap.objs.size = none := I.hok.fresh (Nat.le_refl _)
theorem Inv.lstM (I : Inv X pins σ H s) (hH : H l = some (.lst xs)) : xs.length ≤ sizeLine ∧ ∃ (its : List Value) (n : Nat), Vals xs its ∧ xs.length = its.length ∧ s.heap.get? l = some { cls := .type "list", data := .seq its.toArray n } := by
  obtain ⟨z, its, n, r, e⟩ := I.hok l _ hH
  exact ⟨z, its, n, r, r.length, e⟩

end

section
variable {X : Cx}

/-! ### methods -/
def rAppend : V → List V → Hp → VK → Prop := fun x vs H Q => ∃ l xs y, x = .ref l ∧ vs = [y] ∧ H l = some (.lst xs) ∧ xs.length < sizeLine ∧ Q .non (upd H l (.lst (xs ++ [y])))
theorem mt_append : MtM X "list.append" rAppend := by
  intro pins s σ H x vs v us Q I rx rv h
  obtain ⟨l, xs, y, rfl, rfl, hH, hz, q⟩ := h
  cases rx
  obtain ⟨u, rfl, ru⟩ := rv.one
  obtain ⟨z, its, n, r, hl, e⟩ := I.lstM hH
  refine call_meets F.slot_list_append ⟨_, e, rfl⟩ F.entry_list_append (F.args_list_append_2 _ _) (PySem.list_append l its.toArray n u (by rw [List.size_toArray]; omega)) ⟨e, ?_⟩
  refine ⟨.non, _, I.lset (its' := its ++ [u]) hH e (by simp) (r.append (.cons ru .nil)) ?_, rfl, q⟩
  rw [List.length_append, List.length_singleton]
  omega

/-! ### list + list, list += list, list * int -/
/-! ### del xs[i] -/
end

/-! ### xs[a:b] = ys -/
section
variable {prog : Program} {w : World} {A : Around} {E : Value → Shared → Prop} {s : Shared}
end

section
variable {X : Cx}
end
end L2

namespace Att
open PySem PySem.W PySem.Calls PyProof.Rows

/-! ### the script -/
theorem ints_of_wellAll {P : Params} {h : Heap} : ∀ (ns : List Int) (vs : List Value), WellAll P h vs (ns.map WData.int) → IntsAre vs ns := by
  intro ns
  induction ns with
  | nil =>
    intro vs w
    rw [List.map_nil] at w
    cases w
    exact .nil
  | cons n ns ih =>
    intro vs w
    rw [List.map_cons] at w
    cases w with
    | cons a b =>
      cases a
      exact .cons _ _ (ih _ b)

theorem script_of {l : OpenLaw} {n : Nat} (hn : l.most = some n) {P : Params} {h : Heap} {args : List WData} {vals : List Value}
    (hpre : l.row.toRowW.claim.pre args = true) (hwl : WellAll P h vals args) :
    ∃ a vs ns, vals = [Value.ref a] ∧ args = [WData.list (ns.map WData.int)] ∧ h.get? a = some { cls := .type "list", data := .seq vs.toArray } ∧ IntsAre vs ns ∧ ns.length ≤ n := by
  have hsh : WShape.hasAll [] args [.list .int] = true := (pre_splitW hpre).1
  have hc : l.pre.holds [] { args := args } = true := (pre_splitW hpre).2
  obtain ⟨d, r, rfl, h1, h2⟩ := hasAllW_cons hsh
  obtain rfl := hasAllW_nil h2
  obtain ⟨xs, rfl, h3⟩ := hasW_list h1
  obtain ⟨ns, rfl⟩ := items_int h3
  have hlen : ns.length ≤ n := by
    unfold OpenLaw.pre at hc
    have h4 : (WTm.not (.lt (.lit (.int (n : Int))) (.len (.arg 0)))).holds [] { args := [.list (ns.map .int)] } = true := by
      have h4 := (holds_andW hc).1
      rw [hn] at h4
      exact h4
    have h5 := condW_of h4 (w_not (w_lt w_lit (w_len_list (w_arg rfl))))
    rw [List.length_map] at h5
    refine Nat.le_of_not_lt fun q => ?_
    have q' : (n : Int) < ((ns.length : Nat) : Int) := by omega
    first
      | (rw [decide_eq_true q'] at h5; exact absurd h5 (by decide))
      | (simp at h5; omega)
  cases hwl with
  | cons w1 w2 =>
    cases w2
    cases w1 with
    | list ho hall => exact ⟨_, _, ns, rfl, rfl, ho, ints_of_wellAll ns _ hall, hlen⟩

theorem post_true (l : OpenLaw) (args : List WData) : l.row.toRowW.claim.post args (.bool true) args = true :=
  postW_of (r := l.row.toRowW) (X := (true == true))
    (show WShape.has [] (.bool true) .bool = true by first | rfl | decide | simp [WShape.has, WShape.arms, WShape.armsAll])
    (show (WTm.eq .res (.lit (.bool true))).value [] { args := args, res := some (.bool true), after := args } = some (.bool (true == true)) from w_eq_bool (w_res rfl) w_lit) rfl

/-! ### the attachment: holds_open's last premise (the goal 'hc' behind k_head) from a wpAny of the law's body -/
/-! ### rules over ANY heap (no ledger) from facts about the written part K: the library's own take a ledger (News) for what they write -/
section
variable {prog : Program} {w : World} {A : Around} {E : Value → Shared → Prop} {s : Shared} {K : Frag}

/-! the whole heap as the ledger: makes every rule that writes through a ledger a rule over any heap -/
end
end Att

namespace L2
open PySem PySem.Spec PyProof.Rows

theorem vals_ints : ∀ {vs : List Value} {ns : List Int}, IntsAre vs ns → Vals (ns.map V.int) vs
  | _, _, .nil => .nil
  | _, _, .cons n t h => .cons ⟨t, rfl⟩ (vals_ints h)

/-- nothing is tracked but the script, known to the object (or it is an object of the module) -/
def Only (H : Hp) : Prop := ∀ b, H b = none ∨ ∃ o xs, H b = some (.frz o (.lst xs))

/-- THE HEAD: the law's promise, at the heap behind the top. F, the promise of the law's def, may use that base is part of the heap (so K.In base, base.Ns mainGlobals mg stand in Mod) -/
theorem law_call {P : Program} {w : World} {K : PySem.W.Frag} {mg mb : Str → Option Value} {CX : CXT} {k : Nat} {fa a : Addr} {fd : FuncData} {x : Str} {sp : Sp} {s₁ : Shared} {vs : List Value} {ns : List Int}
    (KX : K.In s₁.heap) (hns : s₁.heap.Ns mainGlobals mg) (hb : s₁.heap.Ns builtinsNs mb) (hbb : ∀ x : Str, x ≠ "__name__" → mb x = bootBuiltins x) (hlim : s₁.heap.NoLimit) (hg : s₁.gens = #[])
    (ha : s₁.heap.get? a = some { cls := .type "list", data := .seq vs.toArray }) (hi : IntsAre vs ns) (hl : ns.length ≤ sizeLine) (hr : Room k callerA)
    (F : ∀ base : Heap, K.In base → base.Ns mainGlobals mg → FnOk P w K mg base CX k fa fd [x] sp) (hbind : ∀ (s : Shared) (u : Value), BindsTo s fd ⟨[u], []⟩ [(x, u)])
    (hsp : ∀ H : Hp, Only H → SqL K H a (ns.map V.int) → sp [.ref a] H (fun v _ => v = .bl true) fun _ _ _ => False)
    (hCX : ∀ H e s', CX [] H s₁ (fun _ _ _ => False) e s' → False) :
    codeAny (model P w) callerA (.call (.ref fa) ⟨[.ref a], []⟩) (fun r s' => r = .ok (.ret (.bool true)) ∧ OldK s₁.heap s'.heap ∧ s'.os = s₁.os ∧ AllBare s'.gens) s₁ := by
  have rv := vals_ints hi
  have lenV := hi.length
  -- from an abstract heap in which nothing but the script may be tracked
  have core : ∀ H : Hp, Only H → SqL K H a (ns.map V.int) → HOk P w H s₁.heap → (∀ b, H b ≠ none → b = a) → (H a ≠ none → K.lookup a = none) →
      codeAny (model P w) callerA (.call (.ref fa) ⟨[.ref a], []⟩) (fun r s' => r = .ok (.ret (.bool true)) ∧ OldK s₁.heap s'.heap ∧ s'.os = s₁.os ∧ AllBare s'.gens) s₁ := by
    intro H hO hS hok hA hK
    have base_of : ∀ {b : Addr} {o : Obj}, s₁.heap.get? b = some o → H b = none → (hidT s₁.heap H).get? b = some o := fun e n => hidT_get e n
    have noA : ∀ {b : Addr} {o : Obj} {es : Array DictEntry} {ep : Nat}, s₁.heap.get? b = some o → o.data = .dict es ep → H b = none := fun {b o es ep} e d => by
      cases q : H b with
      | none => rfl
      | some u =>
        have e' : b = a := hA b (by rw [q]; simp)
        subst e'
        rw [ha] at e; cases e
        have d' : Data.seq vs.toArray _ = Data.dict es ep := d
        cases d'
    have nsK : ∀ {b : Addr} {m : Str → Option Value}, s₁.heap.Ns b m → (hidT s₁.heap H).Ns b m := fun {b m} ⟨o, es, ep, e, d, r⟩ => ⟨o, es, ep, base_of e (noA e d), d, r⟩
    have hKb : K.In (hidT s₁.heap H) := fun b o e => base_of (KX b o e) (by
      cases q : H b with
      | none => rfl
      | some u =>
        have e' : b = a := hA b (by rw [q]; simp)
        subst e'
        rw [hK (by rw [q]; simp)] at e; cases e)
    have hM : Mod K mg (hidT s₁.heap H) := ⟨hKb, nsK hns, ⟨mb, nsK hb, hbb⟩, let ⟨mc, h1, h2⟩ := hlim; ⟨mc, nsK h1, h2⟩⟩
    have e0 : Env0 P w K mg (hidT s₁.heap H) callerA [] s₁ H := ⟨rfl, hM, fun b o e => of_hidT e, Nat.le_of_eq (hidT_size _ _), trivial, fun b hb => absurd (show b ∈ ([] : List Addr) from hb) (by simp), hok, .of_eq hg⟩
    refine codeAny_mono ((F _ hKb (nsK hns)).run callerA [] s₁ H ⟨[.ref a], []⟩ [.ref a] [.ref a] _ _ hr e0 (hbind s₁ (.ref a)) (.cons rfl .nil) (hsp H hO hS)) fun r s' h => ?_
    cases r with
    | error e => exact (hCX H e s' h).elim
    | ok fl =>
      cases fl with
      | next => exact False.elim h
      | brk => exact False.elim h
      | cont => exact False.elim h
      | ret u =>
        obtain ⟨v, H', os, bare, un, hok', r', q⟩ := h
        have q' : v = .bl true := q
        subst q'
        obtain rfl : u = Value.bool true := r'
        refine ⟨rfl, OldK.of_keep fun b o e => ?_, os, bare⟩
        cases q : H b with
        | none => exact un.keep b o e q (by intro z; exact absurd (show b ∈ ([] : List Addr) from z) (by simp)) (by simp)
        | some u =>
          rcases hO b with z | ⟨ob, xs, z⟩
          · rw [q] at z; cases z
          · have z2 := un.frzs b ob _ z
            obtain ⟨e1, _⟩ := hok b _ z
            obtain ⟨e2, _⟩ := hok' b _ z2
            rw [e] at e1; cases e1
            exact e2
  cases hk : K.lookup a with
  | some o =>
    -- the script is one of the module's own objects
    have e := KX a o hk
    rw [ha] at e
    cases e
    refine core (fun _ => none) (fun _ => .inl rfl) (.inr ⟨_, vs.toArray, _, hk, rfl, rfl, rfl, by rw [List.size_toArray, lenV]; exact hl, by simpa using rv⟩) (fun b u z => by have z' : (none : Option HO) = some u := z; cases z') (fun b z => absurd rfl z) fun z => absurd rfl z
  | none =>
    refine core (fun b => if b = a then some (.frz { cls := .type "list", data := .seq vs.toArray } (.lst (ns.map V.int))) else none) (fun b => ?_) (.inl (.inr ⟨{ cls := .type "list", data := .seq vs.toArray }, if_pos rfl⟩)) (fun b u z => ?_) (fun b z => ?_) fun _ => hk
    · by_cases hb : b = a
      · exact .inr ⟨_, _, if_pos hb⟩
      · exact .inl (if_neg hb)
    · by_cases hb : b = a
      · have z' := (if_pos hb).symm.trans z
        cases z'
        subst hb
        exact ⟨ha, by rw [List.length_map]; exact hl, vs, _, rv, ha⟩
      · have z' := (if_neg hb).symm.trans z
        cases z'
    · by_cases hb : b = a
      · exact hb
      · exact absurd (if_neg hb) z
end L2

namespace L2
open PySem PySem.Spec PyProof.Rows

end L2



/-! SHORT WORDS over the layer: a def of the text, its body, what a loop and a test want. -/
namespace L2
open PySem PySem.Spec PyProof.Rows

/-! ### the text by places -/
/-- the j-th statement of a class's body -/
def inClass (s : Stmt) (j : Nat) : Stmt := match s with
  | .ClassDef _ _ _ body _ _ _ _ _ _ _ => body.getD j (.Pass ⟨0, 0, 0, 0⟩)
  | _ => .Pass ⟨0, 0, 0, 0⟩
def defArgs (s : Stmt) : Arguments := match s with
  | .FunctionDef _ a _ _ _ _ _ _ _ _ => a
  | _ => { posonlyargs := [], args := [], vararg := none, kwonlyargs := [], kw_defaults := [], kwarg := none, defaults := [] }
def defBody (s : Stmt) : List Stmt := match s with
  | .FunctionDef _ _ b _ _ _ _ _ _ _ => b
  | _ => []
def defScope (s : Stmt) : Scope := match s with
  | .FunctionDef _ _ _ _ _ _ sc _ _ _ => sc
  | _ => { kind := .function, names := [], isGenerator := false, isCoroutine := false }

/-! ### no exception leaves a def -/
abbrev E0 : XK := fun _ _ _ => False
/-! ### a def (or method) of the text as it stands behind the top -/
section
variable {P : Program} {w : World} {K : PySem.W.Frag} {mg : Str → Option Value} {base : Heap}
end
theorem hu_of {A : Around} {k : Nat} (hr : Room k A) : A.units + 1 < cLine := Nat.lt_of_le_of_lt (Nat.add_le_add_left (by decide : 1 ≤ 64) _) hr.units
theorem small1000 {n : Nat} (h : n ≤ 1000) : n < sizeLine := Nat.lt_of_le_of_lt h (by decide)

/-! ### expressions in short: the name that stands in the i-th slot -/
section
variable {X : Cx}
theorem pv (i : Nat) {x : Str} {pos : Pos} (hN : X.N[i]? = some x := by rfl) (hv : Vis X.env.scope x := by first | exact Or.inl rfl | exact Or.inr (Or.inl rfl) | exact Or.inr (Or.inr rfl)) (hd : (x == ("__debug__" : Str)) = false := by decide)
    (hcd : (x == ("__classdict__" : Str)) = false := by decide) : PE X (.Name x pos) (tVar i) := pe_var hN hv hd hcd
end

/-! ### tests -/
theorem iteF {A B : Prop} (h : B) : if false = true then A else B := by
  rw [if_neg Bool.false_ne_true]
  exact h
theorem iteT {A B : Prop} (h : A) : if true = true then A else B := by
  rw [if_pos rfl]
  exact h
theorem ite2 {c A B : Prop} [Decidable c] (h1 : c → A) (h2 : ¬ c → B) : if c then A else B := by
  by_cases h : c
  · rw [if_pos h]
    exact h1 h
  · rw [if_neg h]
    exact h2 h
/-! ### heaps -/
/-- all that was tracked is as it was -/
def Same (H H' : Hp) : Prop := ∀ b o, H b = some o → H' b = some o
theorem Same.refl (H : Hp) : Same H H := fun _ _ h => h
theorem Same.trans {H H1 H2 : Hp} (a : Same H H1) (b : Same H1 H2) : Same H H2 := fun c o h => b c o (a c o h)
theorem Same.seq {K : PySem.W.Frag} {H H' : Hp} {a : Addr} {xs : List V} (e : Same H H') (h : SqL K H a xs) : SqL K H' a xs := by
  rcases h with (h | ⟨o, h⟩) | h
  · exact .inl (.inl (e _ _ h))
  · exact .inl (.inr ⟨o, e _ _ h⟩)
  · exact .inr h

end L2

namespace L2
open PySem PySem.Spec PyProof.Rows

/-! ### tests by their values -/
theorem iteP {c : Bool} {A B : Prop} (hc : c = true) (h : A) : if c = true then A else B := by rw [if_pos hc]; exact h
theorem iteN {c : Bool} {A B : Prop} (hc : c = false) (h : B) : if c = true then A else B := by rw [if_neg (by rw [hc]; exact Bool.false_ne_true)]; exact h
theorem iteB {c : Bool} {A B : Prop} (h1 : c = true → A) (h2 : c = false → B) : if c = true then A else B := by
  cases c with
  | true => exact iteT (h1 rfl)
  | false => exact iteF (h2 rfl)
/-! ### a statement whose ways meet: what holds behind it is said once -/
def tCut (t u : TS) : TS := fun D σ H => ∃ J : St → Hp → Prop, t { D with nx := J } σ H ∧ ∀ σ' H', J σ' H' → u D σ' H'
theorem pss_cut {X : Cx} {st : Stmt} {rest : List Stmt} {t u : TS} (h1 : PS X st t) (h2 : PSs X rest u) : PSs X (st :: rest) (tCut t u) := by
  intro pins s σ H D I h
  obtain ⟨J, h, k⟩ := h
  refine wpAny_execs_cons (thn (h1 pins s σ H { D with nx := J } I h) fun f s1 q => ?_)
  cases f with
  | next =>
    obtain ⟨σ', H', I', q⟩ := q
    exact h2 pins s1 σ' H' D I' (k σ' H' q)
  | ret v => exact q
  | brk => exact q
  | cont => exact q
/-! ### great ints -/
/-- within two thousand binary figures -/
def Big (i : Int) : Prop := i.natAbs < 2 ^ 2000
theorem Big.bits {i : Int} (h : Big i) : Builtin.Int.intBits i ≤ 2000 := PyProof.Rows.intBits_le h
def CDivB (_ j : Int) : Prop := 0 < j ∧ Big j
theorem big_log {j : Int} (h : Big j) : j.natAbs.log2 < 9000 := by
  by_cases z : j.natAbs = 0
  · rw [z]; decide
  · exact Nat.lt_of_lt_of_le ((Nat.log2_lt z).mpr h) (by decide)
section
variable {X : Cx}
theorem op_fdivB : OpR X (binaryOp .FloorDiv) (rI CDivB fun i j => .int (i / j)) := opI fun i j _ _ _ _ _ hc q => by
  have h1 : (0 : Int) < j := hc.1
  exact floordiv_int (by omega) (by rw [Int.fdiv_eq_ediv_of_nonneg i (by omega)]; exact q) (.inl (PyProof.noPylong_of_log2 (big_log hc.2)))
/-- a built-in type, a class of the text, by name -/
theorem pe_ty {x : Str} {n : String} {pos : Pos} (hg : Gl X x) (hm : X.mg x = none) (hv : bootBuiltins x = some (.type n)) (hn : x ≠ "__name__" := by decide) (hd : (x == ("__debug__" : Str)) = false := by decide) : PE X (.Name x pos) (tC (.ty n)) :=
  pe_bltn (v := .ty n) hg hm hv rfl hn hd
/-- a class as a value -/
def clsV : V → Option Value
  | .ty n => some (.type n)
  | .ref a => some (.ref a)
  | _ => none
theorem clsV_rel {c : V} {cv u : Value} (e : clsV c = some cv) (r : RelV c u) : u = cv := by
  cases c with
  | ty n => cases e; exact r
  | ref a => cases e; exact r
  | _ => cases e
/-- isinstance(x, c) -/
def rIsi (K : PySem.W.Frag) : List V → Hp → VK → Prop := fun vs H Q => ∃ x c t cv b, vs = [x, c] ∧ TyOf K H x t ∧ clsV c = some cv ∧ PySem.W.kitOne K t cv = some b ∧ Q (.bl b) H
theorem call_isi : CallR X (.builtin "isinstance") (rIsi X.K) := by
  intro pins s σ H xs us Q I r h
  obtain ⟨x, c, t, cv, b, rfl, ty, rc, e, q⟩ := h
  cases r with
  | cons rx r2 =>
    cases r2 with
    | cons rc2 r3 =>
      cases r3
      cases clsV_rel rc rc2
      exact isinst_ok I rx ty e fun tk => ⟨.bl b, H, I.tok _, rfl, q⟩
end
end L2

namespace L2
open PySem PySem.Spec PyProof.Rows

/-! ### a list comprehension of one clause -/
def compX (X : Cx) (scope : Scope) (cl : List (Str × Addr)) (x : Str) (s₃ : Shared) (H₃ : Hp) (C : Addr) (ex : List Addr) : Cx :=
  { X with N := x :: X.N, s₀ := s₃, H₀ := H₃, env := compEnvC scope cl C X.env, outer := X.stack, ex := ex, fn := fun _ => false, pn := [], xe := fun _ _ => False }
def PTs (X : Cx) (ifs : List Expr) (t : TT) : Prop :=
  ∀ (pins : List (Addr × Obj)) (s : Shared) (σ : St) (H : Hp) (Q : Bool → Hp → Prop), Inv X pins σ H s → t σ H Q →
    wpAny (model X.prog X.w) X.A (forIn ifs true fun c r => if r = true then do let ok ← isTrue c X.env (eval c X.env); pure (ForInStep.yield ok) else pure (ForInStep.yield r)) (TP X pins σ Q) X.xe s
def tTrue : TT := fun _ H Q => Q true H
theorem pts_nil {X : Cx} : PTs X [] tTrue := fun _ _ _ H _ I h => wpAny_tests_nil ⟨H, I, h⟩
/-- W: turn, measure, the list so far, the heap -/
def LCi (J : It) (D : Addr) (tt : TT) (te : TE) (σ : St) (H1 : Hp) (Q : VK) : Prop := ∃ W : Nat → Nat → List V → Hp → Prop, (∃ m, W 0 m [] (upd H1 D (.lst []))) ∧
  ∀ i m acc H2, W i m acc H2 → (J.stop i H2 ∧ Q (.ref D) H2) ∨ (J.go i H2 ∧ ∀ v H3, J.yld i H2 v H3 → tt (some v :: σ) H3 fun b H4 =>
    if b = true then te (some v :: σ) H4 fun y H5 => H5 D = some (.lst acc) ∧ acc.length < sizeLine ∧ ∃ m', m' < m ∧ W (i + 1) m' (acc ++ [y]) (upd H5 D (.lst (acc ++ [y])))
    else ∃ m', m' < m ∧ W (i + 1) m' acc H4)
def tLC (wi : TI) (tt : TT) (te : TE) : TE := fun σ H Q => wi σ H fun J H1 => ∀ D, H1 D = none → LCi J D tt te σ H1 Q

section
variable {prog : Program} {w : World} {A : Around} {R : Result → Shared → Prop} {s : Shared}
/-- the loop of a comprehension, by a word and a measure; nothing is raised in it -/
theorem comp_loop {elt target iter : Expr} {ifs : List Expr} {scope : Scope} {pos : Pos} {it acc : Value} {env : Env} (I : Nat → Shared → Prop)
    (turn : ∀ n s, I n s → wpAny (model prog w) A (pyNext it) (fun r s₁ => match r with
      | none => R (.ok .next) s₁
      | some v => wpAny (model prog w) A (letOwnedTupleGo target it v) (fun _ s₂ => wpAny (model prog w) A (assign target env v) (fun _ s₃ =>
          wpAny (model prog w) A (forIn ifs true fun c r => if r = true then do let ok ← isTrue c env (eval c env); pure (ForInStep.yield ok) else pure (ForInStep.yield r))
            (fun ok s₄ => if ok = true then wpAny (model prog w) A (eval elt env) (fun y s₅ => wpAny (model prog w) A (call (.builtin "list.append") [acc, y]) (fun _ s₆ => ∃ m, m < n ∧ I m s₆) (fun _ _ => False) s₅) (fun _ _ => False) s₄
              else ∃ m, m < n ∧ I m s₄) (fun _ _ => False) s₃) (fun _ _ => False) s₂) (fun _ _ => False) s₁) (fun _ _ => False) s)
    (n : Nat) (h : I n s) : codeAny (model prog w) A (.compLoop (.ListComp elt [⟨target, iter, ifs, 0⟩] scope pos) 0 it acc env) R s := by
  refine codeAny_loop rfl I (fun n s hI => ?_) n h
  show wpAny _ A ((compTurn (.ListComp elt [⟨target, iter, ifs, 0⟩] scope pos) 0 it acc env).onRaise _) _ _ s
  refine wpAny_noted ?_
  rw [compTurn_list]
  have no : ∀ (e : Value) (s' : Shared), False → notedBy (model prog w) A env (fun x s' => R (.error x) s') e s' := fun _ _ z => z.elim
  refine wpAny_bind (wpAny_standAt (wpAny_bind (wpAny_mono (turn n s hI) (fun r s₁ h₁ => ?_) no)))
  cases r with
  | none => exact wpAny_pure h₁
  | some v =>
    refine wpAny_bind (wpAny_mono h₁ (fun _ s₂ h₂ => ?_) no)
    refine wpAny_bind (wpAny_mono h₂ (fun _ s₃ h₃ => ?_) no)
    refine wpAny_bind (wpAny_mono h₃ (fun ok s₄ h₄ => ?_) no)
    cases ok with
    | false =>
      rw [if_neg Bool.false_ne_true] at h₄
      exact wpAny_pure ⟨rfl, h₄⟩
    | true =>
      rw [if_pos rfl] at h₄
      refine wpAny_bind (wpAny_bind (wpAny_mono h₄ (fun y s₅ h₅ => ?_) no))
      exact wpAny_bind (wpAny_mono h₅ (fun _ s₆ h₆ => wpAny_pure (wpAny_pure ⟨rfl, h₆⟩)) no)
end

section
variable {X : Cx} {scope : Scope} {cl : List (Str × Addr)} {x : Str}
/-- what the comprehension's scope must be -/
structure CompOk (X : Cx) (scope : Scope) (cl : List (Str × Addr)) (x : Str) : Prop where
  clos : closureFor scope X.env = pure cl
  cell : ∀ y ∈ scope.names, y.2 ≠ .cell
  kind : scope.kind = .function
  names : ∀ y ∈ scope.names, y.2 = .local → scope.names.lookup y.1 = some .local
  own : scope.names.lookup x = some .local
  nd : (x :: X.N).Nodup
  sub : ∀ y c, cl.lookup y = some c → X.env.cells.lookup y = some c
  vis : ∀ y ∈ X.N, Vis (relabel scope X.env) y → X.env.kindOf y ≠ some .local ∧ ((relabel scope X.env).names.lookup y = some .cell ∨ (relabel scope X.env).names.lookup y = some .free) ∧ cl.lookup y = X.env.cells.lookup y
  has : ∀ y, ((relabel scope X.env).names.lookup y = some .cell ∨ (relabel scope X.env).names.lookup y = some .free) → ∃ c, cl.lookup y = some c
  visO : ∀ y ∈ X.N, Vis (relabel scope X.env) y → Vis X.env.scope y

theorem comp_start {pins : List (Addr × Obj)} {σ : St} {H : Hp} {s : Shared} {h₁ : Heap} {ex : List Addr} {t' : Nat} (O : CompOk X scope cl x) (I : Inv X pins σ H s) (hex : ∀ b ∈ ex, FpOk X pins H b) (hlt : ∀ b ∈ ex, b < s.heap.objs.size)
    (hn : h₁.Ns s.heap.objs.size (fun _ => none)) (hk : ∀ b o, s.heap.get? b = some o → h₁.get? b = some o) :
    Inv (compX X scope cl x s H s.heap.objs.size ex) [] (none :: σ) H { s with heap := h₁, toks := t' } := by
  refine ⟨⟨I.ok.mod, O.kind, I.ok.glob, I.ok.blt, Nat.le_refl _, fun y z c h1 h2 => I.ok.inj y z c (O.sub y c h1) (O.sub z c h2), fun y hy => O.has y hy, fun y c h => (by cases h), I.ok.hd, I.ok.frames, .inl rfl, fun b hb => ?_,
    I.bs, Nat.le_trans I.ok.bsz I.sz, fun b o e hb => ?_, fun b hb hf => ?_, I.stack, I.stkFree⟩, rfl, I.bare, Un.kept hk, ⟨_, hn, fun i y v h1 h2 h3 => ?_⟩, fun y c h => ?_, I.hok.fresh (Nat.le_refl _), fun y c h => I.freeC y c (O.sub y c h), fun p hp => absurd (show p ∈ ([] : List (Addr × Obj)) from hp) (by simp), I.hok.kept hk, ?_⟩
  · exact ⟨Nat.ne_of_lt (hlt b hb), fun y c h => (hex b hb).2.2.2.2.1 y c (O.sub y c h)⟩
  · rcases (hex b hb).2.2.2.1 with z | z
    · exact I.ok.noex b o e z
    · exact absurd (Nat.lt_of_lt_of_le (Heap.lt_size (I.ok.bs b o e).1) z) (Nat.lt_irrefl _)
  · rcases List.mem_cons.mp (I.stkSub b hf) with z | z
    · exact (hex b hb).2.1 z
    · exact (hex b hb).2.2.1 z
  · cases i with
    | zero => cases h2
    | succ i =>
      have h1' : X.N[i]? = some y := h1
      have h2' : σ[i]? = some (some v) := h2
      have hy : y ∈ X.N := List.mem_of_getElem? h1'
      obtain ⟨m, _, hl⟩ := I.loc
      obtain ⟨u, r, l⟩ := hl i y v h1' h2' (O.visO y hy h3)
      obtain ⟨n1, n2, n3⟩ := O.vis y hy h3
      refine ⟨u, r, .inr ⟨n2, ?_⟩⟩
      rcases l with ⟨l, _⟩ | ⟨_, c, e, z⟩
      · exact absurd l n1
      · obtain ⟨o, ho, hd⟩ := z
        exact ⟨c, n3.trans e, o, hk _ _ ho, hd⟩
  · obtain ⟨v, o, ho, hd⟩ := I.cell y c (O.sub y c h)
    exact ⟨v, o, hk _ _ ho, hd⟩
  · show (none :: σ).length = (x :: X.N).length
    rw [List.length_cons, List.length_cons, I.len]

theorem comp_back {pins : List (Addr × Obj)} {σ σ' : St} {H H' : Hp} {s s' : Shared} {h' : Heap} {C : Addr} {ex : List Addr} (I : Inv X pins σ H s) (hex : ∀ b ∈ ex, FpOk X pins H b) (hC : s.heap.objs.size ≤ C)
    (J : Inv (compX X scope cl x s H C ex) [] σ' H' s') (hs : Heap.SameBut C s'.heap h') : Inv X pins σ H' { s' with heap := h' } := by
  have hok : HOk X.prog X.w H' h' := fun b o e => by
    have z := J.hok b o e
    refine z.stay (fun c v hc q => (hs.2 c ?_).trans q) (fun _ q => q) fun _ _ q => q
    intro zc
    have hf : H' C = none := J.free
    rcases hc with hc | hc
    · rw [← hc, zc, hf] at e; cases e
    · rw [zc, hf] at hc; cases hc
  have ne : ∀ b o, s.heap.get? b = some o → b ≠ C := fun b o e => Nat.ne_of_lt (Nat.lt_of_lt_of_le (Heap.lt_size e) hC)
  have un : Un (frs X.stack) ex H H' s.heap h' :=
    ⟨fun b o e n hb hx => (hs.2 b (ne b o e)).trans (J.base.keep b o e n hb hx), fun b o e n hb hx => let ⟨sl, q⟩ := J.base.slot b o e n hb hx; ⟨sl, (hs.2 b (ne b o e)).trans q⟩, fun b o e n hx => J.base.free b o e n hx,
      fun b o e hx => let ⟨o', q⟩ := J.base.there b o e hx; ⟨o', (hs.2 b (ne b o e)).trans q⟩, J.base.tups, J.base.frzs, J.base.tbls⟩
  exact I.call' (ch := ex) J.os un hok J.bare fun b hb => ⟨(hex b hb).2.2.2.1, (hex b hb).2.1, (hex b hb).2.2.2.2.1, (hex b hb).2.2.2.2.2⟩

theorem pe_lc {elt iter : Expr} {px : Pos} {ifs : List Expr} {pos : Pos} {wi : TI} {tt : TT} {te : TE} (hc : X.calm = true) (O : CompOk X scope cl x) (hi : PI X (.Name x px) iter wi)
    (ht : ∀ s₃ H₃ C ex, PTs (compX X scope cl x s₃ H₃ C ex) ifs tt) (he : ∀ s₃ H₃ C ex, PE (compX X scope cl x s₃ H₃ C ex) elt te)
    (hs : ∀ z, foldedSetIterable iter X.env z = pure z := by intro _; rfl) : PE X (.ListComp elt [⟨.Name x px, iter, ifs, 0⟩] scope pos) (tLC wi tt te) := by
  intro pins s σ H Q I h
  rw [eval_ListComp]
  refine wpAny_comprehension_free (use := none) rfl hs O.clos O.kind O.names (thn (hi pins s σ H _ I h) fun v s1 h1 => thn h1 fun itv s2 h2 => ?_)
  obtain ⟨it, fp, tn, J, H2, e, I2, T, st2, f2, step⟩ := h2
  subst e
  have hD : H2 s2.heap.objs.size = none := I2.fresh
  obtain ⟨W, ⟨m0, w0⟩, turn⟩ := step _ hD
  refine wpAny_newObj_type (wpAny_newFunctionEnv O.cell (by intro y hy; simp at hy) (fun h₁ hns₁ hsb₁ => ?_) O.kind)
  have I3 : Inv X pins σ (upd H2 s2.heap.objs.size (.lst [])) { s2 with heap := s2.heap.push { cls := .type "list", dict := none, data := .seq ([] : List Value).toArray } } := I2.lnew (t' := s2.toks) (ys := []) .nil (by decide)
  have fpn : ∀ b ∈ fp, b ≠ s2.heap.objs.size := fun b hb => by
    obtain ⟨o, e, _⟩ := T.obj _ _ st2 b hb
    exact Nat.ne_of_lt (Heap.lt_size e)
  have f3 : ∀ b ∈ fp, FpOk X pins (upd H2 s2.heap.objs.size (.lst [])) b := fun b hb => ⟨by rw [upd_ne (fpn b hb)]; exact (f2 b hb).1, (f2 b hb).2⟩
  have hlt : ∀ b ∈ fp, b < (s2.heap.push { cls := .type "list", dict := none, data := .seq ([] : List Value).toArray }).objs.size := fun b hb => by
    obtain ⟨o, e, _⟩ := T.obj _ _ st2 b hb
    exact Nat.lt_trans (Heap.lt_size e) (by rw [Heap.size_push]; exact Nat.lt_succ_self _)
  have hk1 : ∀ b o, (s2.heap.push { cls := .type "list", dict := none, data := .seq ([] : List Value).toArray }).get? b = some o → h₁.get? b = some o := fun b o e =>
    (hsb₁.2 b (Nat.ne_of_lt (Heap.lt_size e))).trans (Heap.get?_push_of_some _ e)
  have J4 := comp_start (t' := s2.toks + ([] : List (Str × Value)).length) O I3 f3 hlt hns₁ hk1
  have st4 : tn 0 h₁ := T.keep _ _ _ st2 fun b hb o e => hk1 b o (Heap.get?_push_of_some _ e)
  have fine : ∀ {H' : Hp}, (∀ b ∈ fp, H' b = none) → ∀ b ∈ fp, FpOk (compX X scope cl x { s2 with heap := s2.heap.push { cls := .type "list", dict := none, data := .seq ([] : List Value).toArray } } (upd H2 s2.heap.objs.size (.lst [])) (s2.heap.push { cls := .type "list", dict := none, data := .seq ([] : List Value).toArray }).objs.size fp) [] H' b := fun hn b hb =>
    ⟨hn b hb, Nat.ne_of_lt (hlt b hb), fun hf => by
      rcases List.mem_cons.mp (I2.stkSub b hf) with z | z
      · exact (f2 b hb).2.1 z
      · exact (f2 b hb).2.2.1 z, .inl hb, fun y c h => (f2 b hb).2.2.2.2.1 y c (O.sub y c h), fun p hp => absurd (show p ∈ ([] : List (Addr × Obj)) from hp) (by simp)⟩
  have loop : codeAny (model X.prog X.w) X.A (.compLoop (.ListComp elt [⟨.Name x px, iter, ifs, 0⟩] scope pos) 0 (.ref it) (.ref s2.heap.objs.size) (compEnvC scope cl (s2.heap.push { cls := .type "list", dict := none, data := .seq ([] : List Value).toArray }).objs.size X.env))
      (compPost (model X.prog X.w) X.A X.xe none (EP X pins σ Q) (.ref s2.heap.objs.size) (s2.heap.push { cls := .type "list", dict := none, data := .seq ([] : List Value).toArray }).objs.size) { s2 with heap := h₁, toks := s2.toks + ([] : List (Str × Value)).length } := by
    refine comp_loop (fun n s' => ∃ i acc v0 H', Inv (compX X scope cl x { s2 with heap := s2.heap.push { cls := .type "list", dict := none, data := .seq ([] : List Value).toArray } } (upd H2 s2.heap.objs.size (.lst [])) (s2.heap.push { cls := .type "list", dict := none, data := .seq ([] : List Value).toArray }).objs.size fp) [] (v0 :: σ) H' s' ∧ tn i s'.heap ∧ (∀ b ∈ fp, H' b = none) ∧ W i n acc H') ?_ m0 ⟨0, [], none, _, J4, st4, fun b hb => (f3 b hb).1, w0⟩
    rintro n s3 ⟨i, acc, v0, H3, J3, st3, fr3, w3⟩
    rcases turn i n acc H3 w3 with ⟨stop, qn⟩ | ⟨go, nxt⟩
    · refine wpAny_mono (T.done (compX X scope cl x _ _ _ fp) rfl rfl rfl hc i [] s3 (v0 :: σ) H3 (fun _ _ => False) J3 (fine fr3) st3 stop) (fun r s4 ⟨hr, J5⟩ => ?_) fun _ _ z => z.elim
      subst hr
      obtain ⟨m, hn, _⟩ := J5.loc
      exact ⟨m, hn, fun h' hs' => ⟨.ref s2.heap.objs.size, H3, comp_back I3 f3 (Nat.le_refl _) J5 hs', rfl, qn⟩⟩
    · refine wpAny_mono (T.item (compX X scope cl x _ _ _ fp) rfl rfl rfl hc i [] s3 (v0 :: σ) H3 (fun _ _ => False) J3 (fine fr3) st3 go) (fun r s4 ⟨u, hr, h4⟩ => ?_) fun _ _ z => z.elim
      subst hr
      refine wpAny_mono h4 (fun _ s5 ⟨v, H5, J5, r5, y5, st5, fr5⟩ => ?_) fun _ _ z => z.elim
      have J5' := J5.pinned (fine fr5) (T.obj _ _ st5)
      refine wpAny_mono (pg_name (i := 0) (pos := px) O.nd rfl (.inl (lookup_relabel_local O.own)) (.inr (lookup_relabel_local O.own)) _ s5 (v0 :: σ) H5 v u (fun σ' H' => σ' = some v :: σ ∧ H' = H5) J5' r5 ⟨rfl, rfl⟩) (fun _ s6 ⟨σ6, H6, J6, e6, e6'⟩ => ?_) fun _ _ z => z.elim
      subst e6 e6'
      have again : ∀ {s7 : Shared} {H7 : Hp}, Inv (compX X scope cl x { s2 with heap := s2.heap.push { cls := .type "list", dict := none, data := .seq ([] : List Value).toArray } } (upd H2 s2.heap.objs.size (.lst [])) (s2.heap.push { cls := .type "list", dict := none, data := .seq ([] : List Value).toArray }).objs.size fp) ([] ++ pinsAt fp s5.heap) (some v :: σ) H7 s7 → tn (i + 1) s7.heap ∧ (∀ b ∈ fp, H7 b = none) := fun {s7 H7} J7 => by
        refine ⟨T.keep _ _ _ st5 fun b hb o e => (J7.pin (b, o) (List.mem_append_right _ (List.mem_append_right _ (mem_pinsAt hb e)))).1, fun b hb => ?_⟩
        obtain ⟨o, e, d⟩ := T.obj _ _ st5 b hb
        exact (J7.pin (b, o) (List.mem_append_right _ (List.mem_append_right _ (mem_pinsAt hb e)))).2.1
      refine wpAny_mono (ht _ _ _ _ _ s6 (some v :: σ) H6 _ J6 (nxt v H6 y5)) (fun b s7 ⟨H7, J7, q7⟩ => ?_) fun _ _ z => z.elim
      cases b with
      | false =>
        rw [if_neg Bool.false_ne_true] at q7 ⊢
        obtain ⟨m', hm, w7⟩ := q7
        obtain ⟨a1, a2⟩ := again J7
        exact ⟨m', hm, i + 1, acc, some v, H7, J7.unpinned, a1, a2, w7⟩
      | true =>
        rw [if_pos rfl] at q7 ⊢
        refine wpAny_mono (he _ _ _ _ _ s7 (some v :: σ) H7 _ J7 q7) (fun u8 s8 ⟨y, H8, J8, r8, k8, z8, m', hm, w8⟩ => ?_) fun _ _ z => z.elim
        refine wpAny_mono (mt_append (X := compX X scope cl x { s2 with heap := s2.heap.push { cls := .type "list", dict := none, data := .seq ([] : List Value).toArray } } (upd H2 s2.heap.objs.size (.lst [])) (s2.heap.push { cls := .type "list", dict := none, data := .seq ([] : List Value).toArray }).objs.size fp) _ s8 (some v :: σ) H8 (.ref s2.heap.objs.size) [y] (.ref s2.heap.objs.size) [u8] (fun _ H' => H' = upd H8 s2.heap.objs.size (.lst (acc ++ [y]))) J8 rfl (.cons r8 .nil) ⟨_, acc, y, rfl, rfl, k8, z8, rfl⟩) (fun u9 s9 ⟨v9, H9, J9, r9, e9⟩ => ?_) fun _ _ z => z.elim
        subst e9
        obtain ⟨a1, a2⟩ := again J9
        exact ⟨m', hm, i + 1, acc ++ [y], some v, _, J9.unpinned, a1, a2, w8⟩
  exact codeAny_compStart_list loop (T.self X.A 0 _ _ _ st4 loop)
end
end L2

namespace L2
open PySem PySem.Spec PyProof.Rows

/-! ### exceptions of own classes: how one lies behind a call -/
/-- what stood at the entry s, and all that is tracked, is in B as it stands, but for the frames -/
def Covers (B : Heap) (H' : Hp) (s s' : Shared) (fs : List Addr) : Prop := ∀ b o, s'.heap.get? b = some o → ((∃ o', s.heap.get? b = some o') ∨ H' b ≠ none) → b ∉ fs → B.get? b = some o
def CXR (P : Program) (w : World) : CXT := fun outer H s E e s' => ∃ (a C : Addr) (a0 : Value) (B : Heap) (H' : Hp), e = .ref a ∧ s'.os = s.os ∧ AllBare s'.gens ∧ Un (frs outer) [] H H' s.heap s'.heap ∧ HOk P w H' s'.heap ∧
  Heap.FlyingW B outer a (.ref C) a0 s'.heap ∧ Covers B H' s s' (frs outer) ∧ H' a = none ∧ s.heap.get? a = none ∧ E (.ref C) none H'
theorem passR {X : Cx} {P : Program} {w : World} : Passes (CXR P w) X E0 := fun _ _ _ _ _ _ _ ⟨_, _, _, _, _, _, _, _, _, _, _, _, _, _, z⟩ => z.elim
theorem ObjOk.has {P : Program} {w : World} {H : Hp} {h : Heap} {a : Addr} {o : HO} (x : ObjOk P w H h a o) : ∃ u, h.get? a = some u := by
  cases o with
  | lst xs => obtain ⟨_, _, _, _, e⟩ := x; exact ⟨_, e⟩
  | tup xs => obtain ⟨_, _, _, _, e, _⟩ := x; exact ⟨_, e⟩
  | dK kvs => obtain ⟨_, _, _, _, o, _, _, e, _⟩ := x; exact ⟨_, e⟩
  | dT kvs => obtain ⟨_, _, _, _, o, _, _, e, _⟩ := x; exact ⟨_, e⟩
  | set S n => obtain ⟨o, _, _, _, e, _⟩ := x; exact ⟨_, e⟩
  | ins C dx fs => obtain ⟨_, _, _, e, _⟩ := x; exact ⟨_, e⟩
  | own y => exact x
  | xd fs => obtain ⟨_, ⟨_, _, _, e, _⟩, _⟩ := x; exact ⟨_, e⟩
  | rng lo hi => obtain ⟨_, _, _, e⟩ := x; exact ⟨_, e⟩
  | frz ob u => obtain ⟨e, _⟩ := x; exact ⟨_, e⟩
  | tbl ps => exact ⟨_, (show h.get? a = some _ from x)⟩
  | met f y => exact ⟨_, (show h.get? a = some _ from x)⟩
  | ext φ => obtain ⟨_, e, _⟩ := x; exact e

section
variable {P : Program} {w : World} {K : PySem.W.Frag} {mg : Str → Option Value} {base : Heap} {N : List Str} {qual : Str} {scope : Scope} {f : Addr} {cd : Value} {A : Around} {outer : List Env} {s₀ : Shared} {H₀ : Hp} {E : XK}
/-- an exception that has just been made reaches what is wanted -/
def Flies (X : Cx) (E : XK) : Prop := ∀ (pins : List (Addr × Obj)) (σ : St) (H : Hp) (s : Shared) (e C : Addr) (vs : List Value) (h' : Heap), Inv X pins σ H s → Heap.MadeExcOf s.heap h' e (.ref C) vs → E (.ref C) none H → X.xe (.ref e) { s with heap := h' }
theorem mem_frs {l : List Env} {env : Env} {b : Addr} (he : env ∈ l) (hb : env.frame = some b) : b ∈ frs l := List.mem_filterMap.mpr ⟨env, he, hb⟩
theorem frs_cons {env : Env} {l : List Env} {L b : Addr} (hf : env.frame = some L) (hb : b ∈ frs (env :: l)) : b = L ∨ b ∈ frs l := by
  unfold frs at hb
  rw [List.filterMap_cons, hf] at hb
  exact List.mem_cons.mp hb
theorem flies_fn : Flies (cxOf (CXR P w) P w K mg base N qual scope f cd A outer s₀ H₀ E) E := by
  intro pins σ H s e C vs h1 I hx hE
  have ss : ∀ b, b ∈ frs (envOfC qual scope s₀.heap.objs.size f cd :: outer) → b = s₀.heap.objs.size ∨ b ∈ frs outer := fun b hb => frs_cons rfl hb
  have fresh : ∀ b o, s₀.heap.get? b = some o → b ≠ s₀.heap.objs.size := fun b o q => Nat.ne_of_lt (Heap.lt_size q)
  refine wpAny_leaves_madeW (base := PySem.W.hideAll s.heap (frs (envOfC qual scope s₀.heap.objs.size f cd :: outer))) (h := s.heap) (L := s₀.heap.objs.size) I.ok.frames rfl (fun b o q => PySem.W.of_hideAll _ q)
    (PySem.W.funFrames_hide I.stack fun env he b hb => mem_frs he hb) hx fun h' t fl tup bt ups => ?_
  have keepB : ∀ b o, s.heap.get? b = some o → b ∉ frs (envOfC qual scope s₀.heap.objs.size f cd :: outer) → h'.get? b = some o := fun b o q n => fl.1 b o (PySem.W.hideAll_get _ q n)
  have out0 : ∀ b o, s₀.heap.get? b = some o → b ∉ frs outer → b ∉ frs (envOfC qual scope s₀.heap.objs.size f cd :: outer) := fun b o q n z => (ss b z).elim (fresh b o q) n
  have outH : ∀ b u, H b = some u → b ∉ frs (envOfC qual scope s₀.heap.objs.size f cd :: outer) := fun b u q z => by
    have := I.stkFree b z
    rw [q] at this; cases this
  have slotF : ∀ b o, s.heap.get? b = some o → b ∈ frs outer → ∃ sl, h'.get? b = some { o with slots := sl } := fun b o q hb => by
    obtain ⟨_, o', q', nf⟩ := I.funs.mem hb
    rw [q] at q'; cases q'
    exact ups b o (hx.keeps b o q) nf
  have hok : HOk P w H h' := fun b u q => (I.hok b u q).stay (fun c v hc q' => keepB c v q' (by
    rcases hc with rfl | hc
    · exact outH c u q
    · exact outH c _ hc)) (fun _ q => q) fun _ _ q => q
  have there : ∀ b o, s₀.heap.get? b = some o → ∃ o1, s.heap.get? b = some o1 := fun b o q => I.base.there b o q (by intro z; exact absurd (show b ∈ ([] : List Addr) from z) (by simp))
  have nex : ∀ b : Addr, b ∉ (cxOf (CXR P w) P w K mg base N qual scope f cd A outer s₀ H₀ E).ex := fun b z => absurd (show b ∈ ([] : List Addr) from z) (by simp)
  refine ⟨e, C, .ref t, _, H, rfl, I.os, I.bare, ⟨fun b o q n hb _ => keepB b o (I.base.keep b o q n hb (nex b)) (out0 b o q hb), fun b o q n hb _ => ?_, fun b o q n _ => I.base.free b o q n (nex b), fun b o q _ => ?_, I.base.tups, I.base.frzs, I.base.tbls⟩, hok, fl, fun b o q hb nb => ?_, ?_, ?_, hE⟩
  · obtain ⟨sl, q1⟩ := I.base.slot b o q n hb (nex b)
    obtain ⟨sl', q2⟩ := slotF b _ q1 hb
    exact ⟨sl', q2⟩
  · obtain ⟨o1, q1⟩ := there b o q
    by_cases hb : b ∈ frs outer
    · obtain ⟨sl, q2⟩ := slotF b o1 q1 hb
      exact ⟨_, q2⟩
    · exact ⟨_, keepB b o1 q1 (out0 b o q hb)⟩
  · obtain ⟨o1, q1, n1⟩ : ∃ o1, s.heap.get? b = some o1 ∧ b ∉ frs (envOfC qual scope s₀.heap.objs.size f cd :: outer) := by
      rcases hb with ⟨o', q'⟩ | hb
      · obtain ⟨o1, q1⟩ := there b o' q'
        exact ⟨o1, q1, out0 b o' q' nb⟩
      · cases hH : H b with
        | none => exact absurd hH hb
        | some u =>
          obtain ⟨o1, q1⟩ := (I.hok b u hH).has
          exact ⟨o1, q1, outH b u hH⟩
    have q2 := keepB b o1 q1 n1
    have q' : h'.get? b = some o := q
    rw [q2] at q'; cases q'
    exact PySem.W.hideAll_get _ q1 n1
  · cases hH : H e with
    | none => rfl
    | some u =>
      obtain ⟨o1, q1⟩ := (I.hok e u hH).has
      have q1 : s.heap.get? e = some o1 := q1
      rw [hx.new] at q1; cases q1
  · cases hq : s₀.heap.get? e with
    | none => rfl
    | some o =>
      obtain ⟨o1, q1⟩ := there e o hq
      rw [hx.new] at q1; cases q1
/-- an exception of a callee that goes on through this frame -/
def PassesS (CX : CXT) (X : Cx) (E : St → XK) : Prop := ∀ (pins : List (Addr × Obj)) (σ : St) (H : Hp) (s : Shared) (e : Value) (s' : Shared), Inv X pins σ H s → CX X.stack H s (E σ) e s' → X.xe e s'
theorem pass_fn {E' : St → XK} (hE : ∀ σ c d H, E' σ c d H → E c d H) : PassesS (CXR P w) (cxOf (CXR P w) P w K mg base N qual scope f cd A outer s₀ H₀ E) E' := by
  intro pins σ H s e s' I hc
  obtain ⟨a, C, a0, B, H', rfl, os, bare, un, hok, fl, cv, n1, n2, hE'⟩ := hc
  have ss : ∀ b, b ∈ frs (envOfC qual scope s₀.heap.objs.size f cd :: outer) → b = s₀.heap.objs.size ∨ b ∈ frs outer := fun b hb => frs_cons rfl hb
  have fresh : ∀ b o, s₀.heap.get? b = some o → b ≠ s₀.heap.objs.size := fun b o q => Nat.ne_of_lt (Heap.lt_size q)
  have out0 : ∀ b o, s₀.heap.get? b = some o → b ∉ frs outer → b ∉ frs (envOfC qual scope s₀.heap.objs.size f cd :: outer) := fun b o q n z => (ss b z).elim (fresh b o q) n
  have nex : ∀ b : Addr, b ∉ (cxOf (CXR P w) P w K mg base N qual scope f cd A outer s₀ H₀ E).ex := fun b z => absurd (show b ∈ ([] : List Addr) from z) (by simp)
  refine wpAny_leaves_onW (base := B) (L := s₀.heap.objs.size) I.ok.frames rfl fl fun h' fl' ups => ?_
  have outH : ∀ b u, H' b = some u → b ∉ frs (envOfC qual scope s₀.heap.objs.size f cd :: outer) := fun b u q z => by
    have hf : H b = none := I.stkFree b z
    obtain ⟨_, o, q1, _⟩ := I.stack.mem z
    have := un.free b o q1 hf (by simp)
    rw [q] at this; cases this
  have keep1 : ∀ b o, s'.heap.get? b = some o → ((∃ o', s.heap.get? b = some o') ∨ H' b ≠ none) → b ∉ frs (envOfC qual scope s₀.heap.objs.size f cd :: outer) → h'.get? b = some o := fun b o q hb nb => fl'.1 b o (cv b o q hb nb)
  have slotF : ∀ b o, s'.heap.get? b = some o → b ∈ frs outer → ∃ sl, h'.get? b = some { o with slots := sl } := fun b o q hb => by
    obtain ⟨_, o', q', nf⟩ := fl.2.2.1.mem (List.mem_filterMap.mpr (by
      obtain ⟨env, he, hf⟩ := List.mem_filterMap.mp hb
      exact ⟨env, List.mem_cons_of_mem _ he, hf⟩))
    rw [q] at q'; cases q'
    exact ups b o q nf
  have inS : ∀ b, b ∈ frs outer → b ∈ frs (envOfC qual scope s₀.heap.objs.size f cd :: outer) := fun b hb => by
    obtain ⟨env, he, hf⟩ := List.mem_filterMap.mp hb
    exact mem_frs (List.mem_cons_of_mem _ he) hf
  have there : ∀ b o, s₀.heap.get? b = some o → ∃ o1 o2, s.heap.get? b = some o1 ∧ s'.heap.get? b = some o2 := fun b o q => by
    obtain ⟨o1, q1⟩ := I.base.there b o q (nex b)
    obtain ⟨o2, q2⟩ := un.there b o1 q1 (by simp)
    exact ⟨o1, o2, q1, q2⟩
  have hok' : HOk P w H' h' := fun b u q => (hok b u q).stay (fun c v hc q' => by
    rcases hc with rfl | hc
    · exact keep1 c v q' (.inr (by rw [q]; simp)) (outH c u q)
    · exact keep1 c v q' (.inr (by rw [hc]; simp)) (outH c _ hc)) (fun _ q => q) fun _ _ q => q
  refine ⟨a, C, a0, B, H', rfl, os.trans I.os, bare, ⟨fun b o q n hb _ => ?_, fun b o q n hb _ => ?_, fun b o q n _ => ?_, fun b o q _ => ?_, fun b xs q => un.tups b xs (I.base.tups b xs q), fun b o u q => un.frzs b o u (I.base.frzs b o u q), fun b ps q => ?_⟩, hok', fl', fun b o q hb nb => ?_, n1, ?_, hE _ _ _ _ hE'⟩
  · have q1 := I.base.keep b o q n hb (nex b)
    have nb := out0 b o q hb
    exact keep1 b o (un.keep b o q1 (I.base.free b o q n (nex b)) nb (by simp)) (.inl ⟨o, q1⟩) nb
  · obtain ⟨sl, q1⟩ := I.base.slot b o q n hb (nex b)
    obtain ⟨sl', q2⟩ := un.slot b _ q1 (I.base.free b o q n (nex b)) (inS b hb) (by simp)
    obtain ⟨sl2, q3⟩ := slotF b _ q2 hb
    exact ⟨sl2, q3⟩
  · obtain ⟨o1, q1⟩ := I.base.there b o q (nex b)
    exact un.free b o1 q1 (I.base.free b o q n (nex b)) (by simp)
  · obtain ⟨o1, o2, q1, q2⟩ := there b o q
    by_cases hb : b ∈ frs outer
    · obtain ⟨sl, q3⟩ := slotF b o2 q2 hb
      exact ⟨_, q3⟩
    · exact ⟨_, keep1 b o2 q2 (.inl ⟨o1, q1⟩) (out0 b o q hb)⟩
  · obtain ⟨m1, e1⟩ := I.base.tbls b ps q
    obtain ⟨m2, e2⟩ := un.tbls b _ e1
    exact ⟨m1 ++ m2, by rw [e2, Array.append_assoc]⟩
  · have q' : h'.get? b = some o := q
    rcases hb with ⟨o', q0⟩ | hb
    · obtain ⟨o1, o2, q1, q2⟩ := there b o' q0
      have q3 := keep1 b o2 q2 (.inl ⟨o1, q1⟩) (out0 b o' q0 nb)
      rw [q3] at q'; cases q'
      exact cv b _ q2 (.inl ⟨o1, q1⟩) (out0 b o' q0 nb)
    · cases hH : H' b with
      | none => exact absurd hH hb
      | some u =>
        obtain ⟨o2, q2⟩ := (hok b u hH).has
        have q3 := keep1 b o2 q2 (.inr hb) (outH b u hH)
        rw [q3] at q'; cases q'
        exact cv b _ q2 (.inr hb) (outH b u hH)
  · cases hq : s₀.heap.get? a with
    | none => rfl
    | some o =>
      obtain ⟨o1, o2, q1, q2⟩ := there a o hq
      rw [n2] at q1; cases q1
end

/-! ### a def as it stands behind the top, with the tuple of its defaults -/
structure FunD (K : PySem.W.Frag) (x qual : Str) (st : Stmt) (dV : Value) (f : Addr) (fd : FuncData) : Prop where
  ex : ∃ (oc : Value) (od : Option Addr) (kV doc pm : Value) (an : Option Addr) (cdv ct : Value) (osl : Array (Option Value)),
    fd = PySem.W.fnOf x qual (defArgs st) (defBody st) (defScope st) dV kV doc pm an cdv ct ∧ K.lookup f = some ⟨oc, od, .func fd, osl⟩ ∧ PySem.W.codeIn K cdv qual = true
  kp : PySem.W.keepIn K (.ref f) = true
section
variable {P : Program} {w : World} {K : PySem.W.Frag} {mg : Str → Option Value} {base : Heap}
theorem FunD.okR {x qual : Str} {st : Stmt} {dV : Value} {f : Addr} {fd : FuncData} {N ps : List Str} {k : Nat} {sp : Sp} (F : FunD K x qual st dV f fd) (S : FnScope N ps (defScope st)) (len : ∀ vs H Q E, sp vs H Q E → vs.length = ps.length)
    (hbody : ∀ (cdv : Value) (A : Around) (outer : List Env) (s : Shared) (H : Hp) (vs : List V) (Q : VK) (E : XK), Room k (A.deeper (envOfC qual (defScope st) s.heap.objs.size f cdv)) → sp vs H Q E →
      ∃ t, PSs (cxOf (CXR P w) P w K mg base N qual (defScope st) f cdv A outer s H E) (defBody st) t ∧ t { nx := fun _ H' => Q .non H', rt := Q } (start N vs) H) : FnOk P w K mg base (CXR P w) (k + 1) f fd ps sp := by
  obtain ⟨oc, od, kV, doc, pm, an, cdv, ct, osl, rfl, lk, hcd⟩ := F.ex
  exact fn_of lk hcd S len fun A outer s H vs Q E hr hsp => hbody cdv A outer s H vs Q E hr hsp
/-- nothing is raised in it -/
theorem FunD.okN {x qual : Str} {st : Stmt} {dV : Value} {f : Addr} {fd : FuncData} {N ps : List Str} {k : Nat} {sp : Sp} (F : FunD K x qual st dV f fd) (S : FnScope N ps (defScope st)) (len : ∀ vs H Q E, sp vs H Q E → vs.length = ps.length)
    (hbody : ∀ (cdv : Value) (A : Around) (outer : List Env) (s : Shared) (H : Hp) (vs : List V) (Q : VK) (E : XK), Room k (A.deeper (envOfC qual (defScope st) s.heap.objs.size f cdv)) → sp vs H Q E →
      ∃ t, PSs (cxOf (CXR P w) P w K mg base N qual (defScope st) f cdv A outer s H E).nox (defBody st) t ∧ t { nx := fun _ H' => Q .non H', rt := Q } (start N vs) H) : FnOk P w K mg base (CXR P w) (k + 1) f fd ps sp :=
  F.okR S len fun cdv A outer s H vs Q E hr hsp => let ⟨t, h, q⟩ := hbody cdv A outer s H vs Q E hr hsp; ⟨t, h.nox, q⟩
theorem FunD.binds {x qual : Str} {st : Stmt} {dV : Value} {f : Addr} {fd : FuncData} {ps : List Str} (F : FunD K x qual st dV f fd)
    (h : ∀ (kV doc pm : Value) (an : Option Addr) (cdv ct : Value) (us : List Value), us.length = ps.length → bindArgs (PySem.W.fnOf x qual (defArgs st) (defBody st) (defScope st) dV kV doc pm an cdv ct) ⟨us, []⟩ = pure (ps.zip us)) : Binds K fd ps [] := by
  obtain ⟨oc, od, kV, doc, pm, an, cdv, ct, osl, rfl, lk, hcd⟩ := F.ex
  exact .all (h kV doc pm an cdv ct)
theorem fund_mk {x qual : Str} {st : Stmt} {dV : Value} {f : Addr} {oc : Value} {od an : Option Addr} {osl : Array (Option Value)} {kV doc pm cdv ct : Value} (l : K.lookup f = some ⟨oc, od, .func (PySem.W.fnOf x qual (defArgs st) (defBody st) (defScope st) dV kV doc pm an cdv ct), osl⟩)
    (c : PySem.W.codeIn K cdv qual = true) (k : PySem.W.keepIn K (.ref f) = true) : FunD K x qual st dV f (PySem.W.fnOf x qual (defArgs st) (defBody st) (defScope st) dV kV doc pm an cdv ct) := ⟨⟨oc, od, kV, doc, pm, an, cdv, ct, osl, rfl, l, c⟩, k⟩
end
end L2

namespace L2
open PySem PySem.Spec PyProof.Rows

/-! ### raise C(text), C an own class under ValueError -/
abbrev vErr : List Value := [.type "ValueError", .type "Exception", .type "BaseException", .type "object"]
def IsExc (K : PySem.W.Frag) (C : Addr) : Prop := PySem.W.excIn K C vErr "ValueError.__new__" = true
theorem exc_obj {K : PySem.W.Frag} {h : Heap} {C : Addr} (X : K.In h) (q : IsExc K C) :
    ∃ bm N nm qn bs hdct sn sub ab col dd k0 k1 k2 k3 k5 mN, h.get? C = some (excClassObj nm qn C N bs bm hdct sn sub ab col dd k0 k1 k2 k3 k5 "ValueError.__new__") ∧ h.Ns N mN ∧ mN "__init__" = none ∧ OwnTail h vErr bm := by
  unfold IsExc PySem.W.excIn at q
  split at q
  case h_2 => cases q
  case h_1 dd cd sl lk =>
    split at q
    case h_2 => cases q
    case h_1 C' bm k0 k1 k2 k3 n k5 hm hs =>
      rw [Bool.and_eq_true, Bool.and_eq_true, Bool.and_eq_true, Bool.and_eq_true, Bool.and_eq_true] at q
      obtain ⟨⟨⟨⟨⟨q1, q2⟩, q3⟩, q4⟩, q5⟩, q6⟩ := q
      have r1 : C' = C := beq_iff_eq.mp q1
      have r2 : n = "ValueError.__new__" := beq_iff_eq.mp q2
      have r3 : cd.hasDel = false := by simpa using q3
      subst r1 r2
      cases cd with
      | mk nm bs mro ns qn hd sn sub ab col del =>
        have e1 : mro = .ref C' :: bm := hm
        have e2 : del = false := r3
        subst e1 e2
        have e3 : sl = #[k0, k1, k2, k3, some (.builtin "ValueError.__new__"), k5] := by
          cases sl with
          | mk l =>
            have : l = _ := hs
            rw [this]
        subst e3
        exact ⟨bm, ns, nm, qn, bs, hd, sn, sub, ab, col, dd, k0, k1, k2, k3, k5, _, X _ _ lk, .of_isNs (PySem.W.isNs_of_in X q5), PySem.W.nsMap_none_of_in X q5 (beq_iff_eq.mp q6), PySem.W.tail_of_in X q4⟩

section
variable {X : Cx}
def tRaise (C : Addr) (E : XK) (t : TA) : TS := fun _ σ H => t σ H fun vs H1 => vs.length ≤ sizeLine ∧ E (.ref C) none H1
theorem ps_raise {x : Str} {np cpos pos : Pos} {e₀ : Expr} {rest : List Expr} {t : TA} {C : Addr} {E : XK} (fl : Flies X E) (hc : X.calm = true) (hg : Gl X x) (hm : X.mg x = some (.ref C)) (q : IsExc X.K C) (ha : PA X (e₀ :: rest) t)
    (he : starEach (e₀ :: rest) X.env = (false, eval e₀ X.env) :: starEach rest X.env := by rfl) (hpl : (backTo cpos (starEach rest X.env)).any (·.1) = false := by rfl) (hd : (x == ("__debug__" : Str)) = false := by decide) :
    PS X (.Raise (some (.Call (.Name x np) (e₀ :: rest) [] cpos)) none pos) (tRaise C E t) := by
  intro pins s σ H D I h
  obtain ⟨bm, N, nm, qn, bs, hdct, sn, sub, ab, col, dd, k0, k1, k2, k3, k5, mN, hC, hN, hni, TL⟩ := exc_obj I.ok.mod.kin q
  have hb : (backTo cpos (starEach (e₀ :: rest) X.env)).any (·.1) = false := by
    rw [he]
    show (false || (backTo cpos (starEach rest X.env)).any (·.1)) = false
    rw [hpl]; rfl
  refine wpAny_Raise_call_subT (C := C) (nm := nm) (q := qn) (N := N) (bs := bs) (bm := bm) (hdct := hdct) (sn := sn) (sub := sub) (ab := ab) (col := col) (dd := dd) (k0 := k0) (k1 := k1) (k2 := k2) (k3 := k3) (k5 := k5) (mN := mN)
    PySem.F.excBase_ValueError (TL.hasType PySem.F.excBase_ValueError.hasBase) (I.ok.hd hc) hb hni (ld_glob I hg hm ⟨rfl, ?_⟩ hd)
  have h1 := ha cpos pins s σ H _ I h
  rw [he] at h1 ⊢
  exact Calls.evalArgs_plain (thn h1 fun us s2 ⟨vs, H2, I2, r, z, hE⟩ => ⟨rfl, by rw [← r.length]; exact z, I2.bk _ _ hC, hN.keeps I2.bk, TL.keeps I2.bk, fun h' e hx => fl pins σ H2 s2 e C us h' I2 hx hE⟩)
end

/-! ### calls whose exception is wanted by the names' values -/
def tCallS (sp : Sp) (dvs : List V) (E : St → XK) (t : TA) : TE := fun σ H Q => t σ H fun vs H1 => sp (vs ++ dvs) H1 Q (E σ)
def tMethS (C : Addr) (m : Str) (sp : Sp) (dvs : List V) (E : St → XK) (ta : TE) (t : TA) : TE := fun σ H Q => ta σ H fun x H1 => ∃ a dx fs, x = .ref a ∧ H1 a = some (.ins C dx fs) ∧ fs.lookup m = none ∧
  t σ H1 fun vs H2 => sp (x :: (vs ++ dvs)) H2 Q (E σ)
section
variable {X : Cx} {CX : CXT} {k : Nat} {f C : Addr} {fd : FuncData} {ps : List Str} {sp : Sp} {dvs : List V} {ds : List Value} {E : St → XK} {x m : Str} {p pos apos : Pos} {e o : Expr} {es : List Expr} {ta : TE} {t : TA}
theorem run_fnS {pins : List (Addr × Obj)} {σ : St} {H : Hp} {s : Shared} {Q : VK} {us : List Value} {vs : List V} (F : FnOk X.prog X.w X.K X.mg X.base CX k f fd ps sp) (hr : Room k X.A) (hb : Binds X.K fd ps ds) (hd : Vals dvs ds) (hx : PassesS CX X E)
    (I : Inv X pins σ H s) (r : Vals vs us) (h : sp (vs ++ dvs) H Q (E σ)) : wpAny (model X.prog X.w) X.A (call (.ref f) us) (EP X pins σ Q) X.xe s := by
  have r2 : Vals (vs ++ dvs) (us ++ ds) := r.append hd
  have hl : (us ++ ds).length = ps.length := r2.length ▸ F.len _ _ _ _ h
  refine wpAny_call (codeAny_mono (F.run X.A X.stack s H ⟨us, []⟩ (us ++ ds) (vs ++ dvs) Q (E σ) hr I.env0 (hb s us I.kIn hl) r2 h) fun r s' hq => ?_)
  match r, hq with
  | .error e, hq => exact hx pins σ H s e s' I hq
  | .ok (.ret u), hq => exact I.after hq
theorem pe_callS (F : FnOk X.prog X.w X.K X.mg X.base CX k f fd ps sp) (hr : Room k X.A) (hg : Gl X x) (hm : X.mg x = some (.ref f)) (hk : PySem.W.keepIn X.K (.ref f) = true) (hb : Binds X.K fd ps ds) (hd : Vals dvs ds) (hx : PassesS CX X E)
    (ha : PA X (e :: es) t) (hdb : (x == ("__debug__" : Str)) = false := by decide) (he : starEach (e :: es) X.env = (false, eval e X.env) :: starEach es X.env := by rfl) (hpl : (backTo pos (starEach es X.env)).any (·.1) = false := by rfl) :
    PE X (.Call (.Name x p) (e :: es) [] pos) (tCallS sp dvs E t) := by
  intro pins s σ H Q I h
  refine wpAny_Call_Name_kw (ld_glob I hg hm ?_ hdb)
  exact PySem.W.callWith_K (h₀ := X.base) I.ok.mod.kin hk (thn (ha pos pins s σ H _ I h) fun us s1 ⟨vs, H1, I1, r, q⟩ => ⟨I1.kIn, run_fnS F hr hb hd hx I1 r q⟩) he hpl
theorem pe_methS {pl : Sem Bool} (he : PE X o ta) (c : Cls X.K C) (hm : Meth X.K C m f) (F : FnOk X.prog X.w X.K X.mg X.base CX k f fd ps sp) (hr : Room k X.A) (hb : Binds X.K fd ps ds) (hd : Vals dvs ds) (hx : PassesS CX X E) (ha : PA X (e :: es) t)
    (hst : starEach (e :: es) X.env = (false, eval e X.env) :: starEach es X.env := by rfl) (hpl : (backTo pos (starEach es X.env)).any (·.1) = false := by rfl)
    (ht : eval (.Call (.Attribute o m apos) (e :: es) [] pos) X.env = (do
      let ov ← eval o X.env
      standAt apos.atName
      let (f, first) ← holding [ov] (getMethod ov m pl)
      callWith pos f first (backTo pos (starEach (e :: es) X.env)) (backToKw pos (keywordEach [] X.env))) := by rfl) :
    PE X (.Call (.Attribute o m apos) (e :: es) [] pos) (tMethS C m sp dvs E ta t) := by
  intro pins s σ H Q I h
  refine PySem.W.methodCall_KW (pl := pl) (thn (he pins s σ H _ I h) fun u s1 ⟨x, H1, I1, rx, a, dx, fs, ex, ea, l, q⟩ => ?_) ht
  subst ex
  obtain rfl : u = Value.ref a := rx
  refine getmeth_ok I1 ea c hm l ?_
  exact PySem.W.callWith_K (first := [.ref a]) (h₀ := X.base) I.ok.mod.kin hm.kp (thn (ha pos pins s1 σ H1 _ I1 q) fun us s2 ⟨vs, H2, I2, r, q2⟩ => ⟨I2.kIn, run_fnS (us := .ref a :: us) (vs := .ref a :: vs) F hr hb hd hx I2 (.cons rfl r) q2⟩) hst hpl
end
end L2

namespace L2
open PySem PySem.Spec PyProof.Rows

/-! ### the same state, other pins, another wish, an exception at hand -/
section
variable {X : Cx} {pins pins' : List (Addr × Obj)} {σ : St} {H : Hp} {s : Shared} {E : Value → Shared → Prop}
end

/-! ### an exception lands in a frame -/
section
variable {X : Cx} {pins : List (Addr × Obj)} {σ : St} {H H' : Hp} {s s' : Shared} {a C : Addr} {a0 : Value} {B h' : Heap}
end

section
variable {X : Cx}
end
end L2

namespace L2
open PySem PySem.Spec PyProof.Rows PySem.W Builtin Builtin.ObjectAttr Builtin.Getset_descriptor

/-! ### isinstance of a caught exception -/
/-- what of the text an own exception class must have -/
structure ExcCls (K : Frag) (C : Addr) : Prop where
  exc : IsExc K C
  ga : findIn K (.ref C) "__getattribute__" = some (some (.builtin "BaseException.__getattribute__"))
  gt : findIn K (.ref C) "__getattr__" = some none
  cls : findIn K (.ref C) "__class__" = some (some (.builtin "object.__class__"))
  gs : specialIn K (.builtin "object.__class__") "__get__" = some (some (.builtin "getset_descriptor.__get__"))
  tk : takesIn K (.builtin "object.__class__") = some true
  obj : mroIn K C (.type "object") = some true
  bas : mroIn K C (.type "BaseException") = some true
  isc : (clsIn K C).isSome = true
section
variable {prog : Program} {w : World} {A : Around} {E : Value → Shared → Prop} {s : Shared} {K : Frag} {x C : Addr}
end
section
variable {X : Cx}
end
end L2
namespace L2
open PySem PySem.W
/-! ### isinstance's answers from the text's facts -/
theorem kit_same {K : Frag} {t : Value} : kitOne K t t = some true := by
  unfold kitOne
  rw [if_pos (by simp)]
theorem kit_ty {K : Frag} {t : Value} {T : String} {b : Bool} (ne : (t == .type T) = false) (m : kitMeta T = true) (s : subIn K t (.type T) = some b) : kitOne K t (.type T) = some b := by
  unfold kitOne kitCls
  rw [if_neg (by rw [ne]; decide)]
  show (if kitMeta T = true then subIn K t (.type T) else none) = some b
  rw [if_pos m, s]
end L2

namespace L2
open PySem PySem.Spec PyProof.Rows PySem.W

/-! ### products -/
theorem mulB {i j : Int} (h1 : Big i) (h2 : Big j) : IntMulOk i j := .of_le h1.bits h2.bits (by decide)
theorem op_mulA {X : Cx} : OpR X (binaryOp .Mult) (rI IntMulOk fun i j => .int (i * j)) := opI fun _ _ _ _ _ _ _ hc q => mul_int q hc
/-! ### {} -/
/-! ### the script's ints have at most 2 ^ 20 figures -/
theorem weight_mem : ∀ {ns : List Int} {x : Int}, x ∈ ns → WData.weight (.int x) ≤ WData.weightAll (ns.map WData.int)
  | y :: r, x, h => by
    show _ ≤ WData.weight (.int y) + 1 + WData.weightAll (r.map WData.int)
    rcases List.mem_cons.mp h with e | e
    · rw [e]; omega
    · have := weight_mem e
      omega
theorem bits_of_lay {ns : List Int} (h : WData.layableAll [WData.list (ns.map WData.int)] = true) : ∀ x ∈ ns, Builtin.Int.intBits x ≤ 2 ^ 20 := fun x hx => by
  have h1 : (WData.list (ns.map WData.int)).layable = true := List.all_eq_true.mp h _ (List.mem_singleton.mpr rfl)
  unfold WData.layable at h1
  rw [Bool.and_eq_true, Bool.and_eq_true] at h1
  have h2 : WData.weightAll (ns.map WData.int) ≤ 2 ^ 20 := of_decide_eq_true h1.2
  have h3 := Nat.le_trans (weight_mem hx) h2
  simpa only [WData.weight, Builtin.Int.intBits] using h3
theorem attach_bits {l : OpenLaw} {n : Nat} {q : Program} {loose : List Str} {XP : (Str → Option Value) → Heap → Prop} {YP : World → Heap → Prop} {d : DefRec} (hn : l.most = some n) (hdf : d.params.defaults = [])
    (call : ∀ (w : World) (s₀ s₁ : Shared) (mg mb : Str → Option Value) (fa a : Addr) (vs : List Value) (ns : List Int), Ground q loose [] XP w s₀ mg mb s₁.heap → YP w s₁.heap → mg d.name = some (.ref fa) →
      s₁.heap.get? a = some { cls := .type "list", data := .seq vs.toArray } → IntsAre vs ns → ns.length ≤ n → (∀ x ∈ ns, Builtin.Int.intBits x ≤ 2 ^ 20) → s₁.gens = #[] →
      codeAny (model l.prog w) callerA (.call (.ref fa) ⟨[.ref a], []⟩) (fun r s' => r = .ok (.ret (.bool true)) ∧ OldK s₁.heap s'.heap ∧ s'.os = s₁.os ∧ AllBare s'.gens) s₁) :
    WalkO q loose XP YP l.row.toRowW d [] (fun f vs => PySem.call f vs) := by
  intro w s₀ s₁ mg mb G Y fa o pm cd doc dV kV ho hd hcd hD hmg hg args vals as hpre hlay hrd hwl hlo
  obtain ⟨a, vs, ns, rfl, rfl, hobj, hints, hlen⟩ := Att.script_of hn hpre hwl
  refine enter_call (codeAny_mono (call w s₀ s₁ mg mb fa a vs ns G Y hmg hobj hints hlen (bits_of_lay hlay) hg) fun r s' hq => ?_)
  obtain ⟨rfl, h2, h3, h4⟩ := hq
  exact ⟨.inl ⟨.bool true, .bool true, [], rfl, fun _ => rfl, .bool true, Att.post_true l _, fun _ => ⟨List.Pairwise.nil, fun _ hm => (nomatch hm)⟩⟩, h2, h3, h4⟩
/-- walk_of with the figures of the script's ints -/
theorem walk_bits {l : PySem.W.OpenLaw} {n k : Nat} {q : Program} {loose : List Str} {XP : (Str → Option Value) → Heap → Prop} {YP : World → Heap → Prop} {d : DefRec} {K : Params → PySem.W.Frag} {CX : World → CXT} {sp : World → Sp} {x : Str}
    (hn : l.most = some n) (hn2 : n ≤ sizeLine) (hdf : d.params.defaults = []) (hr : Room k callerA) (hY : ∀ (w : World) (h : Heap), YP w h → (K w.params).In h)
    (F : ∀ (w : World) (mg : Str → Option Value) (fa : Addr) (h : Heap), (K w.params).In h → h.Ns mainGlobals mg → mg d.name = some (.ref fa) →
      ∃ fd : FuncData, (∀ (s : Shared) (u : Value), BindsTo s fd ⟨[u], []⟩ [(x, u)]) ∧ ∀ base : Heap, (K w.params).In base → base.Ns mainGlobals mg → FnOk l.prog w (K w.params) mg base (CX w) k fa fd [x] (sp w))
    (hsp : ∀ (w : World) (H : Hp) (a : Addr) (ns : List Int), ns.length ≤ n → (∀ x ∈ ns, Builtin.Int.intBits x ≤ 2 ^ 20) → Only H → SqL (K w.params) H a (ns.map V.int) → sp w [.ref a] H (fun v _ => v = .bl true) fun _ _ _ => False)
    (hCX : ∀ (w : World) (H : Hp) (s : Shared) (e : Value) (s' : Shared), CX w [] H s (fun _ _ _ => False) e s' → False) : PySem.W.WalkO q loose XP YP l.row.toRowW d [] (fun f vs => PySem.call f vs) := by
  refine attach_bits hn hdf fun w s₀ s₁ mg mb fa a vs ns G Y hmg hobj hints hlen hbits hg => ?_
  have KX := hY w _ Y
  obtain ⟨fd, hb, hF⟩ := F w mg fa _ KX G.T.g hmg
  exact law_call KX G.T.g G.T.b G.T.builtins G.T.nolimit hg hobj hints (Nat.le_trans hlen hn2) hr hF hb (fun H hO hS => hsp w H a ns hlen hbits hO hS) fun H e s' => hCX w H s₁ e s'
end L2

namespace L2
open PySem PySem.Spec PyProof.Rows PySem.W
theorem neF {x y : V} (h : x = y) : (!decide (x = y)) = false := by rw [decide_eq_true h]; rfl
theorem eqT {x y : V} (h : x = y) : decide (x = y) = true := decide_eq_true h
/-! ### items, one after another: each is no star -/
def notStar : Expr → Bool
  | .Starred _ _ => false
  | _ => true
theorem starEach_cons {e : Expr} {es : List Expr} {env : Env} (h : notStar e = true) : starEach (e :: es) env = (false, eval e env) :: starEach es env := by
  cases e <;> first | rfl | cases h
theorem pa_consN {X : Cx} {e : Expr} {es : List Expr} {te : TE} {t : TA} (ha : PE X e te) (hr : PA X es t) (h : notStar e = true := by rfl) : PA X (e :: es) (tCons te t) := pa_cons ha hr (starEach_cons h)
end L2

namespace Gh
open PySem L2
def G60 : Int := 1000000000000000000000000000000000000000000000000000000000000
theorem pow60 : (10 : Int) ^ (60 : Int).toNat = G60 := by decide
theorem bt_isinstance : bootBuiltins "isinstance" = some (.builtin "isinstance") := by rfl
theorem bt_len : bootBuiltins "len" = some (.builtin "len") := by rfl
theorem bt_bool : bootBuiltins "bool" = some (.type "bool") := by rfl
theorem bt_int : bootBuiltins "int" = some (.type "int") := by rfl
theorem bt_min : bootBuiltins "min" = some (.builtin "min") := by rfl
theorem big_of {i : Int} (h : -(G60 * G60 * G60) ≤ i ∧ i ≤ G60 * G60 * G60) : Big i := by
  have e : G60 * G60 * G60 < 2 ^ 2000 := by decide
  have e2 : (2 : Nat) ^ 2000 = ((2 : Int) ^ 2000).toNat := by decide
  unfold Big
  rw [e2]
  omega
theorem big_g {i : Int} (h : -G60 ≤ i ∧ i ≤ G60) : Big i := by
  have e : G60 ≤ G60 * G60 * G60 := by decide
  exact big_of ⟨by omega, by omega⟩
theorem cdivS {i j : Int} (h : 0 < j) (h2 : j ≤ G60) : CDivB i j := ⟨h, big_g ⟨by have : (0 : Int) ≤ G60 := by decide
                                                                                  omega, h2⟩⟩
theorem blT {Q : VK} {H : Hp} {c : Prop} [Decidable c] (h : c) (k : Q (.bl true) H) : Q (.bl (decide c)) H := by rw [decide_eq_true h]; exact k
theorem G60_pos : 0 < G60 := by decide
/-! ### what stays where nothing tracked is touched -/
theorem Same.fresh {H : Hp} {p : Addr} {o : HO} (h : H p = none) : Same H (upd H p o) := fun b u e => by rw [upd_ne (ne_of_none e h)]; exact e
theorem getD_ints (ns : List Int) (k : Nat) (h : k < ns.length) : (ns.map V.int)[k]? = some (.int (ns.getD k 0)) := by
  rw [List.getElem?_map, List.getElem?_eq_getElem h]
  simp [List.getD, h]
/-! ### comprehensions -/
theorem pow18 : (10 : Int) ^ (18 : Int).toNat = 1000000000000000000 := by decide
theorem bt_sorted : bootBuiltins "sorted" = some (.builtin "sorted") := by rfl
theorem bt_set : bootBuiltins "set" = some (.type "set") := by rfl
theorem pw_ok (j : Int) (h0 : 0 ≤ j) (h1 : j ≤ 1000000) : CPow 10 j := ⟨h0, h1, by decide⟩
end Gh

namespace Gh
open PySem L2
/-! ### a comprehension that reads names of its def -/
def clOf (cells : List (Str × Addr)) : List (Str × NameKind) → List (Str × Addr) → List (Str × Addr)
  | [], cs => cs
  | (y, k) :: r, cs => if (k == .free) = true then clOf cells r ((y, (cells.lookup y).getD 0) :: cs) else clOf cells r cs
theorem closure_loop {env : Env} : ∀ (ns : List (Str × NameKind)) (cs : List (Str × Addr)), (∀ y ∈ ns, y.2 = .free → ∃ c, env.cells.lookup y.1 = some c) →
    (forIn ns cs fun (x : Str × NameKind) (r : List (Str × Addr)) => if (x.2 == .free) = true then do let c ← cellOf env x.1; pure (ForInStep.yield ((x.1, c) :: r)) else pure (ForInStep.yield r) : Sem _) = pure (clOf env.cells ns cs)
  | [], cs, _ => rfl
  | (y, k) :: r, cs, h => by
    rw [List.forIn_cons]
    unfold clOf
    by_cases z : (k == .free) = true
    · obtain ⟨c, e⟩ := h (y, k) List.mem_cons_self (by simpa using z)
      have e' : cellOf env y = pure c := by unfold cellOf; rw [e]
      rw [if_pos z]
      simp only [z, if_true]
      rw [e', e]
      simp only [pure_bind]
      exact closure_loop r _ fun y hy => h y (List.mem_cons_of_mem _ hy)
    · rw [if_neg z]
      simp only [z, if_false, Bool.false_eq_true, pure_bind]
      exact closure_loop r _ fun y hy => h y (List.mem_cons_of_mem _ hy)
theorem closure_of {scope : Scope} {env : Env} (h : ∀ y ∈ scope.names, y.2 = .free → ∃ c, env.cells.lookup y.1 = some c) : closureFor scope env = pure (clOf env.cells scope.names []) := by
  rw [← closure_loop scope.names [] h]
  unfold closureFor
  simp only [bind_pure]
theorem clOf_mem {cells : List (Str × Addr)} {y : Str} {c : Addr} : ∀ {ns : List (Str × NameKind)} {cs : List (Str × Addr)}, (y, c) ∈ clOf cells ns cs → (y, c) ∈ cs ∨ ((y, NameKind.free) ∈ ns ∧ c = (cells.lookup y).getD 0)
  | [], cs, h => .inl h
  | (z, k) :: r, cs, h => by
    unfold clOf at h
    split at h
    · next hk =>
      rcases clOf_mem h with h | h
      · rcases List.mem_cons.mp h with h | h
        · cases h
          have : k = .free := by simpa using hk
          subst this
          exact .inr ⟨List.mem_cons_self, rfl⟩
        · exact .inl h
      · exact .inr ⟨List.mem_cons_of_mem _ h.1, h.2⟩
    · rcases clOf_mem h with h | h
      · exact .inl h
      · exact .inr ⟨List.mem_cons_of_mem _ h.1, h.2⟩
theorem clOf_has {cells : List (Str × Addr)} {y : Str} : ∀ {ns : List (Str × NameKind)} {cs : List (Str × Addr)}, ((y, NameKind.free) ∈ ns ∨ ∃ c, (y, c) ∈ cs) → ∃ c, (y, c) ∈ clOf cells ns cs
  | [], cs, h => by
    rcases h with h | h
    · cases h
    · exact h
  | (z, k) :: r, cs, h => by
    unfold clOf
    split
    · next hk =>
      refine clOf_has ?_
      rcases h with h | ⟨c, h⟩
      · rcases List.mem_cons.mp h with h | h
        · cases h
          exact .inr ⟨_, List.mem_cons_self⟩
        · exact .inl h
      · exact .inr ⟨c, List.mem_cons_of_mem _ h⟩
    · next hk =>
      refine clOf_has ?_
      rcases h with h | h
      · rcases List.mem_cons.mp h with h | h
        · cases h
          exact absurd rfl hk
        · exact .inl h
      · exact .inr h
theorem look_some {α : Type} {y : Str} : ∀ {l : List (Str × α)} {c : α}, (y, c) ∈ l → ∃ d, l.lookup y = some d
  | (z, d) :: r, c, h => by
    by_cases e : (y == z) = true
    · exact ⟨d, by rw [List.lookup_cons, e]⟩
    · have e : (y == z) = false := by simpa using e
      rcases List.mem_cons.mp h with h | h
      · cases h; simp at e
      · obtain ⟨d', q⟩ := look_some h
        exact ⟨d', by rw [List.lookup_cons, e]; exact q⟩
theorem clOf_look {cells : List (Str × Addr)} {ns : List (Str × NameKind)} {y : Str} (h : (y, NameKind.free) ∈ ns) (hc : ∃ c, cells.lookup y = some c) : (clOf cells ns []).lookup y = cells.lookup y := by
  obtain ⟨c, hc⟩ := hc
  obtain ⟨d, hd⟩ := clOf_has (cells := cells) (cs := []) (.inl h)
  obtain ⟨e, he⟩ := look_some hd
  rcases clOf_mem (PySem.mem_of_lookup he) with z | z
  · cases z
  · rw [he, z.2, hc]; rfl
theorem relabel_look {scope : Scope} {env : Env} {y : Str} : (relabel scope env).names.lookup y = match scope.names.lookup y with
    | none => none
    | some k => some (if (k == NameKind.free && env.scope.kind == .function && env.kindOf y == some .cell) = true then NameKind.cell else k) := by
  unfold relabel
  show (scope.names.map _).lookup y = _
  induction scope.names with
  | nil => rfl
  | cons p r ih =>
    obtain ⟨z, k⟩ := p
    rw [List.map_cons]
    by_cases e : (y == z) = true
    · have e' : y = z := by simpa using e
      subst e'
      have s1 : ((y, k) :: r).lookup y = some k := by rw [List.lookup_cons]; simp
      rw [s1]
      dsimp only
      split
      · next hk => rw [List.lookup_cons]; simp
      · next hk => rw [List.lookup_cons]; simp
    · have e : (y == z) = false := by simpa using e
      have s1 : ((z, k) :: r).lookup y = r.lookup y := by rw [List.lookup_cons, e]
      rw [s1, ← ih, List.lookup_cons]
      have : (y == (if (k == NameKind.free && env.scope.kind == .function && env.kindOf z == some .cell) = true then (z, NameKind.cell) else (z, k)).1) = false := by
        split <;> exact e
      rw [this]
def compChk (ns names : List (Str × NameKind)) (N : List Str) (x : Str) : Bool :=
  ns.all (fun y => (y.2 == .local && ns.lookup y.1 == some .local) || (y.2 == .free && ns.lookup y.1 == some .free && names.lookup y.1 == some .cell) || (y.2 == .globalImplicit && ns.lookup y.1 == some .globalImplicit)) && ns.lookup x == some .local && decide (x :: N).Nodup && N.all (fun y => !(ns.lookup y == some .local))
theorem compCells {X : Cx} {scope : Scope} {x : Str} {N : List Str} {names : List (Str × NameKind)} {n : Nat} (hX : X.N = N) (hs : X.env.scope.names = names) (hc : X.env.cells = cellsFrom n names []) (hk : scope.kind = .function) (hn : compChk scope.names names N x = true) :
    CompOk X scope (clOf (cellsFrom n names []) scope.names []) x := by
  unfold compChk at hn
  simp only [Bool.and_eq_true, Bool.or_eq_true, List.all_eq_true, beq_iff_eq, decide_eq_true_eq, Bool.not_eq_true'] at hn
  obtain ⟨⟨⟨h1, h2⟩, h3⟩, h4⟩ := hn
  subst hX hs
  have hcell : ∀ y ∈ scope.names, y.2 = .free → ∃ c, X.env.cells.lookup y.1 = some c := fun y hy z => by
    rcases h1 y hy with (h | h) | h
    · rw [h.1] at z; cases z
    · rw [hc]
      have q := PySem.W.cellsFrom_some (x := y.1) X.env.scope.names n [] (.inl h.2)
      cases e : (cellsFrom n X.env.scope.names []).lookup y.1 with
      | none => rw [e] at q; cases q
      | some c => exact ⟨c, rfl⟩
    · rw [h.1] at z; cases z
  have lk : ∀ y k, scope.names.lookup y = some k → k = .local ∨ (k = .free ∧ X.env.scope.names.lookup y = some .cell ∧ (y, NameKind.free) ∈ scope.names) ∨ k = .globalImplicit := fun y k e => by
    have m := PySem.mem_of_lookup e
    rcases h1 _ m with (h | h) | h
    · exact .inl h.1
    · have hk : k = .free := h.1.1
      subst hk
      exact .inr (.inl ⟨rfl, h.2, m⟩)
    · exact .inr (.inr h.1)
  have lkr : ∀ y k, (relabel scope X.env).names.lookup y = some k → (scope.names.lookup y = some .local ∧ k = .local) ∨ (scope.names.lookup y = some .free ∧ X.env.scope.names.lookup y = some .cell ∧ (y, NameKind.free) ∈ scope.names ∧ (k = .cell ∨ k = .free)) ∨ k = .globalImplicit := fun y k e => by
    rw [relabel_look] at e
    cases z : scope.names.lookup y with
    | none => rw [z] at e; cases e
    | some k' =>
      rw [z] at e
      have e := Option.some.inj e
      rcases lk y k' z with q | ⟨q, q2, q3⟩ | q
      · subst q
        exact .inl ⟨rfl, by rw [← e]; rfl⟩
      · subst q
        refine .inr (.inl ⟨rfl, q2, q3, ?_⟩)
        rw [← e]
        split
        · exact .inl rfl
        · exact .inr rfl
      · subst q
        exact .inr (.inr (by rw [← e]; rfl))
  refine ⟨hc ▸ closure_of hcell, fun y hy z => ?_, hk, fun y hy z => ?_, h2, h3, fun y c e => ?_, fun y hy v => ?_, fun y h => ?_, fun y hy v => ?_⟩
  · rcases h1 y hy with (h | h) | h
    · rw [h.1] at z; cases z
    · rw [h.1.1] at z; cases z
    · rw [h.1] at z; cases z
  · rcases h1 y hy with (h | h) | h
    · exact h.2
    · rw [h.1.1] at z; cases z
    · rw [h.1] at z; cases z
  · rcases clOf_mem (PySem.mem_of_lookup e) with z | z
    · cases z
    · obtain ⟨c', hc'⟩ := hcell _ z.1 rfl
      rw [hc'] ; rw [z.2, ← hc, hc']; rfl
  · have nl := h4 y hy
    have : ∃ k, (relabel scope X.env).names.lookup y = some k ∧ k ≠ .globalImplicit := by rcases v with v | v | v <;> exact ⟨_, v, by decide⟩
    obtain ⟨k, e, ng⟩ := this
    rcases lkr y k e with ⟨q, _⟩ | ⟨q, q2, q3, q4⟩ | q
    · rw [q] at nl; simp at nl
    · refine ⟨fun z => ?_, ?_, ?_⟩
      · have z : X.env.scope.names.lookup y = some .local := z
        rw [q2] at z; cases z
      · rcases q4 with q4 | q4
        · exact .inl (q4 ▸ e)
        · exact .inr (q4 ▸ e)
      · rw [hc]
        refine clOf_look q3 ?_
        rw [← hc]
        exact hcell _ q3 rfl
    · exact absurd q ng
  · have : ∃ k, (relabel scope X.env).names.lookup y = some k ∧ k ≠ .local ∧ k ≠ .globalImplicit := by
      rcases h with h | h
      · exact ⟨_, h, by decide, by decide⟩
      · exact ⟨_, h, by decide, by decide⟩
    obtain ⟨k, e, ne, ng⟩ := this
    rcases lkr y k e with ⟨_, q⟩ | ⟨q, q2, q3, q4⟩ | q
    · exact absurd q ne
    · obtain ⟨c, hc'⟩ := hcell _ q3 rfl
      refine ⟨c, ?_⟩
      rw [clOf_look q3 (by rw [← hc]; exact ⟨c, hc'⟩), ← hc, hc']
    · exact absurd q ng
  · have nl := h4 y hy
    have : ∃ k, (relabel scope X.env).names.lookup y = some k ∧ k ≠ .globalImplicit := by rcases v with v | v | v <;> exact ⟨_, v, by decide⟩
    obtain ⟨k, e, ng⟩ := this
    rcases lkr y k e with ⟨q, _⟩ | ⟨q, q2, q3, q4⟩ | q
    · rw [q] at nl; simp at nl
    · exact .inr (.inl q2)
    · exact absurd q ng
end Gh

namespace L2
open PySem PySem.Spec PyProof.Rows PySem.W
/-! ### sum of a list of ints -/
/-! ### f"..": texts and ints, joined -/
def tFmt (te : TE) : TE := fun σ H Q => te σ H fun v H1 => (∃ x : Str, v = .str x ∧ x.length ≤ sizeLine ∧ Q (.str x) H1) ∨ (∃ i : Int, v = .int i ∧ i.natAbs.log2 < 1920 ∧ Q (.str (toString i)) H1)
theorem pe_fmt {X : Cx} {e : Expr} {te : TE} {pos : Pos} (he : PE X e te) : PE X (.FormattedValue e (-1) none pos) (tFmt te) := by
  intro pins s σ H Q I h
  refine PyProof.Rows.FormattedValue_plain (wpAny_mono (he pins s σ H _ I h) (fun u s1 ⟨v, H1, I1, r, q⟩ => ?_) fun _ _ z => z)
  rcases q with ⟨x, rfl, hz, q⟩ | ⟨i, rfl, hz, q⟩
  · obtain ⟨t, rfl⟩ := r
    exact PyProof.Rows.formatField_str (fun t' tk => ⟨.str x, H1, I1.tok _, ⟨_, rfl⟩, q⟩) hz
  · obtain ⟨t, rfl⟩ := r
    exact PyProof.Rows.formatField_int_small hz ⟨.str _, H1, I1.tok _, ⟨_, rfl⟩, q⟩
def TJ := St → Hp → Str → (Str → Hp → Prop) → Prop
def PJ (X : Cx) (es : List Expr) (t : TJ) : Prop := ∀ (pins : List (Addr × Obj)) (s : Shared) (σ : St) (H : Hp) (acc : Str) (Q : Str → Hp → Prop), Inv X pins σ H s → t σ H acc Q →
  Joins (model X.prog X.w) X.A X.xe (evalEach es X.env) acc (fun out s1 => ∃ H1, Inv X pins σ H1 s1 ∧ Q out H1) s
def tJnil : TJ := fun _ H acc Q => Q acc H
def tJcons (te : TE) (t : TJ) : TJ := fun σ H acc Q => te σ H fun v H1 => ∃ y : Str, v = .str y ∧ (acc ++ y).length ≤ sizeLine ∧ t σ H1 (acc ++ y) Q
theorem pj_nil {X : Cx} : PJ X [] tJnil := fun pins s σ H acc Q I h => ⟨H, I, h⟩
theorem pj_cons {X : Cx} {e : Expr} {es : List Expr} {te : TE} {t : TJ} (he : PE X e te) (hr : PJ X es t) : PJ X (e :: es) (tJcons te t) := by
  intro pins s σ H acc Q I h
  show wpAny _ _ (eval e X.env) _ _ s
  refine wpAny_mono (he pins s σ H _ I h) (fun u s1 ⟨v, H1, I1, r, y, e, hz, q⟩ => ?_) fun _ _ z => z
  subst e
  obtain ⟨t, rfl⟩ := r
  exact ⟨y, t, rfl, hz, hr pins s1 σ H1 _ Q I1 q⟩
def tJoin (t : TJ) : TE := fun σ H Q => t σ H Str.empty fun out H1 => out.length ≤ sizeLine ∧ Q (.str out) H1
theorem pe_join {X : Cx} {v₁ v₂ : Expr} {rest : List Expr} {t : TJ} {pos : Pos} (h : PJ X (v₁ :: v₂ :: rest) t) : PE X (.JoinedStr (v₁ :: v₂ :: rest) pos) (tJoin t) := by
  intro pins s σ H Q I hw
  refine wpAny_JoinedStr ?_
  have z := h pins s σ H _ _ I hw
  have mono : ∀ (ps : List (Sem Value)) (acc : Str) (s : Shared) (Q1 Q2 : Str → Shared → Prop), (∀ o s, Q1 o s → Q2 o s) → Joins (model X.prog X.w) X.A X.xe ps acc Q1 s → Joins (model X.prog X.w) X.A X.xe ps acc Q2 s := by
    intro ps
    induction ps with
    | nil => intro acc s Q1 Q2 hm h; exact hm _ _ h
    | cons p r ih =>
      intro acc s Q1 Q2 hm h
      refine wpAny_mono h (fun v s1 ⟨y, t, e, hz, k⟩ => ⟨y, t, e, hz, ih _ _ _ _ hm k⟩) fun _ _ z => z
  refine mono _ _ _ _ _ (fun out s1 ⟨H1, I1, hz, q⟩ => ⟨hz, .str out, H1, I1.tok _, ⟨_, rfl⟩, q⟩) z
end L2

namespace Gh
open PySem L2
theorem big6 {i : Int} (h : -(G60 * G60 * G60 * (G60 * G60 * G60)) ≤ i ∧ i ≤ G60 * G60 * G60 * (G60 * G60 * G60)) : Big i := by
  have e : G60 * G60 * G60 * (G60 * G60 * G60) < 2 ^ 2000 := by decide
  have e2 : (2 : Nat) ^ 2000 = ((2 : Int) ^ 2000).toNat := by decide
  unfold Big
  rw [e2]
  omega
theorem div_abs {x n B : Int} (hn : 1 ≤ n) (h1 : -B ≤ x) (h2 : x ≤ B) : -B ≤ x / n ∧ x / n ≤ B := by
  have d := Int.mul_ediv_add_emod x n
  have r0 := Int.emod_nonneg x (by omega : n ≠ 0)
  have r1 := Int.emod_lt_of_pos x (by omega : 0 < n)
  generalize x / n = q at *
  generalize x % n = r at *
  constructor
  · by_cases z : -B ≤ q
    · exact z
    · exfalso
      have e3 : n * (q + 1) ≤ 1 * (q + 1) := Int.mul_le_mul_of_nonpos_right hn (by omega)
      rw [Int.mul_add] at e3
      omega
  · by_cases z : q ≤ B
    · exact z
    · exfalso
      have e3 : 1 * q ≤ n * q := Int.mul_le_mul_of_nonneg_right hn (by omega)
      omega
theorem cut_ints (ns : List Int) (a b : Int) (ha : 0 ≤ a) (hb : a ≤ b) : ∃ cs : List Int, cutV (ns.map V.int) (some a) (some b) = cs.map V.int ∧ cs.length ≤ (b - a).toNat ∧ (∀ x ∈ cs, x ∈ ns) := by
  obtain ⟨x, rfl⟩ := Int.eq_ofNat_of_zero_le ha
  obtain ⟨y, rfl⟩ := Int.eq_ofNat_of_zero_le (by omega : 0 ≤ b)
  unfold cutV
  rw [HT.sIx_nat, HT.sIx_nat, ← List.map_drop, ← List.map_take]
  refine ⟨_, rfl, ?_, fun x hx => List.mem_of_mem_drop (List.mem_of_mem_take hx)⟩
  rw [List.length_take]
  omega
end Gh

namespace Gh
open PySem L2
theorem fits_log {i : Int} (h : -(G60 * G60 * G60) ≤ i ∧ i ≤ G60 * G60 * G60) : i.natAbs.log2 < 1920 := by
  by_cases z : i.natAbs = 0
  · rw [z]; decide
  · refine (Nat.log2_lt z).mpr ?_
    have e : G60 * G60 * G60 < 2 ^ 1000 := by decide
    have e2 : (2 : Nat) ^ 1000 = ((2 : Int) ^ 1000).toNat := by decide
    have e3 : (2 : Nat) ^ 1000 ≤ 2 ^ 1920 := Nat.pow_le_pow_right (by decide) (by decide)
    omega
theorem text_len {i : Int} (h : i.natAbs.log2 < 1920) : (Str.ofString (toString i)).length ≤ 1921 := by
  have e := int_text_length_le (k := 1920) (by decide) h
  rw [ofString_length]; omega
theorem str_fits {x : Str} {n : Nat} (h : x.length ≤ n) (hn : n ≤ 100000) : x.length ≤ sizeLine := by rw [sizeLine_eq]; omega
theorem app_len {x y : Str} {n m : Nat} (h1 : x.length ≤ n) (h2 : y.length ≤ m) : (x ++ y).length ≤ n + m := by rw [strLen_append]; omega
end Gh

namespace L2
open PySem PySem.Spec PyProof.Rows PySem.W
theorem PS.nox {X : Cx} {st : Stmt} {t : TS} (h : PS X.nox st t) : PS X st t := fun pins s σ H D I hw =>
  wpAny_mono (h pins s σ H D (I.wish _) hw) (fun _ _ q => q.unwish) fun _ _ z => False.elim z
/-! ### C(e, .., k = v) -/
section
variable {X : Cx} {CX : CXT} {k : Nat} {f C : Addr} {fd : FuncData} {ps ks : List Str} {sp : Sp} {E : XK} {x : Str} {p pos : Pos} {e : Expr} {es : List Expr} {kws : List Keyword} {t tk : TA} {g : List Value → List Value → List Value} {gV : List V → List V → List V}
end
end L2

namespace L2
open PySem PySem.Spec PyProof.Rows PySem.W
section
variable {X : Cx}
end
end L2

namespace L2
open PySem PySem.Spec PyProof.Rows PySem.W
/-! ### a, b, c = a list -/
section
variable {prog : Program} {w : World} {A : Around} {E : Value → Shared → Prop} {s : Shared}
theorem draw_list {it t : Addr} {items : Array Value} (hne : t ≠ it) : ∀ (n i : Nat) (s : Shared) (Q : List Value → Shared → Prop), s.heap.IsListIter it t i → s.heap.IsList t items → i + n ≤ items.size →
    (∀ h', h'.IsListIter it t (i + n) → Heap.SameBut it s.heap h' → Q ((items.toList.drop i).take n) { s with heap := h' }) → wpAny (model prog w) A (draw (.ref it) n) Q E s
  | 0, i, s, Q, hit, _, _, hQ => by
    show wpAny _ _ (pure []) Q E s
    exact wpAny_pure (by simpa using hQ s.heap hit (Heap.SameBut.refl ..))
  | n + 1, i, s, Q, hit, ht, hle, hQ => by
    have hlt : i < items.size := by omega
    show wpAny _ _ (pyNext (.ref it) >>= _) Q E s
    refine wpAny_bind (wpAny_pyNext_list_item hit ht (x := items[i]) (by simp [hlt]) fun h₁ hit₁ hs₁ => ?_)
    have ht₁ : h₁.IsList t items := by
      obtain ⟨o, e, c⟩ := ht
      exact ⟨o, (hs₁.2 t hne).trans e, c⟩
    refine wpAny_bind (wpAny_holding (draw_list hne n (i + 1) _ _ hit₁ ht₁ (by omega) fun h₂ hit₂ hs₂ => wpAny_pure ?_))
    have hd : items.toList.drop i = items[i] :: items.toList.drop (i + 1) := by simp [List.drop_eq_getElem_cons, hlt]
    have := hQ h₂ (by rw [show i + (n + 1) = i + 1 + n by omega]; exact hit₂) (hs₁.trans hs₂)
    rw [hd, List.take_succ_cons] at this
    exact this
theorem unpackItems_list {t : Addr} {items : Array Value} {Q : List Value → Shared → Prop} (hh : A.handled = none) (ht : s.heap.IsList t items)
    (hQ : ∀ h', Heap.ExtBut s.heap.objs.size s.heap h' → Q items.toList { s with heap := h' }) : wpAny (model prog w) A (unpackItems (.ref t) items.size none) Q E s := by
  have hlt : t ≠ s.heap.objs.size := by obtain ⟨o, ho, _⟩ := ht; exact Nat.ne_of_lt (Heap.lt_size ho)
  unfold unpackItems
  refine wpAny_bind ?_
  unfold notIterableAtAll
  refine wpAny_bind (wpAny_specialOf ht.typeIs F.slot_list_iter.lookup ?_)
  refine wpAny_pure ?_
  simp only [Bool.false_eq_true, if_false]
  refine wpAny_bind (wpAny_holding (wpAny_pyIter_list ht ?_))
  have htp : (s.heap.push { cls := .type "list_iterator", data := .fields #[.ref t, rawInt 0] }).IsList t items := by
    obtain ⟨o, e, c⟩ := ht
    exact ⟨o, Heap.get?_push_of_some _ e, c⟩
  refine wpAny_bind (wpAny_holding (draw_list hlt items.size 0 _ _ ⟨_, Heap.get?_push_size _ rfl, rfl, rfl⟩ htp (by omega) fun h₁ hit₁ hs₁ => ?_))
  have hall : List.take items.size (List.drop 0 items.toList) = items.toList := by
    rw [List.drop_zero]; exact List.take_of_length_le (by simp)
  rw [hall]
  rw [if_neg (by simp)]
  have ht₁ : h₁.IsList t items := by
    obtain ⟨o, e, c⟩ := htp
    exact ⟨o, (hs₁.2 t hlt).trans e, c⟩
  refine wpAny_bind (wpAny_holding (wpAny_pyNext_list_end hh hit₁ ht₁ (by simp) fun h₂ he₂ => ?_))
  simp only [Option.isSome_none, Bool.false_eq_true, if_false]
  refine wpAny_pure (hQ h₂ fun b o hb e => he₂ b o hb ((hs₁.2 b hb).trans (Heap.get?_push_of_some _ e)))
end
section
variable {X : Cx}
def gTupL (K : PySem.W.Frag) (n : Nat) (t : TGs) : TG := fun v σ H Q => ∃ a xs, v = .ref a ∧ SqL K H a xs ∧ xs.length = n ∧ t xs σ H Q
theorem pg_tupL {pos : Pos} {es : List Expr} {k : Nat} {t : TGs} {n : Nat} (hc : X.calm = true) (h : PGs X es t)
    (hn : (assignEach es X.env).length = n := by rfl) (hst : (assignEach es X.env).findIdx? (·.1) = none := by rfl) : PG X (.Tuple es k pos) (gTupL X.K n t) := by
  intro pins s σ H v u Q I r hw
  obtain ⟨a, xs, e1, hq, hl, hw⟩ := hw
  subst e1
  cases r
  obtain ⟨its, rv, ht, hz⟩ := I.list hq
  rw [assign_Tuple]
  refine wpAny_bind (wpAny_standAt ?_)
  unfold unpack
  have hsz : (assignEach es X.env).length = its.toArray.size := by simp [hn, ← hl, rv.length]
  rw [hsz, hst]
  refine wpAny_bind (wpAny_holding (unpackItems_list (I.ok.hd hc) ht.isList fun h' hx => ?_))
  have I1 : Inv X pins σ H { s with heap := h' } := I.kept (t' := s.toks) fun b o e => hx b o (Nat.ne_of_lt (Heap.lt_size e)) e
  exact h pins _ σ H xs _ Q I1 (by simpa using rv) hw
end
/-! ### lists, one beside the other -/
/-- the same figure: a number, a truth, None, or two tuples of the same numbers -/
def EqI (K : PySem.W.Frag) (H : Hp) (v w : V) : Prop := (v = w ∧ ((∃ i, v = .int i) ∨ (∃ b, v = .bl b) ∨ v = .non ∨ ∃ a, v = .ref a)) ∨ ∃ (a b : Addr) (ns : List Int), v = .ref a ∧ w = .ref b ∧ SqT K H a (ns.map V.int) ∧ SqT K H b (ns.map V.int)
theorem eqAt_int {A : Around} {s : Shared} {i : Int} {u w : Value} (r1 : RelV (.int i) u) (r2 : RelV (.int i) w) : SeqAt.EqAt A s u w true := by
  obtain ⟨t, rfl⟩ := r1
  obtain ⟨t', rfl⟩ := r2
  have h := (MeetsSeq.EqGives.int i i t t').at A s
  rw [show (i == i) = true by simp] at h
  exact h
theorem eqAt_items {X : Cx} {pins : List (Addr × Obj)} {σ : St} {H : Hp} {s : Shared} {A : Around} {v w : V} {u u' : Value} (I : Inv X pins σ H s) (hu : A.units < cLine) (r1 : RelV v u) (r2 : RelV w u') (h : EqI X.K H v w) : SeqAt.EqAt A s u u' true := by
  rcases h with ⟨rfl, h⟩ | ⟨a, b, ns, rfl, rfl, h1, h2⟩
  · rcases h with ⟨i, rfl⟩ | ⟨k, rfl⟩ | rfl | ⟨a, rfl⟩
    · exact eqAt_int r1 r2
    · cases r1; cases r2; exact SeqAt.EqAt.same _
    · cases r1; cases r2; exact SeqAt.EqAt.same _
    · cases r1; cases r2; exact SeqAt.EqAt.same _
  · cases r1; cases r2
    by_cases e : a = b
    · subst e; exact SeqAt.EqAt.same _
    · refine SeqAt.EqAt.of_refs e ?_
      obtain ⟨i1, v1, t1, z1⟩ := I.tuple h1
      obtain ⟨i2, v2, t2, z2⟩ := I.tuple h2
      have l1 := v1.length
      have l2 := v2.length
      rw [List.length_map] at l1 l2
      have := SeqAt.RcAt.tuples (A := A) (s := s) (items := i1.toArray) (items2 := i2.toArray) (e := fun _ => true) t1 t2 hu (fun j h1 h2 => by
        have g1 : j < ns.length := by simpa [← l1] using h1
        have e1 : (ns.map V.int)[j]? = some (.int ns[j]) := by simp [g1]
        obtain ⟨u1, hu1, ru1⟩ := v1.get e1
        obtain ⟨u2, hu2, ru2⟩ := v2.get e1
        have q1 : i1.toArray[j] = u1 := by
          have := List.getElem?_eq_some_iff.mp hu1
          obtain ⟨_, q⟩ := this
          simpa using q
        have q2 : i2.toArray[j] = u2 := by
          have := List.getElem?_eq_some_iff.mp hu2
          obtain ⟨_, q⟩ := this
          simpa using q
        rw [q1, q2]
        exact eqAt_int ru1 ru2)
      have e2 : (((List.range (min i1.toArray.size i2.toArray.size)).all fun _ => true) && i1.toArray.size == i2.toArray.size) = true := by
        have : i1.length = i2.length := by omega
        simp [this]
      rw [e2] at this
      exact this
def SameL (K : PySem.W.Frag) (H : Hp) (xs ys : List V) : Prop := xs.length = ys.length ∧ ∀ (j : Nat) v w, xs[j]? = some v → ys[j]? = some w → EqI K H v w
def rEqL (K : PySem.W.Frag) : R2 := fun x y H Q => ∃ p q xs ys, x = .ref p ∧ y = .ref q ∧ SqL K H p xs ∧ SqL K H q ys ∧ ((SameL K H xs ys ∧ Q (.bl true) H) ∨ (xs.length ≠ ys.length ∧ Q (.bl false) H))
theorem same_items {X : Cx} {pins : List (Addr × Obj)} {σ : St} {H : Hp} {s : Shared} {A : Around} {xs ys : List V} {i1 i2 : List Value} (I : Inv X pins σ H s) (hu : A.units < cLine) (v1 : Vals xs i1) (v2 : Vals ys i2) (h : SameL X.K H xs ys) :
    ∀ j (h1 : j < i1.toArray.size) (h2 : j < i2.toArray.size), SeqAt.EqAt A s i1.toArray[j] i2.toArray[j] true := fun j h1 h2 => by
  have l1 := v1.length
  have l2 := v2.length
  have g1 : j < xs.length := by simpa [← l1] using h1
  have g2 : j < ys.length := by simpa [← l2] using h2
  have e1 : xs[j]? = some xs[j] := by simp [g1]
  have e2 : ys[j]? = some ys[j] := by simp [g2]
  obtain ⟨u1, hu1, ru1⟩ := v1.get e1
  obtain ⟨u2, hu2, ru2⟩ := v2.get e2
  have q1 : i1.toArray[j] = u1 := by
    obtain ⟨_, q⟩ := List.getElem?_eq_some_iff.mp hu1
    simpa using q
  have q2 : i2.toArray[j] = u2 := by
    obtain ⟨_, q⟩ := List.getElem?_eq_some_iff.mp hu2
    simpa using q
  rw [q1, q2]
  exact eqAt_items I hu ru1 ru2 (h.2 j _ _ e1 e2)
theorem op_eqL {X : Cx} (hu : X.A.units + 1 < cLine) : OpR X (compareOp .Eq) (rEqL X.K) := by
  intro pins s σ H x y v u Q I rx ry h
  obtain ⟨p, q, xs, ys, rfl, rfl, h1, h2, h⟩ := h
  cases rx; cases ry
  obtain ⟨i1, v1, p1, z1⟩ := I.list h1
  obtain ⟨i2, v2, p2, z2⟩ := I.list h2
  have l1 := v1.length
  have l2 := v2.length
  rcases h with ⟨hs, k⟩ | ⟨hs, k⟩
  · refine SeqAt.eq_listAt (e := fun _ => true) p1.isList p2.isList (by have := hs.1; simp; omega) (by omega) (same_items I (show X.A.in1.units < cLine by show X.A.units + 1 < cLine; exact hu) v1 v2 hs) ?_
    rw [show ((List.range i1.toArray.size).all fun _ => true) = true by simp]
    exact ⟨.bl true, H, I, rfl, k⟩
  · exact SeqAt.eq_list_lengthsAt p1.isList p2.isList (by simp; omega) (by omega) ⟨.bl false, H, I, rfl, k⟩
end L2

namespace Gh
open PySem L2
end Gh

namespace Gh
open PySem L2
end Gh

namespace L2
open PySem PySem.Spec PyProof.Rows
section
variable {X : Cx} {scope : Scope} {cl : List (Str × Addr)} {x : Str}
end
end L2

namespace L2
open PySem PySem.Spec PyProof.Rows
/-! ### for over what may be refused: nothing is raised in the loop itself -/
section
variable {X : Cx}
theorem ps_forX {tg : Expr} {iter : Expr} {body : List Stmt} {wi : TI} {g : TG} {tb : TS} {pos : Pos} (hc : X.calm = true) (hi : PI X tg iter wi) (hg : PG X.nox tg g) (hb : PSs X.nox body tb)
    (hs : ∀ x, foldedSetIterable iter X.env x = pure x := by intro _; rfl) : PS X (.For tg iter body [] pos) (tFor wi g tb) := by
  intro pins s σ H D I h
  refine wpAny_For (thn (hi pins s σ H _ I h) fun v s1 h1 => thn h1 fun itv s2 h2 => ?_) hs
  obtain ⟨it, fp, tn, J, H2, e, I2, T, st2, f2, W, ⟨m0, w0⟩, turn⟩ := h2
  subst e
  -- what stays true of the iterator's objects through the loop
  have stat : ∀ {H' : Hp}, (∀ b ∈ fp, H' b = none) → ∀ b ∈ fp, FpOk X.nox pins H' b := fun hn b hb => ⟨hn b hb, (f2 b hb).2⟩
  refine codeAny_forLoop_any (fun n s' => ∃ i σ' H', Inv X.nox pins σ' H' s' ∧ tn i s'.heap ∧ (∀ b ∈ fp, H' b = none) ∧ W i n σ' H') ?_ m0 ⟨0, σ, H2, I2.wish _, st2, fun b hb => (f2 b hb).1, w0⟩
  rintro n s3 ⟨i, σ3, H3, I3, st3, fr3, w3⟩
  rcases turn i n σ3 H3 w3 with ⟨stop, qn⟩ | ⟨go, N, hN, step⟩
  · refine wpAny_mono (T.done X.nox rfl rfl rfl hc i pins s3 σ3 H3 (fun _ _ => False) I3 (stat fr3) st3 stop) (fun r s4 ⟨hr, I4⟩ => ?_) fun _ _ z => z.elim
    subst hr
    exact wpAny_execs_nil ⟨σ3, H3, I4.unwish, qn⟩
  · refine wpAny_mono (T.item X.nox rfl rfl rfl hc i pins s3 σ3 H3 (fun _ _ => False) I3 (stat fr3) st3 go) (fun r s4 ⟨u, hr, h4⟩ => ?_) fun _ _ z => z.elim
    subst hr
    refine wpAny_mono h4 (fun _ s5 ⟨x, H5, I5, r5, y5, st5, fr5⟩ => ?_) fun _ _ z => z.elim
    have I5' := I5.pinned (stat fr5) (T.obj _ _ st5)
    refine wpAny_mono (hg _ s5 σ3 H5 x u _ I5' r5 (step x H5 y5)) (fun _ s6 ⟨σ6, H6, I6, q6⟩ => ?_) fun _ _ z => z.elim
    refine wpAny_mono (hb _ s6 σ6 H6 _ I6 q6) (fun f s7 q7 => ?_) fun _ _ z => z.elim
    have again : ∀ {σ7 : St} {H7 : Hp}, Inv X.nox (pins ++ pinsAt fp s5.heap) σ7 H7 s7 → N σ7 H7 → ∃ m, m < n ∧ ∃ i σ' H', Inv X.nox pins σ' H' s7 ∧ tn i s7.heap ∧ (∀ b ∈ fp, H' b = none) ∧ W i m σ' H' := fun {σ7 H7} I7 n7 => by
      obtain ⟨m', hm, w7⟩ := hN σ7 H7 n7
      refine ⟨m', hm, i + 1, σ7, H7, I7.unpinned, T.keep _ _ _ st5 fun b hb o e => (I7.pin (b, o) (List.mem_append_right _ (List.mem_append_right _ (mem_pinsAt hb e)))).1, fun b hb => ?_, w7⟩
      obtain ⟨o, e, d⟩ := T.obj _ _ st5 b hb
      exact (I7.pin (b, o) (List.mem_append_right _ (List.mem_append_right _ (mem_pinsAt hb e)))).2.1
    cases f with
    | next => obtain ⟨σ7, H7, I7, n7⟩ := q7; exact again I7 n7
    | cont => obtain ⟨σ7, H7, I7, n7⟩ := q7; exact again I7 n7
    | brk => obtain ⟨σ7, H7, I7, q7⟩ := q7; exact ⟨σ7, H7, I7.unpinned.unwish, q7⟩
    | ret v => obtain ⟨x7, σ7, H7, I7, r7, q7⟩ := q7; exact ⟨x7, σ7, H7, I7.unpinned.unwish, r7, q7⟩
end
end L2

namespace L2
open PySem PySem.Spec PyProof.Rows
/-! ### the text's facts named apart from the frame (in a try's body) -/
end L2

namespace L2
open PySem PySem.Spec PyProof.Rows PySem.W
/-! ### the sort's questions, answered by numbers all unlike -/
section
variable {n : Nat} {key : Nat → Int}
end
end L2

namespace L2
open PySem PySem.Spec PyProof.Rows PySem.W PySem.Calls
/-! ### sorted of a list of pairs whose first numbers are all unlike -/
end L2

namespace L2
open PySem PySem.Spec PyProof.Rows PySem.W PySem.Calls
section
variable {prog : Program} {w : World} {A : Around} {E : Value → Shared → Prop} {s : Shared} {h₀ : Heap} {L a : Addr} {m : Str → Option Value} {news : List (Addr × Obj)} {v : Value}
end
end L2

namespace Gh
open PySem L2
/-- over a list, each item by its place -/
theorem lc_listI {K : PySem.W.Frag} {l D : Addr} {xs : List V} {te : TE} {σ : St} {H1 : Hp} {Q : VK} (g : Nat → V) (hS : SqL K H1 l xs) (hz : xs.length ≤ 1000) (hte : ∀ i v, xs[i]? = some v → ∀ (H' : Hp) (Q' : VK), Same H1 H' → Q' (g i) H' → te (some v :: σ) H' Q') (hD : H1 D = none)
    (hQ : Q (.ref D) (upd H1 D (.lst ((List.range xs.length).map g)))) :
    LCi (Itl K l) D tTrue te σ H1 Q := by
  refine ⟨fun i m acc H2 => m = xs.length - i ∧ i ≤ xs.length ∧ acc = (List.range i).map g ∧ H2 = upd H1 D (.lst acc), ⟨xs.length, rfl, Nat.zero_le _, rfl, rfl⟩, ?_⟩
  rintro i m acc H2 ⟨rfl, hi, rfl, rfl⟩
  have sm : ∀ o, Same H1 (upd H1 D o) := fun o => Same.fresh hD
  have q := (sm (.lst ((List.range i).map g))).seq hS
  by_cases hlt : i < xs.length
  · refine .inr ⟨⟨xs, xs[i], q, by simp [hlt]⟩, fun v H3 y => ?_⟩
    obtain ⟨e, y⟩ := y
    subst e
    have e1 : xs[i]? = some v := y xs q
    unfold tTrue
    simp only [↓reduceIte]
    refine hte i v e1 _ _ (sm _) ⟨upd_same, ?_, xs.length - (i + 1), by omega, rfl, hlt, ?_, ?_⟩
    · rw [List.length_map, List.length_range]
      exact small1000 (by omega)
    · rw [List.range_succ, List.map_append]; rfl
    · rw [upd_upd]
  · have e : i = xs.length := by omega
    subst e
    exact .inl ⟨⟨xs, q, Nat.le_refl _⟩, hQ⟩
end Gh

namespace Gh
open PySem L2
end Gh

namespace Gh
open PySem L2
/-! ### an expression that keeps off a name not yet set (a comprehension's own name is the def's, too) -/
end Gh

namespace L2
open PySem PySem.Spec PyProof.Rows
/-! ### lists of pairs as tables -/
section
variable {κ : Type} [DecidableEq κ]
end


/-! ### a tracked dict, its keys ints and texts or tuples of these -/
section
variable {P : Program} {w : World} {H : Hp} {h : Heap} {a : Addr}
end

section
variable {X : Cx} {pins : List (Addr × Obj)} {σ : St} {H : Hp} {s : Shared} {a : Addr} {y v : V} {u r : Value} {o : Option V} {A : Around} {E : Value → Shared → Prop}

end

section
variable {X : Cx} {pins : List (Addr × Obj)} {σ : St} {H : Hp} {s : Shared} {a : Addr} {kvs : List (Key × V)} {k : Key} {u : Value} {A : Around} {E : Value → Shared → Prop}
end


/-! ### readings and rules -/
section
variable {X : Cx} {o i e value : Expr} {pos pos' tpos : Pos} {td ty tv : TE}
end


/-! ### displays -/
section
variable {X : Cx} {pos : Pos}
end

/-! ### methods -/
section
variable {X : Cx} {pins : List (Addr × Obj)} {σ : St} {H : Hp} {s : Shared} {a : Addr} {y d : V} {u r : Value} {o : Option V} {A : Around} {E : Value → Shared → Prop}
end

section
variable {X : Cx} {o e f : Expr} {apos cpos : Pos} {td ty tx : TE}
end

/-! ### dict(d): a copy -/
section
variable {X : Cx} {pins : List (Addr × Obj)} {σ : St} {H : Hp} {s : Shared} {a : Addr} {kvs : List (Key × V)} {A : Around} {E : Value → Shared → Prop}
end


section
variable {X : Cx} {pins : List (Addr × Obj)} {σ : St} {H : Hp} {s : Shared} {a : Addr} {y : V} {u : Value} {A : Around} {E : Value → Shared → Prop}
end
end L2

namespace L2
open PySem PySem.Spec PyProof.Rows PySem.W PySem.Calls
/-! ### many new objects at once -/
theorem HOk.laids {P : Program} {w : World} {H H1 : Hp} {h h' : Heap} (x : HOk P w H h) (k : ∀ b u, h.get? b = some u → h'.get? b = some u) (hf : ∀ b u, H b = some u → H1 b = some u) (new : ∀ b u, H b = none → H1 b = some u → ObjOk P w H1 h' b u) : HOk P w H1 h' := fun b u e => by
  cases q : H b with
  | none => exact new b u q e
  | some u' =>
    rw [hf b u' q] at e
    cases e
    exact (x b _ q).stay (fun c v _ q => k c v q) (fun c q => hf _ _ q) (fun c xs q => hf _ _ q)
/-! ### sort of a list of pairs that a built-in has just made -/
/-! ### d.items(), sorted(d.items()) -/
/-! ### sorted of a list of numbers -/
theorem ints_are : ∀ {ns : List Int} {vs : List Value}, Vals (ns.map V.int) vs → IntsAre vs ns
  | [], _, .nil => .nil
  | n :: r, _ :: _, .cons h t => by
    obtain ⟨t', rfl⟩ := h
    exact .cons n t' (ints_are t)
theorem ints_valsI : ∀ {vs : List Value} {ns : List Int}, IntsAre vs ns → Vals (ns.map V.int) vs
  | _, _, .nil => .nil
  | _, _, .cons n t r => .cons ⟨t, rfl⟩ (ints_valsI r)
end L2

namespace L2
open PySem PySem.Spec PyProof.Rows PySem.W PySem.Calls
/-! ### the table of a set: its places rise -/
def RiseT (xs : Array Nat) : Prop := xs.toList.Pairwise (· < ·)
theorem RiseT.lt {xs : Array Nat} (R : RiseT xs) {i j : Nat} (ij : i < j) (hj : j < xs.size) : xs.getD i 0 < xs.getD j 0 := by
  have p := List.pairwise_iff_getElem.mp R i j (by simp; omega) (by simpa using hj) ij
  have e1 : xs.getD i 0 = xs[i]'(by omega) := by simp [Array.getD, show i < xs.size by omega]
  have e2 : xs.getD j 0 = xs[j] := by simp [Array.getD, hj]
  rw [e1, e2]
  simpa using p
theorem below_go {xs : Array Nat} {j : Nat} (R : RiseT xs) : ∀ (f lo hi : Nat), lo ≤ hi → hi ≤ xs.size → hi - lo ≤ f → (∀ k, k < lo → xs.getD k 0 < j) → (∀ k, hi ≤ k → k < xs.size → j ≤ xs.getD k 0) →
    (∀ k, k < SetTable.below.go xs j f lo hi → xs.getD k 0 < j) ∧ (∀ k, SetTable.below.go xs j f lo hi ≤ k → k < xs.size → j ≤ xs.getD k 0) ∧ SetTable.below.go xs j f lo hi ≤ xs.size
  | 0, lo, hi, h1, h2, h3, h4, h5 => by
    have : lo = hi := by omega
    subst this
    exact ⟨h4, h5, h2⟩
  | f + 1, lo, hi, h1, h2, h3, h4, h5 => by
    unfold SetTable.below.go
    by_cases c : lo < hi
    · rw [if_pos c]
      dsimp only
      have hm : (lo + hi) / 2 < hi := by omega
      have hm2 : lo ≤ (lo + hi) / 2 := by omega
      generalize (lo + hi) / 2 = mid at *
      have em : xs.getD mid j = xs.getD mid 0 := by simp [Array.getD, show mid < xs.size by omega]
      rw [em]
      by_cases d : xs.getD mid 0 < j
      · rw [if_pos d]
        refine below_go R f (mid + 1) hi (by omega) h2 (by omega) (fun k hk => ?_) h5
        rcases (by omega : k = mid ∨ k < mid) with e | e
        · rw [e]; exact d
        · have := R.lt e (show mid < xs.size by omega); omega
      · rw [if_neg d]
        refine below_go R f lo mid hm2 (by omega) (by omega) h4 (fun k hk hk2 => ?_)
        rcases (by omega : k = mid ∨ mid < k) with e | e
        · rw [e]; omega
        · have := R.lt e hk2; omega
    · rw [if_neg c]
      have : lo = hi := by omega
      subst this
      exact ⟨h4, h5, h2⟩
theorem below_spec {xs : Array Nat} (R : RiseT xs) (j : Nat) : (∀ k, k < SetTable.below xs j → xs.getD k 0 < j) ∧ (∀ k, SetTable.below xs j ≤ k → k < xs.size → j ≤ xs.getD k 0) ∧ SetTable.below xs j ≤ xs.size :=
  below_go R xs.size 0 xs.size (Nat.zero_le _) (Nat.le_refl _) (Nat.le_refl _) (fun k h => absurd h (Nat.not_lt_zero _)) (fun k h1 h2 => by omega)
theorem insertAt_list {α : Type} (xs : Array α) (p : Nat) (x : α) : (SetTable.insertAt xs p x).toList = xs.toList.take p ++ x :: xs.toList.drop p := by
  unfold SetTable.insertAt
  simp [List.take_of_length_le]
theorem put_rise {t : SetTable} (R : RiseT t.place) {j : Nat} (hj : ∀ k, k < t.place.size → t.place.getD k 0 ≠ j) : RiseT (t.put j).1.place := by
  obtain ⟨b1, b2, b3⟩ := below_spec R j
  unfold SetTable.put
  dsimp only
  unfold RiseT
  rw [insertAt_list, List.pairwise_append]
  refine ⟨List.Pairwise.sublist (List.take_sublist _ _) R, ?_, ?_⟩
  · rw [List.pairwise_cons]
    refine ⟨fun y hy => ?_, List.Pairwise.sublist (List.drop_sublist _ _) R⟩
    obtain ⟨i, hi, e⟩ := List.mem_iff_getElem.mp hy
    rw [List.getElem_drop] at e
    have hl : SetTable.below t.place j + i < t.place.size := by simp at hi; omega
    have g := b2 (SetTable.below t.place j + i) (by omega) hl
    have n := hj _ hl
    have e1 : t.place.getD (SetTable.below t.place j + i) 0 = t.place[SetTable.below t.place j + i] := by simp [Array.getD, hl]
    rw [e1] at g n
    have e2 : t.place[SetTable.below t.place j + i] = y := by simpa using e
    rw [e2] at g n
    omega
  · intro y hy z hz
    obtain ⟨i, hi, e⟩ := List.mem_iff_getElem.mp hy
    rw [List.getElem_take] at e
    have hl : i < t.place.size := by simp at hi; omega
    have hb : i < SetTable.below t.place j := by simp at hi; omega
    have g := b1 i hb
    have e1 : t.place.getD i 0 = t.place[i] := by simp [Array.getD, hl]
    have e2 : t.place[i] = y := by simpa using e
    rw [e1, e2] at g
    rcases List.mem_cons.mp hz with hz | hz
    · rw [hz]; exact g
    · obtain ⟨i', hi', e'⟩ := List.mem_iff_getElem.mp hz
      rw [List.getElem_drop] at e'
      have hl' : SetTable.below t.place j + i' < t.place.size := by simp at hi'; omega
      have g' := b2 (SetTable.below t.place j + i') (by omega) hl'
      have f1 : t.place.getD (SetTable.below t.place j + i') 0 = t.place[SetTable.below t.place j + i'] := by simp [Array.getD, hl']
      have f2 : t.place[SetTable.below t.place j + i'] = z := by simpa using e'
      rw [f1, f2] at g'
      omega
theorem has_none (j : Nat) : SetTable.has #[] j = false := by
  unfold SetTable.has
  simp
theorem probe_go {t : SetTable} {ha : Nat → Int} {h : Int} (hd : t.dummies = #[]) : ∀ (f : Nat) (p : SetTable.Probe), p.dummy = none → ∀ j d, SetTable.probe.go t ha h f p = some (.empty j d) → d = none ∧ t.slot j = .empty
  | 0, _, _, _, _, e => by unfold SetTable.probe.go at e; cases e
  | f + 1, p, hp, j, d, e => by
    unfold SetTable.probe.go at e
    have adv : (t.advance p).dummy = none := by
      unfold SetTable.advance
      split
      · exact hp
      · exact hp
    cases q : t.slot p.j with
    | empty =>
      rw [q] at e
      cases e
      exact ⟨hp, q⟩
    | dummy =>
      exfalso
      unfold SetTable.slot at q
      dsimp only at q
      rw [hd, has_none] at q
      split at q
      · cases q
      · cases q
    | live i =>
      rw [q] at e
      dsimp only at e
      split at e
      · cases e
      · exact probe_go hd f _ adv j d e
/-- the table is in order -/
structure TabOk (t : SetTable) (led : Bool) : Prop where
  rise : RiseT t.place
  dum : t.dummies = #[]
  led : t.led = led
theorem slot_free {t : SetTable} (R : RiseT t.place) {j : Nat} (e : t.slot j = .empty) : ∀ k, k < t.place.size → t.place.getD k 0 ≠ j := fun k hk z => by
  obtain ⟨b1, b2, b3⟩ := below_spec R j
  unfold SetTable.slot at e
  dsimp only at e
  split at e
  · cases e
  · next n =>
    apply n
    have h1 : SetTable.below t.place j ≤ k := by
      apply Decidable.byContradiction
      intro c
      have := b1 k (by omega)
      omega
    have hl : SetTable.below t.place j < t.place.size := by omega
    have g := b2 _ (Nat.le_refl _) hl
    have g2 : t.place.getD (SetTable.below t.place j) 0 ≤ t.place.getD k 0 := by
      rcases (by omega : SetTable.below t.place j = k ∨ SetTable.below t.place j < k) with c | c
      · rw [c]; exact Nat.le_refl _
      · exact Nat.le_of_lt (R.lt c hk)
    have e1 : t.place.getD (SetTable.below t.place j) 0 = j := by omega
    have e2 : t.place.getD (SetTable.below t.place j) 0 = t.place[SetTable.below t.place j] := by simp [Array.getD, hl]
    rw [Array.getElem?_eq_getElem hl, ← e2, e1]
    simp
theorem range_rise (n : Nat) : RiseT (Array.range n) := by
  unfold RiseT
  rw [Array.toList_range]
  exact List.pairwise_lt_range
theorem standIn_ok {t : SetTable} {led : Bool} (T : TabOk t led) (n : Nat) : TabOk (t.standIn n) led := ⟨range_rise n, rfl, T.led⟩
theorem layNew_ok {t : SetTable} {led : Bool} (T : TabOk t led) (es : Array (Int × Value)) (h : Int) (x : Value) : TabOk (layNew t es h x).2.1 led := by
  unfold layNew
  cases e : t.freeSlot h with
  | none => exact standIn_ok T _
  | some q =>
    obtain ⟨slot, was⟩ := q
    dsimp only
    unfold SetTable.freeSlot at e
    split at e
    · next j d ep =>
      obtain ⟨rfl, hs⟩ := probe_go T.dum _ _ rfl j d ep
      cases e
      have T2 : TabOk (t.put j).1 led := ⟨put_rise T.rise (slot_free T.rise hs), by
        show (if SetTable.has t.dummies j then _ else t.dummies) = #[]
        rw [T.dum, has_none]; rfl, T.led⟩
      show TabOk ((t.put j).1.orStandIn _) led
      unfold SetTable.orStandIn
      split
      · exact T2
      · exact standIn_ok T2 _
    · cases e
theorem laid_rise (mask finger moves : Nat) (led plain : Bool) (hs : Array Int) (t : SetTable) (o : Array Nat) (e : SetTable.laid mask finger moves led plain hs = some (t, o)) : TabOk t led := by
  unfold SetTable.laid at e
  cases q : SetTable.layClean mask hs with
  | none => rw [q] at e; cases e
  | some owner =>
    rw [q] at e
    cases e
    refine ⟨?_, rfl, rfl⟩
    unfold RiseT
    show (List.map (fun x : Nat × Nat => x.1) (List.filterMap (fun j => Option.map (fun x => (j, x)) (owner.getD j none)) (List.range (mask + 1)))).Pairwise (· < ·)
    rw [List.pairwise_map, List.pairwise_filterMap]
    refine List.Pairwise.imp ?_ (List.pairwise_lt_range (n := mask + 1))
    intro a b ab p hp q hq
    obtain ⟨u, _, rfl⟩ := Option.map_eq_some_iff.mp hp
    obtain ⟨v, _, rfl⟩ := Option.map_eq_some_iff.mp hq
    exact ab
theorem relayAll_ok {t : SetTable} {led : Bool} (T : TabOk t led) (es : Array (Int × Value)) (n : Nat) : TabOk (relayAll t es n).2.1 led := by
  unfold relayAll
  cases e : t.relaid (es.map (·.1)) n with
  | none => exact standIn_ok T _
  | some q =>
    obtain ⟨t', order⟩ := q
    dsimp only
    split
    · have := laid_rise _ _ _ _ _ _ _ _ e
      rw [T.led] at this
      exact this
    · exact standIn_ok T _
/-! ### a set of numbers, with its table -/
def intOf : Value → Int
  | .int k _ => k
  | _ => 0
def dsOf (es : Array (Int × Value)) : List Int := es.toList.map fun e => intOf e.2
section
variable {prog : Program} {w : World} {A : Around} {E : Value → Shared → Prop} {s : Shared}
theorem is_intOf {k : Int} {v : Value} (h : (intKind prog w).is k v = true) : ∃ t, v = .int k t := Value.isInt_shape (k := k) (v := v) h
theorem elems_int {es : List (Int × Value)} (h : ElemsOf (intKind prog w) es) {e : Int × Value} (he : e ∈ es) : ∃ t, e.2 = .int (intOf e.2) t := by
  obtain ⟨⟨k, hk, _⟩, _⟩ := h e he
  obtain ⟨t, q⟩ := is_intOf hk
  exact ⟨t, by rw [q]; rfl⟩
def SetG (prog : Program) (w : World) (led : Bool) (h : Heap) (S : Addr) (ds : List Int) : Prop :=
  ∃ o es ep t, h.get? S = some o ∧ o.ExactSet ∧ o.data = .set es ep t ∧ ElemsOf (intKind prog w) es.toList ∧ es.size < scanBound ∧ t.fits es.size = true ∧ TabOk t led ∧ ds = dsOf es ∧ ds.Nodup
theorem SetG.at' {led : Bool} {h h' : Heap} {S : Addr} {ds : List Int} (x : SetG prog w led h S ds) (k : ∀ o, h.get? S = some o → h'.get? S = some o) : SetG prog w led h' S ds := by
  obtain ⟨o, es, ep, t, h1, r⟩ := x
  exact ⟨o, es, ep, t, k o h1, r⟩
theorem SetG_store {led : Bool} {h : Heap} {a : Addr} {o : Obj} {es : Array (Int × Value)} {ep : Nat} {t : SetTable} (ho : h.get? a = some o) (hex : o.ExactSet) (hd : o.data = .set es ep t)
    {es' : Array (Int × Value)} {t' : SetTable} (hel : ElemsOf (intKind prog w) es'.toList) (hb : es'.size < scanBound) (hf : t'.fits es'.size = true) (T : TabOk t' led) (nd : (dsOf es').Nodup) :
    (h.update a (Obj.putSet es' t')).get? a = some { o with data := .set es' (ep + 1) t' } ∧ SetG prog w led (h.update a (Obj.putSet es' t')) a (dsOf es') := by
  have hg : (h.update a (Obj.putSet es' t')).get? a = some { o with data := .set es' (ep + 1) t' } := by
    have := Heap.get?_update_self (Obj.putSet es' t') ho (by rw [putSet_of es' t' hd]; rfl)
    rw [putSet_of es' t' hd] at this; exact this
  exact ⟨hg, _, es', ep + 1, t', hg, hex, rfl, hel, hb, hf, T, rfl, nd⟩
theorem addTailG {led : Bool} {g : Bool → Sem Unit} (hg : ∀ (b : Bool) (s₁ : Shared) (Q' : Unit → Shared → Prop), Q' () s₁ → wpAny (model prog w) A (g b) Q' E s₁)
    {a : Addr} {o : Obj} {es : Array (Int × Value)} {ep : Nat} {t : SetTable} (ho : s.heap.get? a = some o) (hex : o.ExactSet) (hd : o.data = .set es ep t)
    {es1 : Array (Int × Value)} {t2 : SetTable} (hel1 : ElemsOf (intKind prog w) es1.toList)
    (hb1 : es1.size < scanBound) (hf2 : t2.fits es1.size = true) (T : TabOk t2 led) (nd : (dsOf es1).Nodup) {wasDummy : Bool} {R : Option Bool → Shared → Prop}
    (h : ∀ h' ds', Heap.SameBut a s.heap h' → SetG prog w led h' a ds' → ds'.Perm (dsOf es1) → R (some true) { s with heap := h' }) :
    wpAny (model prog w) A (do
        storeSet a es1 t2
        if (!wasDummy && t2.tooFull) = true then do
            g (relayAll t2 es1 (SetTable.grown es1.size)).2.2
            storeSet a (relayAll t2 es1 (SetTable.grown es1.size)).1 (relayAll t2 es1 (SetTable.grown es1.size)).2.1
            pure (some true)
          else pure (some true)) R E s := by
  refine wpAny_bind (wpAny_storeSet_of ho hd ?_ (fits_of_scanBound hb1))
  obtain ⟨ho1, hS1⟩ := SetG_store (prog := prog) (w := w) ho hex hd hel1 hb1 hf2 T nd
  have hsb1 := Heap.SameBut.update s.heap a (Obj.putSet es1 t2)
  split
  · have hp := relayAll_perm t2 es1 (SetTable.grown es1.size)
    have hfr := relayAll_fits t2 es1 (SetTable.grown es1.size)
    have T3 := relayAll_ok T es1 (SetTable.grown es1.size)
    generalize hRl : relayAll t2 es1 (SetTable.grown es1.size) = Rl at hp hfr T3 ⊢
    obtain ⟨es2, t3, gave2⟩ := Rl
    dsimp only at hp hfr T3 ⊢
    have hel2 : ElemsOf (intKind prog w) es2.toList := hel1.perm hp
    have hsz : es2.size = es1.size := by rw [← Array.length_toList, hp.length_eq, Array.length_toList]
    have hb2 : es2.size < scanBound := by rw [hsz]; exact hb1
    have pd : (dsOf es2).Perm (dsOf es1) := hp.map _
    refine wpAny_bind (hg _ _ _ ?_)
    refine wpAny_bind (wpAny_storeSet_of ho1 rfl ?_ (fits_of_scanBound hb2))
    obtain ⟨_, hS2⟩ := SetG_store (prog := prog) (w := w) (led := led) ho1 hex rfl hel2 hb2 hfr T3 (pd.nodup_iff.mpr nd)
    exact wpAny_pure (h _ _ (hsb1.trans (Heap.SameBut.update _ a _)) hS2 pd)
  · exact wpAny_pure (h _ _ hsb1 hS1 (List.Perm.refl _))
theorem setAddG {led : Bool} {a : Addr} {ds : List Int} {k : Int} {tk : Tok} {Q : Bool → Shared → Prop} (hS : SetG prog w led s.heap a ds) (hroom : ds.length + 1 < scanBound)
    (h : ∀ h' ds' b, Heap.SameBut a s.heap h' → SetG prog w led h' a ds' → (k ∈ ds ∧ ds' = ds ∨ k ∉ ds ∧ ds'.Perm (ds ++ [k])) → Q b { s with heap := h' }) :
    wpAny (model prog w) A (setAddHashed a (.int k tk) ((intKind prog w).hash k)) Q E s := by
  obtain ⟨o, es, ep, t, ho, hex, hd, hel, hb, hf, T, rfl, nd⟩ := hS
  have hkey : (intKind prog w).is k (.int k tk) = true := intKind_is _ _ _ _
  have hsc : (Value.int k tk).scannable = true := rfl
  have hn : (dsOf es).length = es.size := by unfold dsOf; rw [List.length_map, Array.length_toList]
  have hb1 : es.size + 1 < scanBound := by rw [← hn]; exact hroom
  have inds : ∀ e ∈ es.toList, (intKind prog w).is k e.2 = true ↔ intOf e.2 = k := fun e he => by
    obtain ⟨t', q⟩ := elems_int hel he
    constructor
    · intro z
      obtain ⟨t2, q2⟩ := is_intOf z
      rw [q2]; rfl
    · intro z
      rw [q, z]; exact intKind_is _ _ _ _
  unfold setAddHashed setAddHashedIn
  refine wpAny_holding (wpAny_bind (wpAny_setState_of ho hd hf ?_))
  dsimp only
  rw [byScan_of hsc hb hel]
  simp only [↓reduceIte]
  unfold setAddByScan
  refine wpAny_bind ?_
  refine wpAny_bind (wpAny_rule ?_)
  refine wpAny_bind (wpAny_setScan_of hkey ho hd hf hel ?_)
  cases hr : List.findIdx? (fun e => (intKind prog w).is k e.2) es.toList with
  | some j =>
    dsimp only
    obtain ⟨hj, hpj, _⟩ := List.findIdx?_eq_some_iff_getElem.mp hr
    have hk : k ∈ dsOf es := List.mem_map.mpr ⟨_, List.getElem_mem hj, (inds _ (List.getElem_mem hj)).mp hpj⟩
    refine wpAny_pure (wpAny_pure ?_)
    have e : s = { s with heap := s.heap } := by cases s; rfl
    have := h s.heap (dsOf es) false (Heap.SameBut.refl a s.heap) ⟨o, es, ep, t, ho, hex, hd, hel, hb, hf, T, rfl, nd⟩ (.inl ⟨hk, rfl⟩)
    rw [e]; exact this
  | none =>
    dsimp only
    have hk : k ∉ dsOf es := fun z => by
      obtain ⟨e, he, q⟩ := List.mem_map.mp z
      have := List.findIdx?_eq_none_iff.mp hr e he
      rw [(inds e he).mpr q] at this
      cases this
    have hgw : ∀ (b : Bool) {s₁ : Shared} {Q' : Unit → Shared → Prop}, Q' () s₁ → wpAny (model prog w) A (match b with | true => rule "set.scan.the-table-gave-way" | false => pure ()) Q' E s₁ :=
      fun b s₁ Q' hq => by cases b <;> first | exact wpAny_pure hq | exact wpAny_rule hq
    have hperm := layNew_perm t es ((intKind prog w).hash k) (.int k tk)
    have hfits := layNew_fits t es ((intKind prog w).hash k) (.int k tk)
    have T1 := layNew_ok T es ((intKind prog w).hash k) (.int k tk)
    generalize hL : layNew t es ((intKind prog w).hash k) (.int k tk) = L at hperm hfits T1 ⊢
    obtain ⟨es1, t1, wasDummy, gave⟩ := L
    dsimp only at hperm hfits T1 ⊢
    rw [Array.toList_push] at hperm
    have hel1 : ElemsOf (intKind prog w) es1.toList := (hel.push hkey hsc).perm hperm
    have pd : (dsOf es1).Perm (dsOf es ++ [k]) := by
      have := hperm.map fun e => intOf e.2
      rw [List.map_append] at this
      exact this
    have nd1 : (dsOf es1).Nodup := pd.nodup_iff.mpr (by
      rw [List.nodup_append]
      exact ⟨nd, by simp, fun x hx y hy => by
        have : y = k := by simpa using hy
        subst this
        exact fun z => hk (z ▸ hx)⟩)
    have hb1' : es1.size < scanBound := by rw [← Array.length_toList, hperm.length_eq, List.length_append, Array.length_toList]; simpa using hb1
    refine wpAny_bind (hgw _ ?_)
    have hend : ∀ h' ds', Heap.SameBut a s.heap h' → SetG prog w led h' a ds' → ds'.Perm (dsOf es1) → Q true { s with heap := h' } := fun h' ds' hsb hS' hp => h h' ds' true hsb hS' (.inr ⟨hk, hp.trans pd⟩)
    split
    · refine wpAny_bind ?_
      rw [hashByValue_scannable 8 hsc]
      refine wpAny_pure ?_
      refine addTailG (led := led) ?_ ho hex hd hel1 hb1' ?_ ?_ nd1 ?_
      · intro b s₁ Q' hq; cases b <;> first | exact wpAny_pure hq | exact wpAny_rule hq
      · split
        · exact hfits
        · exact SetTable.fits_plain_off hfits
      · split
        · exact T1
        · exact ⟨T1.rise, T1.dum, T1.led⟩
      · intro h' ds' hsb hS' hp; dsimp only; exact wpAny_pure (hend h' ds' hsb hS' hp)
    · refine wpAny_bind (wpAny_pure ?_)
      simp only [↓reduceIte]
      refine addTailG (led := led) ?_ ho hex hd hel1 hb1' hfits T1 nd1 ?_
      · intro b s₁ Q' hq; cases b <;> first | exact wpAny_pure hq | exact wpAny_rule hq
      · intro h' ds' hsb hS' hp; dsimp only; exact wpAny_pure (hend h' ds' hsb hS' hp)
end
end L2

namespace PySem.F
theorem entry_set_iterG : entryFor table "set.__iter__" = some Builtin.«frozenset.__iter__» :=
  entryFor_alias (id' := "frozenset.__iter__") (by kernel_rfl) rfl (by decide +kernel) (by kernel_rfl)
theorem slot_setit_next : Slot "set_iterator" "__next__" "set_iterator.__next__" :=
  .of (owner := "set_iterator") (n := "__next__") (by rw [typeLookup_type, builtinLookup_eq_fast]; kernel_rfl) (by decide +kernel) (by decide +kernel) (by decide +kernel)
    (by first | exact .inl (by decide +kernel) | exact .inr (by decide +kernel)) (by rw [isSubtype_type]; kernel_rfl)
theorem slot_setit_iter : Slot "set_iterator" "__iter__" "set_iterator.__iter__" :=
  .of (owner := "set_iterator") (n := "__iter__") (by rw [typeLookup_type, builtinLookup_eq_fast]; kernel_rfl) (by decide +kernel) (by decide +kernel) (by decide +kernel)
    (by first | exact .inl (by decide +kernel) | exact .inr (by decide +kernel)) (by rw [isSubtype_type]; kernel_rfl)
theorem entry_setit_next : entryFor table "set_iterator.__next__" = some Builtin.«set_iterator.__next__» := entryFor_of_tree (by kernel_rfl)
theorem args_setit_next (a : Value) : argsOk "set_iterator.__next__" ⟨[a], []⟩ := by
  unfold argsOk; rw [signature?_of (id := "set_iterator.__next__") (n := ['_', '_', 't', 'x', 'e', 'n', '_', '_']) (o := ['r', 'o', 't', 'a', 'r', 'e', 't', 'i', '_', 't', 'e', 's']) (rows := Manifest.sig_set_iterator) (by kernel_rfl) (by kernel_rfl)]; kernel_rfl
theorem len_setG : typeLookup (.type "set") "__len__" = pure (some (.builtin "set.__len__")) := by rw [typeLookup_type, builtinLookup_eq_fast]; kernel_rfl
end PySem.F
namespace L2
open PySem PySem.Spec PyProof.Rows PySem.W PySem.Calls
/-! ### set(list of numbers) -/
/-- the numbers met so far -/
structure DsOf (val : Nat → Int) (i : Nat) (ds : List Int) : Prop where
  mem : ∀ x, x ∈ ds ↔ ∃ j, j < i ∧ val j = x
  len : ds.length ≤ i
theorem DsOf.zero (val : Nat → Int) : DsOf val 0 [] := ⟨fun x => ⟨fun h => (nomatch h), fun ⟨_, h, _⟩ => absurd h (Nat.not_lt_zero _)⟩, Nat.le_refl _⟩
theorem DsOf.succ {val : Nat → Int} {i : Nat} {ds ds' : List Int} (D : DsOf val i ds) (h : val i ∈ ds ∧ ds' = ds ∨ val i ∉ ds ∧ ds'.Perm (ds ++ [val i])) : DsOf val (i + 1) ds' := by
  rcases h with ⟨hm, rfl⟩ | ⟨_, hp⟩
  · refine ⟨fun x => ?_, Nat.le_succ_of_le D.len⟩
    constructor
    · intro h
      obtain ⟨j, hj, e⟩ := (D.mem x).mp h
      exact ⟨j, Nat.lt_succ_of_lt hj, e⟩
    · rintro ⟨j, hj, e⟩
      rcases (by omega : j < i ∨ j = i) with c | c
      · exact (D.mem x).mpr ⟨j, c, e⟩
      · rw [← e, c]; exact hm
  · refine ⟨fun x => ?_, by have := hp.length_eq; rw [List.length_append] at this; have := D.len; simp at *; omega⟩
    rw [hp.mem_iff, List.mem_append, D.mem, List.mem_singleton]
    constructor
    · rintro (⟨j, hj, e⟩ | e)
      · exact ⟨j, Nat.lt_succ_of_lt hj, e⟩
      · exact ⟨i, Nat.lt_succ_self _, e.symm⟩
    · rintro ⟨j, hj, e⟩
      rcases (by omega : j < i ∨ j = i) with c | c
      · exact .inl ⟨j, c, e⟩
      · exact .inr (by rw [← e, c])
def ledW (w : World) : Bool := !w.params.followText "set-order"
section
variable {prog : Program} {w : World} {A : Around} {R : Result → Shared → Prop} {I : Addr} {fp wr : List Addr} {G : Array GenState → Array GenState → Prop} {n : Nat} {P : Nat → Value → Prop} {St : Nat → Shared → Prop} {led : Bool}
theorem set_loopG (W : WalksS prog w A.in1 I fp wr G n P St) (S : Addr) (hSf : S ∉ fp)
    (val : Nat → Int) (hval : ∀ i v, P i v → ∃ t, v = .int (val i) t) (hb : n + 1 < scanBound) :
    ∀ (k i : Nat) (s : Shared) (ds : List Int), n - i = k → i ≤ n → St i s → SetG prog w led s.heap S ds → DsOf val i ds →
      (∀ s' ds', Moved (S :: wr) G s s' → SetG prog w led s'.heap S ds' → DsOf val n ds' → R (.ok (.ret .none)) s') →
      codeAny (model prog w) A (.builtin "set.update.loop" ⟨[.ref S, .ref I], []⟩) R s := by
  have hSw : S ∉ wr := fun h => hSf (W.sub _ h)
  have hsub : ∀ b ∈ wr, b ∈ S :: wr := fun b hb => List.mem_cons_of_mem _ hb
  intro k
  induction k with
  | zero =>
    intro i s ds hk hi hst hS hD hR
    have hin : i = n := by omega
    subst hin
    refine codeAny_builtin PyProof.Rows.F.entry_set_update_loop ?_
    rw [Around.under_plainId PyProof.Rows.F.plain_set_update_loop _]
    show wpAny _ A.in1 (pyNext (.ref I) >>= _) _ _ s
    refine wpAny_bind (W.done s _ _ hst fun s' hm => ?_)
    show wpAny _ A.in1 (ret Value.none) _ _ s'
    exact wpAny_pure (hR s' ds (hm.mono hsub) (hS.at' fun o e => hm.heap S _ hSw e) hD)
  | succ k ih =>
    intro i s ds hk hi hst hS hD hR
    have hlt : i < n := by omega
    refine codeAny_builtin PyProof.Rows.F.entry_set_update_loop ?_
    rw [Around.under_plainId PyProof.Rows.F.plain_set_update_loop _]
    show wpAny _ A.in1 (pyNext (.ref I) >>= _) _ _ s
    refine wpAny_bind (W.item i s _ _ hlt hst fun v s' hP hst' hm => ?_)
    obtain ⟨t, rfl⟩ := hval i v hP
    have hS' : SetG prog w led s'.heap S ds := hS.at' fun o e => hm.heap S _ hSw e
    show wpAny _ A.in1 (holding [Value.int (val i) t] (setAdd S (.int (val i) t)) >>= _) _ _ s'
    refine wpAny_bind (wpAny_holding ?_)
    unfold setAdd
    refine wpAny_holding ?_
    refine wpAny_bind ((intKind prog w).pyHash (k := val i) (intKind_is _ _ _ _) ?_)
    have hroom : ds.length + 1 < scanBound := by have := D_len hD; omega
    refine setAddG (s := { s' with toks := s'.toks + 1 }) hS' hroom fun h' ds' b hsb hS2 hc => ?_
    refine wpAny_pure ⟨plainId_quiet PyProof.Rows.F.plain_set_update_loop _, ih (i + 1) _ ds' (by omega) hlt (W.frame _ s' _ _ hst' (Nat.le_succ _) fun b hb o e => ?_) hS2 (hD.succ hc) fun s'' ds'' hm'' hS'' hD'' => ?_⟩
    · rw [hsb.2 b (fun h : b = S => hSf (by rw [← h]; exact hb))]; exact e
    · refine hR s'' ds'' (Moved.trans W.gtrans ((hm.mono hsub).then_heap (Nat.le_succ _) fun b o hb e => ?_) hm'') hS'' hD''
      rw [hsb.2 b (fun h : b = S => hb (by rw [h]; exact List.mem_cons_self))]; exact e
where D_len {val : Nat → Int} {i : Nat} {ds : List Int} (D : DsOf val i ds) : ds.length ≤ i := D.len
end
section
variable {prog : Program} {w : World} {A : Around} {E : Value → Shared → Prop} {s : Shared}
theorem code_set_newG (a : Value) {Q₁ : Value → Shared → Prop}
    (h : Q₁ (.ref s.heap.objs.size) { s with heap := s.heap.push { cls := .type "set", dict := none, data := .set #[] 0 (.fresh 0 0 (ledW w)) } }) :
    codeAny (model prog w) A (.call (.builtin "set.__new__") ⟨[.type "set", a], []⟩) (wants Q₁ E) s := by
  refine codeAny_of_tree ?_
  show wpAny _ A.in1 (do checkBuiltinCall "set.__new__" ⟨[.type "set", a], []⟩; again (.builtin "set.__new__" ⟨[.type "set", a], []⟩)) _ _ s
  refine wpAny_bind (wpAny_of_eq (PySem.F.newCall_set_1 a) (wpAny_pure ⟨plainId_quiet PySem.F.plain_set_new _, codeAny_builtin PySem.F.entry_set_new ?_⟩))
  rw [Around.under_plainId PySem.F.plain_set_new _]
  unfold Builtin.«set.__new__» Builtin.Frozenset.newClass
  have hsub := sub_set_self
  obtain ⟨hp, g, d, tk, os⟩ := s
  dsimp only
  wp_walk
  refine wpAny_askSetting (wpAny_pure ?_)
  dsimp only
  simp only [newObj]
  refine wpAny_bind (wpAny_alloc (wpAny_pure ?_))
  exact wpAny_pure h
/-- a type's call whose init is asked by a check of its own -/
theorem callType_asked {T newId initId : String} {Bi : Builtin} {xs : List Value} {Q N : Value → Shared → Prop} (C : TypeCalled T newId initId) (ok : checkTypeCall T ⟨xs, []⟩ = pure ()) (en : entryFor table initId = some Bi)
    (made : codeAny (model prog w) A.in1 (.call (.builtin newId) ⟨.type T :: xs, []⟩) (wants N E) s)
    (rest : ∀ x s₁, N x s₁ → s₁.TypeIs x T ∧ (∀ (A' : Around) (Q' : Unit → Shared → Prop) (E' : Value → Shared → Prop), Q' () s₁ → wpAny (model prog w) A' (checkBuiltinCall initId ⟨x :: xs, []⟩) Q' E' s₁) ∧
      wpAny (model prog w) A.in1.in1 (Bi ⟨x :: xs, []⟩)
        (fun fin s' => match fin with | .done f => wants (fun r s₂ => r = .none ∧ Q x s₂) E (.ok f) s' | .again c' => c'.quiet = true ∧ codeAny (model prog w) A.in1 c' (wants (fun r s₂ => r = .none ∧ Q x s₂) E) s')
        (fun e s' => wants (fun r s₂ => r = .none ∧ Q x s₂) E (.error e) s') s₁) :
    wpAny (model prog w) A (call (.type T) xs) Q E s := by
  obtain ⟨_, _, q1⟩ := C.mro
  have q2 := C.made; have q3 := C.sub; have q4 := C.notType; have q5 := C.canCreate
  refine wpAny_call (codeAny_of_tree (show wpAny _ _ (callAny (.type T) _) _ _ _ from wpAny_pure ⟨Code.quiet_builtin _ (by decide +kernel), codeAny_builtin PySem.F.entry_type_call ?_⟩))
  rw [Around.under_plain (weight_type_call_type T xs []) rfl]
  repeat (any_goals (first | assumption | wp_step))
  refine codeAny_mono made fun r s₁ y => ?_
  match r, y with
  | .error _, y => exact y
  | .ok (.ret x), y =>
    obtain ⟨z1, z2, z3⟩ := rest _ _ y
    have q6 := C.init.lookup; have q7 := C.init.bind x
    repeat (any_goals (first | assumption | wp_step))
    refine codeAny_mono (codeAny_call_builtin C.init.plain en (z2 _ _ _ z3)) fun r₂ s₂ y₂ => ?_
    match r₂, y₂ with
    | .error _, y₂ => exact y₂
    | .ok (.ret _), ⟨e, y₂⟩ =>
      cases e
      repeat (any_goals (first | assumption | wp_step))
    | .ok .next, y₂ | .ok .brk, y₂ | .ok .cont, y₂ => exact y₂.elim
  | .ok .next, y | .ok .brk, y | .ok .cont, y => exact y.elim
/-- set(a list of numbers): which numbers, and that its table is in order -/
theorem call_set_ints {l : Addr} {items : Array Value} {ns : List Int} {Q : Value → Shared → Prop}
    (hh : A.handled = none) (hl : s.heap.IsList l items) (hi : IntsAre items.toList ns) (hb : items.size + 1 < scanBound)
    (h : ∀ (h' : Heap) (tk : Nat) (ds : List Int), SetG prog w (ledW w) h' s.heap.objs.size ds → DsOf (fun i => ns.getD i 0) items.size ds →
      (∀ b o, b < s.heap.objs.size → s.heap.get? b = some o → h'.get? b = some o) → Q (.ref s.heap.objs.size) { s with heap := h', toks := tk }) :
    wpAny (model prog w) A (call (.type "set") [.ref l]) Q E s := by
  refine callType_asked (N := fun x s₁ => x = .ref s.heap.objs.size ∧ s₁ = { s with heap := s.heap.push { cls := .type "set", dict := none, data := .set #[] 0 (.fresh 0 0 (ledW w)) } })
    PySem.F.called_set (PySem.F.typeCall_set_1 _) PySem.F.entry_set_init (code_set_newG _ ⟨rfl, rfl⟩) fun x s₁ e => ?_
  obtain ⟨rfl, rfl⟩ := e
  have new : ∀ b o, s.heap.get? b = some o → (s.heap.push { cls := .type "set", dict := none, data := .set #[] 0 (.fresh 0 0 (ledW w)) }).get? b = some o := fun b o q => Heap.get?_push_of_some _ q
  have it : (s.heap.push { cls := .type "set", dict := none, data := .set #[] 0 (.fresh 0 0 (ledW w)) }).get? s.heap.objs.size = some { cls := .type "set", dict := none, data := .set #[] 0 (.fresh 0 0 (ledW w)) } := Heap.get?_push_size _ rfl
  have size : (s.heap.push { cls := .type "set", dict := none, data := .set #[] 0 (.fresh 0 0 (ledW w)) }).objs.size = s.heap.objs.size + 1 := size_push' _ _
  generalize s.heap.push { cls := .type "set", dict := none, data := .set #[] 0 (.fresh 0 0 (ledW w)) } = h₁ at new it size ⊢
  have tS : Shared.TypeIs { s with heap := h₁ } (.ref s.heap.objs.size) "set" := ⟨_, it, rfl⟩
  refine ⟨tS, fun _ _ _ k => check_set_init_1 tS k, ?_⟩
  obtain ⟨⟨cls, dict, data, slots⟩, ol, c1, n, c2⟩ := id hl
  dsimp only at c1 c2
  subst c1 c2
  have ol₁ := new l _ ol
  have low : l < s.heap.objs.size := Heap.lt_size ol
  have l₁ : h₁.IsList l items := ⟨_, ol₁, rfl, n, rfl⟩
  have no1 := PySem.F.sub_list_set
  have no2 := PySem.F.sub_list_frozenset
  have no3 : (Value.type "list" == Value.type "dict") = false := by decide
  unfold Builtin.«set.__init__» noKeywords Builtin.Frozenset.updateFrom
  generalize hg : pyIter = go
  wp_walk
  subst hg
  refine wpAny_pyIter_list l₁ (wpAny_bind (wpAny_runValue ?_))
  have W := (Walks.list (prog := prog) (w := w) (A := A.in1.in1.in1) (by simp [hh]) h₁.objs.size l (by rw [size]; exact Nat.ne_of_lt (Nat.lt_succ_of_lt low)) items).toS
  refine set_loopG (led := ledW w) W s.heap.objs.size ?_ (fun i => ns.getD i 0) (fun i v e => IntsAre.int_at hi i v (by rw [Array.getElem?_toList]; exact e)) hb items.size 0 _ [] (Nat.sub_zero _) (Nat.zero_le _) ⟨⟨_, Heap.get?_push_size _ rfl, rfl, rfl⟩, l₁.push _⟩ ?_ (DsOf.zero _) fun s' ds m S D => ?_
  · intro z
    rcases List.mem_cons.mp z with z | z
    · rw [size] at z; exact absurd z (Nat.ne_of_lt (Nat.lt_succ_self _))
    · exact absurd (List.mem_singleton.mp z) (Nat.ne_of_gt low)
  · exact ⟨_, #[], 0, _, Heap.get?_push_of_some _ it, ⟨rfl, rfl, rfl⟩, rfl, (fun e he => by simp at he), by unfold scanBound; decide, rfl, ⟨List.Pairwise.nil, rfl, rfl⟩, rfl, List.nodup_nil⟩
  · refine wpAny_pure (wpAny_pure ⟨rfl, ?_⟩)
    obtain ⟨h', g', d', tk', os'⟩ := s'
    obtain ⟨mh, mg, md, mo, _⟩ := m
    cases mg; cases md; cases mo
    refine h h' tk' ds S D fun b o lt q => mh b o ?_ (Heap.get?_push_of_some _ (new b o q))
    intro z
    rcases List.mem_cons.mp z with z | z
    · exact absurd z (Nat.ne_of_lt lt)
    · rw [List.mem_singleton.mp z, size] at lt
      exact absurd lt (Nat.not_lt_of_gt (Nat.lt_succ_self _))
end
/-- set(list of numbers) in the layer -/
def rSetI (K : PySem.W.Frag) (prog : Program) (w : World) : List V → Hp → VK → Prop := fun xs H Q => ∃ (p : Addr) (ns : List Int), xs = [.ref p] ∧ SqL K H p (ns.map V.int) ∧ ns.length ≤ 60 ∧
  ∀ (S : Addr) (ds : List Int), H S = none → ds.Nodup → (∀ x, x ∈ ds ↔ x ∈ ns) → ds.length ≤ 60 → Q (.ref S) (upd H S (.ext (fun h => SetG prog w (ledW w) h S ds)))
theorem DsOf.all {ns ds : List Int} (D : DsOf (fun i => ns.getD i 0) ns.length ds) (x : Int) : x ∈ ds ↔ x ∈ ns := by
  rw [D.mem]
  constructor
  · rintro ⟨j, hj, e⟩
    have : ns.getD j 0 = ns[j] := by simp [List.getD, hj]
    rw [← e]
    show ns.getD j 0 ∈ ns
    rw [this]
    exact List.getElem_mem hj
  · intro h
    obtain ⟨j, hj, e⟩ := List.mem_iff_getElem.mp h
    exact ⟨j, hj, by simp [List.getD, hj, e]⟩
theorem call_set_rule {X : Cx} (hc : X.calm = true) : CallR X (.type "set") (rSetI X.K X.prog X.w) := by
  intro pins s σ H xs us Q I r h
  obtain ⟨p, ns, rfl, hq, l60, kq⟩ := h
  obtain ⟨u, rfl, rx⟩ := vals1 r
  cases rx
  obtain ⟨its, hv, pl, hz⟩ := I.list hq
  have hI := ints_are hv
  have ll : its.length = ns.length := by have := hv.length; rw [List.length_map] at this; omega
  refine call_set_ints (items := its.toArray) (ns := ns) (I.ok.hd hc) pl.isList (by simpa using hI) (by rw [List.size_toArray, ll]; unfold scanBound; omega) fun h' tk ds hS hD hk => ?_
  rw [List.size_toArray, ll] at hD
  have hlen := hD.len
  have nd : ds.Nodup := by obtain ⟨_, _, _, _, _, _, _, _, _, _, _, _, x⟩ := hS; exact x
  have hS2 := hS
  obtain ⟨o, es, ep, t, ho, _⟩ := hS2
  refine ⟨.ref s.heap.objs.size, _, I.laid (a := s.heap.objs.size) (o := .ext (fun h => SetG X.prog X.w (ledW X.w) h s.heap.objs.size ds)) (t' := tk) (fun b o q => hk b o (Heap.lt_size q) q) (Nat.le_refl _) ⟨hS, ⟨_, ho⟩, fun h1 h2 x k => x.at' k⟩, rfl, kq _ ds (I.hok.fresh (Nat.le_refl _)) nd (fun x => hD.all x) (by omega)⟩
end L2

namespace PySem.F
theorem entry_setit_iter : entryFor table "set_iterator.__iter__" = some Builtin.«dict_keyiterator.__iter__» :=
  entryFor_alias (id' := "dict_keyiterator.__iter__") (by kernel_rfl) rfl (by decide +kernel) (by kernel_rfl)
theorem args_setit_iter (a : Value) : argsOk "set_iterator.__iter__" ⟨[a], []⟩ := by
  unfold argsOk; rw [signature?_of (id := "set_iterator.__iter__") (n := ['_', '_', 'r', 'e', 't', 'i', '_', '_']) (o := ['r', 'o', 't', 'a', 'r', 'e', 't', 'i', '_', 't', 'e', 's']) (rows := Manifest.sig_set_iterator) (by kernel_rfl) (by kernel_rfl)]; kernel_rfl
end PySem.F
namespace L2
open PySem PySem.Spec PyProof.Rows PySem.W PySem.Calls
/-! ### orders -/
theorem erase_perm {α : Type} : ∀ (l : List α) (i : Nat) (h : i < l.length), (l[i] :: l.eraseIdx i).Perm l
  | a :: r, 0, _ => List.Perm.refl _
  | a :: r, i + 1, h => (List.Perm.swap a (r[i]'(Nat.lt_of_succ_lt_succ h)) (r.eraseIdx i)).trans (List.Perm.cons a (erase_perm r i (Nat.lt_of_succ_lt_succ h)))
theorem pick_go {α : Type} (next : Nat → Nat) : ∀ (f k : Nat) (left : List α) (out : Array α), f = left.length → (pickOrder.go next f k left out).toList.Perm (out.toList ++ left)
  | 0, k, left, out, e => by
    have : left = [] := List.eq_nil_of_length_eq_zero e.symm
    subst this
    unfold pickOrder.go
    rw [List.append_nil]
  | f + 1, k, left, out, e => by
    unfold pickOrder.go
    have hl : next k % left.length < left.length := Nat.mod_lt _ (by omega)
    rw [List.getElem?_eq_getElem hl]
    dsimp only
    refine (pick_go next f (k + 1) _ _ (by rw [List.length_eraseIdx_of_lt hl]; omega)).trans ?_
    rw [Array.toList_push, List.append_assoc]
    exact List.Perm.append_left _ (erase_perm _ _ hl)
theorem pick_perm {α : Type} (next : Nat → Nat) (xs : Array α) : (pickOrder next xs).toList.Perm xs.toList := by
  unfold pickOrder
  have := pick_go next xs.size 0 xs.toList #[] (by simp)
  simpa using this
section
variable {M : Model} {A : Around} {E : Value → Shared → Prop}
theorem wp_chooseG {s : Shared} {src : Source} {n : Nat} {Q : Nat → Shared → Prop} (hn : n ≠ 0) (h : ∀ i d, i < n → Q i { s with drawn := d }) : wpAny M A (choose src n) Q E s := fun Γ p hΓ => by
  unfold choose
  rw [Sem.wp_choose]
  exact ⟨hn, h _ _ (Nat.mod_lt _ (Nat.pos_of_ne_zero hn))⟩
theorem wp_drawOrder {α : Type} : ∀ (n : Nat) (xs : List α) (s : Shared) (Q : List α → Shared → Prop), n = xs.length → (∀ ys d, ys.Perm xs → Q ys { s with drawn := d }) → wpAny M A (drawOrder n xs) Q E s
  | 0, xs, s, Q, e, h => by
    have : xs = [] := List.eq_nil_of_length_eq_zero e.symm
    subst this
    rw [drawOrder]
    exact wpAny_pure (h [] s.drawn (List.Perm.refl _))
  | n + 1, [], s, Q, e, h => by simp at e
  | n + 1, x :: r, s, Q, e, h => by
    rw [drawOrder]
    · refine wpAny_bind (wp_chooseG (by simp) fun i d hi => ?_)
      rw [List.getElem?_eq_getElem hi]
      dsimp only
      refine wpAny_bind (wp_drawOrder n _ _ _ (by rw [List.length_eraseIdx_of_lt hi]; omega) fun ys d' hp => ?_)
      exact wpAny_pure (h _ d' ((List.Perm.cons _ hp).trans (erase_perm _ _ hi)))
    · intro h; cases h
end
/-! ### the iterator of a set -/
abbrev SetIt (h : Heap) (I : Addr) (first : Value) (i : Nat) (S : Addr) (n ep : Nat) : Prop :=
  h.get? I = some { cls := .type "set_iterator", dict := none, data := .fields #[first, .int i 0, .ref S, .int n 0, .int ep 0], slots := #[] }
section
variable {prog : Program} {w : World} {A : Around} {E : Value → Shared → Prop} {s : Shared} {I S : Addr} {o : Obj} {es : Array (Int × Value)} {ep i : Nat} {t : SetTable}
theorem setit_item {slot next : Nat} {x : Value} {Q : Option Value → Shared → Prop} (hit : SetIt s.heap I (.int slot 0) i S es.size ep) (ho : s.heap.get? S = some o) (hd : o.data = .set es ep t) (hf : t.fits es.size = true)
    (hn : ∀ (A' : Around) (Q' : Option (Value × Nat) → Shared → Prop) (E' : Value → Shared → Prop), Q' (some (x, next)) s → wpAny (model prog w) A' (setNext S slot i ep) Q' E' s)
    (hQ : ∀ h', SetIt h' I (.int next 0) (i + 1) S es.size ep → Heap.SameBut I s.heap h' → Q (some x) { s with heap := h' }) : wpAny (model prog w) A (pyNext (.ref I)) Q E s := by
  have hT : s.TypeIs (.ref I) "set_iterator" := ⟨_, hit, rfl⟩
  unfold pyNext
  refine wpAny_bind (wpAny_attempt (wpAny_callSpecial?_slot (name := Str.ofString "__next__") hT PySem.F.slot_setit_next
    (wpAny_call_entry PySem.F.slot_setit_next hT PySem.F.entry_setit_next ?_ (PySem.F.args_setit_next _))))
  refine wpAny_bind (wpAny_pure ?_)
  refine wpAny_bind (wpAny_fieldsOf hit rfl ?_)
  show wpAny _ _ (setEntries S >>= _) _ _ _
  refine wpAny_bind (wpAny_setEntries_of ho hd hf ?_)
  rw [if_neg (by simp)]
  show wpAny _ _ (setNext S (slot : Int).toNat (i : Int).toNat (ep : Int).toNat >>= _) _ _ _
  rw [Int.toNat_natCast, Int.toNat_natCast, Int.toNat_natCast]
  refine wpAny_bind (hn _ _ _ ?_)
  show wpAny _ _ (setField (.ref I) 0 (rawInt (next : Int)) >>= _) _ _ _
  refine wpAny_bind (wpAny_setField_rec hit (by simp) fun h₁ he₁ hs₁ => ?_)
  have he₁' : SetIt h₁ I (.int next 0) i S es.size ep := he₁
  show wpAny _ _ (setField (.ref I) 1 (rawInt ((i : Int) + 1)) >>= _) _ _ _
  refine wpAny_bind (wpAny_setField_rec (s := { s with heap := h₁ }) he₁' (by simp) fun h₂ he₂ hs₂ => ?_)
  have he₂' : SetIt h₂ I (.int next 0) (i + 1) S es.size ep := by
    have e : ((i + 1 : Nat) : Int) = (i : Int) + 1 := by omega
    unfold SetIt; rw [e]; simpa [rawInt] using he₂
  exact wpAny_pure ⟨_, rfl, wpAny_pure (hQ h₂ he₂' (hs₁.trans hs₂))⟩
theorem setit_done {slot : Nat} {Q : Option Value → Shared → Prop} (hh : A.handled = none) (hit : SetIt s.heap I (.int slot 0) i S es.size ep) (ho : s.heap.get? S = some o) (hd : o.data = .set es ep t) (hf : t.fits es.size = true)
    (hn : ∀ (A' : Around) (Q' : Option (Value × Nat) → Shared → Prop) (E' : Value → Shared → Prop), Q' none s → wpAny (model prog w) A' (setNext S slot i ep) Q' E' s)
    (hQ : ∀ h', Heap.ExtBut I s.heap h' → Q none { s with heap := h' }) : wpAny (model prog w) A (pyNext (.ref I)) Q E s := by
  have hT : s.TypeIs (.ref I) "set_iterator" := ⟨_, hit, rfl⟩
  unfold pyNext
  refine wpAny_bind (wpAny_attempt (wpAny_callSpecial?_slot (name := Str.ofString "__next__") hT PySem.F.slot_setit_next
    (wpAny_call_entry PySem.F.slot_setit_next hT PySem.F.entry_setit_next ?_ (PySem.F.args_setit_next _))))
  refine wpAny_bind (wpAny_pure ?_)
  refine wpAny_bind (wpAny_fieldsOf hit rfl ?_)
  show wpAny _ _ (setEntries S >>= _) _ _ _
  refine wpAny_bind (wpAny_setEntries_of ho hd hf ?_)
  rw [if_neg (by simp)]
  show wpAny _ _ (setNext S (slot : Int).toNat (i : Int).toNat (ep : Int).toNat >>= _) _ _ _
  rw [Int.toNat_natCast, Int.toNat_natCast, Int.toNat_natCast]
  refine wpAny_bind (hn _ _ _ ?_)
  show wpAny _ _ (setField (.ref I) 2 .none >>= _) _ _ s
  refine wpAny_bind (wpAny_setField hit rfl (by simp) ?_)
  show wpAny _ _ (newExc (.type "StopIteration") [] >>= _) _ _ _
  refine wpAny_bind ?_
  simp only [newExc, newTuple]
  refine wpAny_bind (wpAny_newObj_type ?_ (by size_fits))
  refine wpAny_bind (m := firstArgMember _ _) (wpAny_of_eq (a := Value.none) (by first | rfl | (simp only [firstArgMember]; rfl)) ?_)
  refine wpAny_newObj_type ?_ (by size_fits)
  simp only [raiseNew]
  refine wpAny_bind (wpAny_handled ?_)
  rw [show A.in1.handled = none from hh]
  refine wpAny_bind (wpAny_pure (wpAny_throw ?_))
  refine wpAny_bind (wpAny_isInstance (T := "StopIteration") (b := true) ⟨_, Heap.get?_push_size _ rfl, rfl⟩ isSubtype_stop ?_)
  exact wpAny_pure (hQ _ (((Heap.SameBut.update ..).extBut.push _).push _))
theorem setit_itemB {T : Addr} {ot : Obj} {xs : Array Value} {c pl : Nat} {e : Int × Value} {Q : Option Value → Shared → Prop} (hit : SetIt s.heap I (.ref T) i S es.size ep) (ho : s.heap.get? S = some o) (hd : o.data = .set es ep t) (hf : t.fits es.size = true)
    (hoT : s.heap.get? T = some ot) (hdT : ot.data = .seq xs c) (hx : xs[i]? = some (rawInt (pl : Int))) (hpl : es[pl]? = some e)
    (hQ : ∀ h', SetIt h' I (.ref T) (i + 1) S es.size ep → Heap.SameBut I s.heap h' → Q (some e.2) { s with heap := h' }) : wpAny (model prog w) A (pyNext (.ref I)) Q E s := by
  have hT : s.TypeIs (.ref I) "set_iterator" := ⟨_, hit, rfl⟩
  unfold pyNext
  refine wpAny_bind (wpAny_attempt (wpAny_callSpecial?_slot (name := Str.ofString "__next__") hT PySem.F.slot_setit_next
    (wpAny_call_entry PySem.F.slot_setit_next hT PySem.F.entry_setit_next ?_ (PySem.F.args_setit_next _))))
  refine wpAny_bind (wpAny_pure ?_)
  refine wpAny_bind (wpAny_fieldsOf hit rfl ?_)
  show wpAny _ _ (setEntries S >>= _) _ _ _
  refine wpAny_bind (wpAny_setEntries_of ho hd hf ?_)
  rw [if_neg (by simp)]
  show wpAny _ _ (seqItems? (.ref T) >>= _) _ _ _
  refine wpAny_bind (m := seqItems? (.ref T)) (wpAny_seqItems hoT hdT ?_)
  dsimp only
  rw [Int.toNat_natCast, hx]
  show wpAny _ _ (setNextDrawn S (pl : Int).toNat (ep : Int).toNat >>= _) _ _ _
  rw [Int.toNat_natCast, Int.toNat_natCast]
  refine wpAny_bind ?_
  unfold setNextDrawn
  refine wpAny_bind (wpAny_setState_of ho hd hf ?_)
  dsimp only
  rw [if_neg (by simp), hpl]
  refine wpAny_bind (wpAny_pure (wpAny_pure ?_))
  show wpAny _ _ (setField (.ref I) 1 (rawInt ((i : Int) + 1)) >>= _) _ _ _
  refine wpAny_bind (wpAny_setField_rec hit (by simp) fun h₂ he₂ hs₂ => ?_)
  have he₂' : SetIt h₂ I (.ref T) (i + 1) S es.size ep := by
    have e : ((i + 1 : Nat) : Int) = (i : Int) + 1 := by omega
    unfold SetIt; rw [e]; simpa [rawInt] using he₂
  exact wpAny_pure ⟨_, rfl, wpAny_pure (hQ h₂ he₂' hs₂)⟩
theorem setit_doneB {T : Addr} {ot : Obj} {xs : Array Value} {c : Nat} {Q : Option Value → Shared → Prop} (hh : A.handled = none) (hit : SetIt s.heap I (.ref T) i S es.size ep) (ho : s.heap.get? S = some o) (hd : o.data = .set es ep t) (hf : t.fits es.size = true)
    (hoT : s.heap.get? T = some ot) (hdT : ot.data = .seq xs c) (hx : xs[i]? = none)
    (hQ : ∀ h', Heap.ExtBut I s.heap h' → Q none { s with heap := h' }) : wpAny (model prog w) A (pyNext (.ref I)) Q E s := by
  have hT : s.TypeIs (.ref I) "set_iterator" := ⟨_, hit, rfl⟩
  unfold pyNext
  refine wpAny_bind (wpAny_attempt (wpAny_callSpecial?_slot (name := Str.ofString "__next__") hT PySem.F.slot_setit_next
    (wpAny_call_entry PySem.F.slot_setit_next hT PySem.F.entry_setit_next ?_ (PySem.F.args_setit_next _))))
  refine wpAny_bind (wpAny_pure ?_)
  refine wpAny_bind (wpAny_fieldsOf hit rfl ?_)
  show wpAny _ _ (setEntries S >>= _) _ _ _
  refine wpAny_bind (wpAny_setEntries_of ho hd hf ?_)
  rw [if_neg (by simp)]
  show wpAny _ _ (seqItems? (.ref T) >>= _) _ _ _
  refine wpAny_bind (m := seqItems? (.ref T)) (wpAny_seqItems hoT hdT ?_)
  dsimp only
  rw [Int.toNat_natCast, hx]
  show wpAny _ _ (setField (.ref I) 0 (rawInt 0) >>= _) _ _ _
  refine wpAny_bind (wpAny_setField_rec hit (by simp) fun h₁ he₁ hs₁ => ?_)
  have he₁' : SetIt h₁ I (.int 0 0) i S es.size ep := he₁
  show wpAny _ _ (setField (.ref I) 2 .none >>= _) _ _ _
  refine wpAny_bind (wpAny_setField (s := { s with heap := h₁ }) he₁' rfl (by simp) ?_)
  show wpAny _ _ (newExc (.type "StopIteration") [] >>= _) _ _ _
  refine wpAny_bind ?_
  simp only [newExc, newTuple]
  refine wpAny_bind (wpAny_newObj_type ?_ (by size_fits))
  refine wpAny_bind (m := firstArgMember _ _) (wpAny_of_eq (a := Value.none) (by first | rfl | (simp only [firstArgMember]; rfl)) ?_)
  refine wpAny_newObj_type ?_ (by size_fits)
  simp only [raiseNew]
  refine wpAny_bind (wpAny_handled ?_)
  rw [show A.in1.handled = none from hh]
  refine wpAny_bind (wpAny_pure (wpAny_throw ?_))
  refine wpAny_bind (wpAny_isInstance (T := "StopIteration") (b := true) ⟨_, Heap.get?_push_size _ rfl, rfl⟩ isSubtype_stop ?_)
  exact wpAny_pure (hQ _ (((hs₁.trans (Heap.SameBut.update ..)).extBut.push _).push _))
theorem setit_self {first : Value} {Q : Value → Shared → Prop} (hit : SetIt s.heap I first i S es.size ep) (h : Q (.ref I) s) : wpAny (model prog w) A (pyIter (.ref I)) Q E s := by
  have hT : s.TypeIs (.ref I) "set_iterator" := ⟨_, hit, rfl⟩
  refine wpAny_pyIter_slot hT PySem.F.slot_setit_iter (wpAny_call_entry PySem.F.slot_setit_iter hT PySem.F.entry_setit_iter ?_ (PySem.F.args_setit_iter _))
  show wpAny _ _ (ret (.ref I)) _ _ s
  exact wpAny_pure ⟨_, rfl, "set_iterator", _, hT, PySem.F.slot_setit_next.lookup, h⟩
end
/-! ### its three roads -/
/-- what setNext gives, place by place -/
structure SetNx (prog : Program) (w : World) (S : Addr) (es : Array (Int × Value)) (ep : Nat) (t : SetTable) (slotAt : Nat → Nat) (val : Nat → Value) : Prop where
  zero : slotAt 0 = 0
  item : ∀ (i : Nat) (s : Shared) (o : Obj), i < es.size → s.heap.get? S = some o → o.data = .set es ep t → ∀ (A' : Around) (Q' : Option (Value × Nat) → Shared → Prop) (E' : Value → Shared → Prop), Q' (some (val i, slotAt (i + 1))) s → wpAny (model prog w) A' (setNext S (slotAt i) i ep) Q' E' s
  done : ∀ (s : Shared) (o : Obj), s.heap.get? S = some o → o.data = .set es ep t → ∀ (A' : Around) (Q' : Option (Value × Nat) → Shared → Prop) (E' : Value → Shared → Prop), Q' none s → wpAny (model prog w) A' (setNext S (slotAt es.size) es.size ep) Q' E' s
  perm : ((List.range es.size).map val).Perm (es.toList.map (·.2))
theorem range_map_getD {α : Type} (xs : List α) (d : α) : (List.range xs.length).map (fun i => xs.getD i d) = xs := by
  apply List.ext_getElem
  · simp
  · intro i h1 h2
    simp [List.getD, h2]
section
variable {prog : Program} {w : World} {S : Addr} {es : Array (Int × Value)} {ep : Nat} {t : SetTable}
theorem setnx_text (hw : w.params.followText "set-order" = true) (hf : t.fits es.size = true) :
    SetNx prog w S es ep t (fun _ => 0) (fun i => ((pickOrder (w.params.setOrder S ep) es).toList.getD i (0, .none)).2) := by
  have hp := pick_perm (w.params.setOrder S ep) es
  have hl : (pickOrder (w.params.setOrder S ep) es).toList.length = es.size := by rw [hp.length_eq, Array.length_toList]
  have core : ∀ (i : Nat) (s : Shared) (o : Obj), s.heap.get? S = some o → o.data = .set es ep t → ∀ (A' : Around) (Q' : Option (Value × Nat) → Shared → Prop) (E' : Value → Shared → Prop), Q' (((pickOrder (w.params.setOrder S ep) es)[i]?).map fun e => (e.2, 0)) s → wpAny (model prog w) A' (setNext S 0 i ep) Q' E' s := by
    intro i s o ho hd A' Q' E' h
    unfold setNext
    refine wpAny_bind (wpAny_setState_of ho hd hf ?_)
    dsimp only
    unfold setsByText
    refine wpAny_bind (wpAny_bind (wpAny_askSetting (wpAny_pure ?_)))
    show wpAny _ _ (if w.params.followText "set-order" = true then _ else _) _ _ _
    rw [if_pos (show w.params.followText "set-order" = true from hw)]
    rw [if_neg (by simp)]
    refine wpAny_bind ?_
    unfold setWalk
    refine wpAny_bind (wpAny_setState_of ho hd hf ?_)
    dsimp only
    unfold setsByText
    refine wpAny_bind (wpAny_bind (wpAny_askSetting (wpAny_pure ?_)))
    show wpAny _ _ (if w.params.followText "set-order" = true then _ else _) _ _ _
    rw [if_pos (show w.params.followText "set-order" = true from hw)]
    exact wpAny_bind (wpAny_askSetting (wpAny_pure (wpAny_pure h)))
  refine ⟨rfl, fun i s o hi ho hd A' Q' E' h => core i s o ho hd A' Q' E' ?_, fun s o ho hd A' Q' E' h => core _ s o ho hd A' Q' E' ?_, ?_⟩
  · have hi' : i < (pickOrder (w.params.setOrder S ep) es).size := by rw [← Array.length_toList, hl]; exact hi
    rw [Array.getElem?_eq_getElem hi']
    have e : (pickOrder (w.params.setOrder S ep) es).toList.getD i (0, .none) = (pickOrder (w.params.setOrder S ep) es)[i] := by simp [List.getD, hi']
    rw [e] at h
    exact h
  · rw [Array.getElem?_eq_none (by rw [← Array.length_toList, hl]; exact Nat.le_refl _)]
    exact h
  · have := range_map_getD (pickOrder (w.params.setOrder S ep) es).toList (0, .none)
    rw [hl] at this
    have e2 : (List.range es.size).map (fun i => ((pickOrder (w.params.setOrder S ep) es).toList.getD i (0, .none)).2) = (pickOrder (w.params.setOrder S ep) es).toList.map (·.2) := by
      conv => rhs; rw [← this]
      rw [List.map_map]; rfl
    rw [e2]
    exact hp.map _
/-- a table's places in order: where the walk stands -/
def slotL (t : SetTable) (i : Nat) : Nat := if i = 0 then 0 else t.place.getD (i - 1) 0 + 1
theorem below_slot (R : RiseT t.place) {i : Nat} (hi : i ≤ t.place.size) : SetTable.below t.place (slotL t i) = i := by
  obtain ⟨b1, b2, b3⟩ := below_spec R (slotL t i)
  have h1 : ¬ SetTable.below t.place (slotL t i) < i := fun c => by
    have hl : SetTable.below t.place (slotL t i) < t.place.size := by omega
    have := b2 _ (Nat.le_refl _) hl
    unfold slotL at this c hl
    rw [if_neg (by omega)] at this c hl
    generalize hb : SetTable.below t.place (t.place.getD (i - 1) 0 + 1) = b at *
    rcases (by omega : b = i - 1 ∨ b < i - 1) with e | e
    · rw [e] at this; omega
    · have := R.lt e (show i - 1 < t.place.size by omega); omega
  have h2 : ¬ i < SetTable.below t.place (slotL t i) := fun c => by
    have := b1 i c
    unfold slotL at this
    split at this
    · omega
    · have := R.lt (show i - 1 < i by omega) (show i < t.place.size by omega)
      omega
  omega
theorem setnx_led (hw : w.params.followText "set-order" = false) (hf : t.fits es.size = true) (T : TabOk t true) (hd0 : (!t.plain && decide (es.size > 1)) = false) :
    SetNx prog w S es ep t (slotL t) (fun i => (es.toList.getD i (0, .none)).2) := by
  have hsz : t.place.size = es.size := by
    unfold SetTable.fits at hf
    simp at hf
    exact hf.1
  have core : ∀ (i : Nat) (s : Shared) (o : Obj), i ≤ es.size → s.heap.get? S = some o → o.data = .set es ep t → ∀ (A' : Around) (Q' : Option (Value × Nat) → Shared → Prop) (E' : Value → Shared → Prop),
      Q' (match es[i]?, t.place[i]? with | some (_, x), some j => some (x, j + 1) | _, _ => none) s → wpAny (model prog w) A' (setNext S (slotL t i) i ep) Q' E' s := by
    intro i s o hi ho hd A' Q' E' h
    unfold setNext
    refine wpAny_bind (wpAny_setState_of ho hd hf ?_)
    dsimp only
    unfold setsByText
    refine wpAny_bind (wpAny_bind (wpAny_askSetting (wpAny_pure ?_)))
    rw [if_neg (by rw [show (Setting.params ⟨(model prog w).prog, (model prog w).w.params⟩).followText "set-order" = false from hw]; exact Bool.false_ne_true)]
    show wpAny _ _ (if (!t.plain && decide (es.size > 1)) = true then _ else _) _ _ _
    rw [if_neg (by rw [hd0]; exact Bool.false_ne_true)]
    show wpAny _ _ ((if (!t.led && !es.isEmpty) = true then unsupported "set:maker-not-led" else pure PUnit.unit) >>= _) _ _ _
    rw [if_neg (by rw [T.led]; simp)]
    refine wpAny_bind (wpAny_pure ?_)
    rw [below_slot T.rise (by omega)]
    exact wpAny_pure h
  refine ⟨rfl, fun i s o hi ho hd A' Q' E' h => core i s o (Nat.le_of_lt hi) ho hd A' Q' E' ?_, fun s o ho hd A' Q' E' h => core _ s o (Nat.le_refl _) ho hd A' Q' E' ?_, ?_⟩
  · have hp : i < t.place.size := by omega
    rw [Array.getElem?_eq_getElem hi, Array.getElem?_eq_getElem hp]
    have e : es.toList.getD i (0, .none) = es[i] := by simp [List.getD, hi]
    have e2 : slotL t (i + 1) = t.place[i] + 1 := by unfold slotL; simp [Array.getD, hp]
    rw [e, e2] at h
    exact h
  · rw [Array.getElem?_eq_none (Nat.le_refl _)]
    exact h
  · have := range_map_getD es.toList (0, .none)
    rw [Array.length_toList] at this
    have e2 : (List.range es.size).map (fun i => (es.toList.getD i (0, .none)).2) = es.toList.map (·.2) := by
      conv => rhs; rw [← this]
      rw [List.map_map]; rfl
    rw [e2]
end
section
variable {prog : Program} {w : World} {A : Around} {I S : Addr} {o : Obj} {es : Array (Int × Value)} {ep : Nat} {t : SetTable}
theorem walk_setA {slotAt : Nat → Nat} {val : Nat → Value} (hh : A.handled = none) (hne : S ≠ I) (hd : o.data = .set es ep t) (hf : t.fits es.size = true) (N : SetNx prog w S es ep t slotAt val) :
    Walks prog w A I [I, S] [I] es.size (fun i v => v = val i) (fun i h => SetIt h I (.int (slotAt i) 0) i S es.size ep ∧ h.get? S = some o) where
  sub := fun b hb => by simp at hb; simp [hb]
  frame := fun _ _ _ st hk => ⟨hk I (by simp) _ st.1, hk S (by simp) _ st.2⟩
  item := fun i s Q E hi st hQ => setit_item st.1 st.2 hd hf (N.item i s o hi st.2 hd) fun h' hit hs => hQ _ h' s.toks rfl ⟨hit, hs.extBut _ _ hne st.2⟩ fun b ob hb e => hs.extBut b ob (fun z => hb (by simp [z])) e
  done := fun s Q E st hQ => setit_done hh st.1 st.2 hd hf (N.done s o st.2 hd) fun h' he => hQ h' s.toks fun b ob hb e => he b ob (fun z => hb (by simp [z])) e
  self := fun i s Q E st hQ => setit_self st.1 hQ
theorem walk_setB {T : Addr} {ot : Obj} {pm : List Nat} {c : Nat} (hh : A.handled = none) (hne : S ≠ I) (hnT : T ≠ I) (hd : o.data = .set es ep t) (hf : t.fits es.size = true) (hdT : ot.data = .seq (pm.map fun i : Nat => rawInt (i : Int)).toArray c) (hp : pm.Perm (List.range es.size)) :
    Walks prog w A I [I, S, T] [I] es.size (fun i v => v = (es.toList.getD (pm.getD i 0) (0, .none)).2) (fun i h => SetIt h I (.ref T) i S es.size ep ∧ h.get? S = some o ∧ h.get? T = some ot) where
  sub := fun b hb => by simp at hb; simp [hb]
  frame := fun _ _ _ st hk => ⟨hk I (by simp) _ st.1, hk S (by simp) _ st.2.1, hk T (by simp) _ st.2.2⟩
  item := fun i s Q E hi st hQ => by
    have hl : pm.length = es.size := by rw [hp.length_eq, List.length_range]
    have hi' : i < pm.length := by omega
    have hm : pm[i] < es.size := by
      have := hp.mem_iff.mp (List.getElem_mem hi')
      simpa using this
    refine setit_itemB (pl := pm[i]) (e := es[pm[i]]) st.1 st.2.1 hd hf st.2.2 hdT ?_ (Array.getElem?_eq_getElem hm) fun h' hit hs => hQ _ h' s.toks ?_ ⟨hit, hs.extBut _ _ hne st.2.1, hs.extBut _ _ hnT st.2.2⟩ fun b ob hb e => hs.extBut b ob (fun z => hb (by simp [z])) e
    · rw [List.getElem?_toArray, List.getElem?_map, List.getElem?_eq_getElem hi']; rfl
    · have e1 : pm.getD i 0 = pm[i] := by simp [List.getD, hi']
      rw [e1]
      simp [List.getD, hm]
  done := fun s Q E st hQ => by
    have hl : pm.length = es.size := by rw [hp.length_eq, List.length_range]
    refine setit_doneB hh st.1 st.2.1 hd hf st.2.2 hdT ?_ fun h' he => hQ h' s.toks fun b ob hb e => he b ob (fun z => hb (by simp [z])) e
    rw [List.getElem?_toArray, List.getElem?_map, List.getElem?_eq_none (by omega)]; rfl
  self := fun i s Q E st hQ => setit_self st.1 hQ
end
end L2

namespace L2
open PySem PySem.Spec PyProof.Rows PySem.W PySem.Calls
section
variable {prog : Program} {w : World} {A : Around} {E : Value → Shared → Prop} {s : Shared} {S : Addr} {o : Obj} {es : Array (Int × Value)} {ep : Nat} {t : SetTable}
/-- iter(a set) -/
theorem set_iterG {Q : Value → Shared → Prop} (ho : s.heap.get? S = some o) (hex : o.ExactSet) (hd : o.data = .set es ep t) (hf : t.fits es.size = true) (hz : es.size ≤ sizeLine)
    (hA : w.params.followText "set-order" = true ∨ (!t.plain && decide (es.size > 1)) = false → Q (.ref s.heap.objs.size) { s with heap := s.heap.push { cls := .type "set_iterator", data := .fields #[.int 0 0, .int 0 0, .ref S, .int es.size 0, .int ep 0] } })
    (hB : ∀ (pm : List Nat) (d : Drawn), pm.Perm (List.range es.size) → Q (.ref (s.heap.objs.size + 1)) { s with drawn := d, heap := (s.heap.push { cls := .type "tuple", data := .seq (pm.map fun i : Nat => rawInt (i : Int)).toArray }).push { cls := .type "set_iterator", data := .fields #[.ref s.heap.objs.size, .int 0 0, .ref S, .int es.size 0, .int ep 0] } }) :
    wpAny (model prog w) A (pyIter (.ref S)) Q E s := by
  have hT : s.TypeIs (.ref S) "set" := ⟨o, ho, hex.1⟩
  refine wpAny_pyIter_slot hT PySem.F.slot_set_iter (wpAny_call_entry PySem.F.slot_set_iter hT PySem.F.entry_set_iterG ?_ (PySem.F.args_set_iter_1 _))
  unfold Builtin.«frozenset.__iter__» Builtin.Frozenset.slot0 slotArgs
  simp only [List.isEmpty_nil, Bool.not_true, Bool.false_eq_true, ↓reduceIte, bind_assoc, List.length_nil, bne_self_eq_false]
  unfold Builtin.Frozenset.addrOf Builtin.Frozenset.sizeOf
  refine wpAny_bind (wpAny_pure ?_)
  try dsimp only
  refine wpAny_bind (wpAny_pure ?_)
  refine wpAny_bind (wpAny_bind (wpAny_setEntries_of ho hd hf (wpAny_pure ?_)))
  have key : ∀ (first : Value) (s₁ : Shared) (Q' : Value → Shared → Prop), s₁.heap.get? S = some o → Q' (.ref s₁.heap.objs.size) { s₁ with heap := s₁.heap.push { cls := .type "set_iterator", data := .fields #[first, .int 0 0, .ref S, .int es.size 0, .int ep 0] } } →
      wpAny (model prog w) A.in1 (do ret (← newFields "set_iterator" [first, rawInt 0, .ref S, rawInt es.size, rawInt (← setEpoch S)])) (fun fin s' => ∃ r, fin = .done (.ret r) ∧ Q' r s') E s₁ := by
    intro first s₁ Q' ho₁ h
    unfold setEpoch
    refine wpAny_bind (wpAny_bind (wpAny_setState_of ho₁ hd hf (wpAny_pure ?_)))
    refine wpAny_bind (wpAny_newObj_type (wpAny_pure ⟨_, rfl, ?_⟩) (by size_fits))
    simpa [rawInt] using h
  have post : ∀ (first : Value) (s₁ : Shared) (Q' : Value → Shared → Prop), Q' (.ref s₁.heap.objs.size) { s₁ with heap := s₁.heap.push { cls := .type "set_iterator", data := .fields #[first, .int 0 0, .ref S, .int es.size 0, .int ep 0] } } →
      ∃ T' r, Shared.TypeIs { s₁ with heap := s₁.heap.push { cls := .type "set_iterator", data := .fields #[first, .int 0 0, .ref S, .int es.size 0, .int ep 0] } } (.ref s₁.heap.objs.size) T' ∧ typeLookup (.type T') "__next__" = pure (some r) ∧ Q' (.ref s₁.heap.objs.size) { s₁ with heap := s₁.heap.push { cls := .type "set_iterator", data := .fields #[first, .int 0 0, .ref S, .int es.size 0, .int ep 0] } } :=
    fun first s₁ Q' h => ⟨"set_iterator", _, ⟨_, Heap.get?_push_size _ rfl, rfl⟩, PySem.F.slot_setit_next.lookup, h⟩
  refine wpAny_bind ?_
  unfold setDrawn
  refine wpAny_bind (wpAny_setState_of ho hd hf ?_)
  dsimp only
  unfold setsByText
  refine wpAny_bind (wpAny_bind (wpAny_askSetting (wpAny_pure ?_)))
  refine wpAny_pure ?_
  show wpAny _ _ (if (!(w.params.followText "set-order") && (!t.plain && decide (es.size > 1))) = true then _ else _) _ _ _
  by_cases hc : (!(w.params.followText "set-order") && (!t.plain && decide (es.size > 1))) = true
  · rw [if_pos hc]
    refine wpAny_bind (wp_drawOrder _ _ _ _ (by rw [List.length_range]) fun pm d hp => ?_)
    refine wpAny_bind (wpAny_newTuple ?_ (by rw [List.length_map, hp.length_eq, List.length_range]; exact hz))
    refine key _ _ (fun it s' => ∃ T' r, s'.TypeIs it T' ∧ typeLookup (.type T') "__next__" = pure (some r) ∧ Q it s') (Heap.get?_push_of_some _ ho) (post _ _ _ ?_)
    have := hB pm d hp
    rw [← size_push' s.heap { cls := .type "tuple", data := .seq (pm.map fun i : Nat => rawInt (i : Int)).toArray }] at this
    exact this
  · rw [if_neg hc]
    refine wpAny_bind (wpAny_pure ?_)
    refine key _ _ (fun it s' => ∃ T' r, s'.TypeIs it T' ∧ typeLookup (.type T') "__next__" = pure (some r) ∧ Q it s') ho (post _ _ _ (hA ?_))
    cases hw : w.params.followText "set-order" with
    | true => exact .inl rfl
    | false => rw [hw] at hc; exact .inr (by simpa using hc)
theorem set_hint (hT : s.TypeIs (.ref S) "set") {Q : Bool → Shared → Prop} (h : Q false s) : wpAny (model prog w) A (Builtin.List.listLengthHint (.ref S)) Q E s := by
  unfold Builtin.List.listLengthHint
  refine wpAny_bind (wpAny_specialOf hT PySem.F.len_setG ?_)
  generalize hid : ("set.__len__" : String) = id0
  wp_delta
  rw [show splitId id0 = some ("set", "__len__") from by subst hid; decide +kernel]
  subst hid
  refine wpAny_bind (wpAny_isInstance (T := "set") (b := true) hT (by rw [isSubtype_type]; kernel_rfl) ?_)
  refine wpAny_ite_split (fun hab => absurd hab (by decide)) (fun _ => ?_)
  refine wpAny_ite_split (fun _ => ?_) (fun hab => absurd (by decide +kernel) hab)
  refine wpAny_bind (wpAny_typeOf hT ?_)
  exact wpAny_pure h
theorem ints_of {val : Nat → Value} {acc : Array Value} (hel : ElemsOf (intKind prog w) es.toList) (hp : ((List.range es.size).map val).Perm (es.toList.map (·.2))) (ha : ItemsOf (fun i v => v = val i) acc es.size) : ∃ ns, IntsAre acc.toList ns ∧ ns.Perm (dsOf es) := by
  have e : acc.toList = (List.range es.size).map val := by
    apply List.ext_getElem
    · rw [Array.length_toList, ha.1, List.length_map, List.length_range]
    · intro i h1 h2
      have hi : i < acc.size := by simpa using h1
      have := ha.2 i acc[i] (Array.getElem?_eq_getElem hi)
      simp [this]
  rw [← e] at hp
  have all : ∀ v ∈ acc.toList, ∃ tk, v = .int (intOf v) tk := fun v hv => by
    obtain ⟨x, hx, rfl⟩ := List.mem_map.mp (hp.mem_iff.mp hv)
    exact elems_int hel hx
  refine ⟨acc.toList.map intOf, ?_, ?_⟩
  · generalize acc.toList = l at all
    induction l with
    | nil => exact .nil
    | cons v r ih =>
      obtain ⟨tk, e⟩ := all v List.mem_cons_self
      have := IntsAre.cons (intOf v) tk (ih fun u hu => all u (List.mem_cons_of_mem _ hu))
      rw [← e] at this
      exact this
  · have := hp.map intOf
    rw [List.map_map] at this
    exact this
/-- what a set holds, in some order -/
theorem set_collectG {R : List Value → Shared → Prop} {ds : List Int} (hh : A.handled = none) (hS : SetG prog w (ledW w) s.heap S ds)
    (h : ∀ (s' : Shared) (vs : List Value) (ns : List Int), (∀ b ob, s.heap.get? b = some ob → s'.heap.get? b = some ob) → s'.gens = s.gens → s'.os = s.os → IntsAre vs ns → ns.Perm ds → R vs s') :
    wpAny (model prog w) A (collect (.ref S)) R E s := by
  obtain ⟨o, es, ep, t, ho, hex, hd, hel, hb, hf, T, rfl, nd⟩ := hS
  have hz : es.size ≤ sizeLine := by rw [sizeLine_eq]; unfold scanBound at hb; omega
  have hSl : S < s.heap.objs.size := Heap.lt_size ho
  obtain ⟨L, hLdef⟩ : ∃ L, L = s.heap.objs.size := ⟨_, rfl⟩
  unfold collect
  refine wpAny_bind (wpAny_runValue (codeAny_builtin entry_proto_collect' ?_))
  rw [Around.under_plainId PySem.F.plain_proto_collect _]
  show wpAny _ A.in1 (newList [] >>= fun l => again (.builtin "list.__iadd__" ⟨[l, .ref S], []⟩)) _ _ s
  refine wpAny_bind (wpAny_newObj_type ?_)
  refine wpAny_pure ⟨plainId_quiet PySem.F.plain_list_iadd _, codeAny_builtin entry_list_iadd' ?_⟩
  rw [Around.under_plainId PySem.F.plain_list_iadd _]
  have hS₁ : (s.heap.push { cls := .type "list", data := .seq ([] : List Value).toArray }).get? s.heap.objs.size = some { cls := .type "list", data := .seq #[] } := Heap.get?_push_size _ rfl
  have hz₁ : (s.heap.push { cls := .type "list", data := .seq ([] : List Value).toArray }).objs.size = s.heap.objs.size + 1 := size_push' _ _
  have ho₁ : (s.heap.push { cls := .type "list", data := .seq ([] : List Value).toArray }).get? S = some o := Heap.get?_push_of_some _ ho
  have hk₁ : ∀ b ob, s.heap.get? b = some ob → (s.heap.push { cls := .type "list", data := .seq ([] : List Value).toArray }).get? b = some ob := fun b ob e => Heap.get?_push_of_some _ e
  show wpAny _ A.in1 (Builtin.List.listExtendWith (.ref s.heap.objs.size) (.ref S) (.ref s.heap.objs.size)) _ _ { s with heap := s.heap.push { cls := .type "list", data := .seq ([] : List Value).toArray } }
  generalize s.heap.push { cls := .type "list", data := .seq ([] : List Value).toArray } = hp₁ at hS₁ hz₁ ho₁ hk₁ ⊢
  unfold Builtin.List.listExtendWith
  refine wpAny_bind (wpAny_typeOf (T := "set") ⟨o, ho₁, hex.1⟩ ?_)
  have h1 : Builtin.List.listSameRef (.ref s.heap.objs.size) (.ref S) = false := by simp [Builtin.List.listSameRef]; exact Nat.ne_of_gt hSl
  have h2 : (Value.type "set" == Value.type "list") = false := by decide
  have h3 : (Value.type "set" == Value.type "tuple") = false := by decide
  simp only [h1, h2, h3, Bool.or_false, Bool.false_eq_true, if_false]
  refine wpAny_bind (set_iterG (s := { s with heap := hp₁ }) ho₁ hex hd hf hz (fun hcase => ?_) (fun pm d hpm => ?_))
  · obtain ⟨slotAt, val, N⟩ : ∃ slotAt val, SetNx prog w S es ep t slotAt val := by
      cases hw : w.params.followText "set-order" with
      | true => exact ⟨_, _, setnx_text hw hf⟩
      | false =>
        have T' : TabOk t true := by have := T; unfold ledW at this; rw [hw] at this; exact this
        rcases hcase with z | z
        · rw [hw] at z; cases z
        · exact ⟨_, _, setnx_led hw hf T' z⟩
    have hI : (hp₁.push { cls := .type "set_iterator", data := .fields #[.int 0 0, .int 0 0, .ref S, .int es.size 0, .int ep 0] }).get? hp₁.objs.size = some { cls := .type "set_iterator", data := .fields #[.int 0 0, .int 0 0, .ref S, .int es.size 0, .int ep 0] } := Heap.get?_push_size _ rfl
    have hk₂ : ∀ b ob, hp₁.get? b = some ob → (hp₁.push { cls := .type "set_iterator", data := .fields #[.int 0 0, .int 0 0, .ref S, .int es.size 0, .int ep 0] }).get? b = some ob := fun b ob e => Heap.get?_push_of_some _ e
    show wpAny _ _ _ _ _ { s with heap := hp₁.push { cls := .type "set_iterator", data := .fields #[.int 0 0, .int 0 0, .ref S, .int es.size 0, .int ep 0] } }
    generalize hp₁.push { cls := .type "set_iterator", data := .fields #[.int 0 0, .int 0 0, .ref S, .int es.size 0, .int ep 0] } = hp₂ at hI hk₂ ⊢
    obtain ⟨I, eI⟩ : ∃ I, I = hp₁.objs.size := ⟨_, rfl⟩
    dsimp only
    rw [← eI] at hI ⊢
    have hIL : s.heap.objs.size < I := by omega
    have W := (walk_setA (A := A.in1) (I := I) (S := S) (o := o) (show A.in1.handled = none from hh) (Nat.ne_of_lt (Nat.lt_trans hSl hIL)) hd hf N).toS
    have hLf : s.heap.objs.size ∉ [I, S] := by
      simp only [List.mem_cons, List.not_mem_nil, or_false, not_or]
      exact ⟨Nat.ne_of_lt hIL, Nat.ne_of_gt hSl⟩
    have st : SetIt hp₂ I (.int (slotAt 0) 0) 0 S es.size ep ∧ hp₂.get? S = some o := ⟨by rw [N.zero]; exact hI, hk₂ _ _ ho₁⟩
    have fin : ∀ (h₀ : Heap), (∀ b ob, b ≠ s.heap.objs.size → hp₂.get? b = some ob → h₀.get? b = some ob) → ∀ s' acc, Moved [s.heap.objs.size, I] (fun a b => b = a) { s with heap := h₀ } s' → ItemsOf (fun i v => v = val i) acc es.size → R acc.toList s' := fun h₀ hk₀ s' acc hm ha => by
      obtain ⟨ns, hI', hp'⟩ := ints_of hel N.perm ha
      refine h s' _ ns (fun b ob e => ?_) hm.gens hm.os hI' hp'
      have hbl : b < s.heap.objs.size := Heap.lt_size e
      exact hm.heap b ob (by simp only [List.mem_cons, List.not_mem_nil, or_false, not_or]; exact ⟨Nat.ne_of_lt hbl, Nat.ne_of_lt (Nat.lt_trans hbl hIL)⟩) (hk₀ b ob (Nat.ne_of_lt hbl) (hk₂ b ob (hk₁ b ob e)))
    clear h
    refine wpAny_bind (wpAny_holding (set_hint ⟨o, hk₂ _ _ ho₁, hex.1⟩ ?_))
    refine wpAny_ite_split (fun _ => ?_) (fun _ => wpAny_pure ⟨plainId_quiet PySem.F.plain_extend_loop _, codeAny_extend_loopS W hz _ hLf _ es.size 0 _ _ _ rfl (Nat.zero_le _) st (hk₂ _ _ hS₁) (ItemsOf.nil _) fun s' acc' c' hm hS' hacc => ?_⟩)
    · refine wpAny_bind (wpAny_rule ?_)
      refine wpAny_bind ?_
      show wpAny _ _ (updateSeq s.heap.objs.size (·.push .none) >>= fun _ => updateSeq s.heap.objs.size (·.pop)) _ _ _
      have hL₂ := hk₂ _ _ hS₁
      refine wpAny_bind (wpAny_updateSeq hL₂ rfl ?_)
      have hL₃ := Heap.get?_update_self (Obj.mapSeq (·.push Value.none)) hL₂ rfl
      refine wpAny_updateSeq (hz := by seq_fits) hL₃ rfl ?_
      have hL₄ := Heap.get?_update_self (Obj.mapSeq (·.pop)) hL₃ rfl
      have oth : ∀ b ob, b ≠ s.heap.objs.size → hp₂.get? b = some ob → ((hp₂.update s.heap.objs.size (Obj.mapSeq (·.push Value.none))).update s.heap.objs.size (Obj.mapSeq (·.pop))).get? b = some ob := fun b ob hb e => (Heap.get?_update_other _ _ (Ne.symm hb)).trans ((Heap.get?_update_other _ _ (Ne.symm hb)).trans e)
      refine wpAny_pure ⟨plainId_quiet PySem.F.plain_extend_loop _, codeAny_extend_loopS W hz _ hLf _ es.size 0 _ _ _ rfl (Nat.zero_le _) ⟨oth _ _ (Nat.ne_of_gt hIL) st.1, oth _ _ (Nat.ne_of_lt hSl) st.2⟩ hL₄ (ItemsOf.nil _) fun s' acc' c' hm hS' hacc => ?_⟩
      show wpAny _ A (load s.heap.objs.size >>= _) _ _ s'
      refine wpAny_bind (wpAny_load hS' ?_)
      exact wpAny_pure (fin _ oth s' acc' hm hacc)
    · show wpAny _ A (load s.heap.objs.size >>= _) _ _ s'
      refine wpAny_bind (wpAny_load hS' ?_)
      exact wpAny_pure (fin _ (fun b ob _ e => e) s' acc' hm hacc)
  · have hI : ((hp₁.push { cls := .type "tuple", data := .seq (pm.map fun i : Nat => rawInt (i : Int)).toArray }).push { cls := .type "set_iterator", data := .fields #[.ref hp₁.objs.size, .int 0 0, .ref S, .int es.size 0, .int ep 0] }).get? (hp₁.objs.size + 1) = some { cls := .type "set_iterator", data := .fields #[.ref hp₁.objs.size, .int 0 0, .ref S, .int es.size 0, .int ep 0] } := by
      rw [← size_push' hp₁ { cls := .type "tuple", data := .seq (pm.map fun i : Nat => rawInt (i : Int)).toArray }]
      exact Heap.get?_push_size _ rfl
    have hTu : ((hp₁.push { cls := .type "tuple", data := .seq (pm.map fun i : Nat => rawInt (i : Int)).toArray }).push { cls := .type "set_iterator", data := .fields #[.ref hp₁.objs.size, .int 0 0, .ref S, .int es.size 0, .int ep 0] }).get? hp₁.objs.size = some { cls := .type "tuple", data := .seq (pm.map fun i : Nat => rawInt (i : Int)).toArray } := Heap.get?_push_of_some _ (Heap.get?_push_size _ rfl)
    have hk₂ : ∀ b ob, hp₁.get? b = some ob → ((hp₁.push { cls := .type "tuple", data := .seq (pm.map fun i : Nat => rawInt (i : Int)).toArray }).push { cls := .type "set_iterator", data := .fields #[.ref hp₁.objs.size, .int 0 0, .ref S, .int es.size 0, .int ep 0] }).get? b = some ob := fun b ob e => Heap.get?_push_of_some _ (Heap.get?_push_of_some _ e)
    show wpAny _ _ _ _ _ { s with drawn := d, heap := (hp₁.push { cls := .type "tuple", data := .seq (pm.map fun i : Nat => rawInt (i : Int)).toArray }).push { cls := .type "set_iterator", data := .fields #[.ref hp₁.objs.size, .int 0 0, .ref S, .int es.size 0, .int ep 0] } }
    generalize (hp₁.push { cls := .type "tuple", data := .seq (pm.map fun i : Nat => rawInt (i : Int)).toArray }).push { cls := .type "set_iterator", data := .fields #[.ref hp₁.objs.size, .int 0 0, .ref S, .int es.size 0, .int ep 0] } = hp₂ at hI hTu hk₂ ⊢
    obtain ⟨I, eI⟩ : ∃ I, I = hp₁.objs.size + 1 := ⟨_, rfl⟩
    obtain ⟨Tu, eT⟩ : ∃ Tu, Tu = hp₁.objs.size := ⟨_, rfl⟩
    dsimp only
    rw [← eI, ← eT] at hI
    rw [← eT] at hTu
    rw [← eI]
    have hIL : s.heap.objs.size < I := by omega
    have hTL : s.heap.objs.size < Tu := by omega
    have W := (walk_setB (prog := prog) (w := w) (A := A.in1) (I := I) (S := S) (T := Tu) (o := o) (pm := pm) (c := 0) (ot := { cls := .type "tuple", data := .seq (pm.map fun i : Nat => rawInt (i : Int)).toArray }) (show A.in1.handled = none from hh) (Nat.ne_of_lt (Nat.lt_trans hSl hIL)) (by rw [eT, eI]; exact Nat.ne_of_lt (Nat.lt_succ_self _)) hd hf rfl hpm).toS
    have hLf : s.heap.objs.size ∉ [I, S, Tu] := by
      simp only [List.mem_cons, List.not_mem_nil, or_false, not_or]
      exact ⟨Nat.ne_of_lt hIL, Nat.ne_of_gt hSl, Nat.ne_of_lt hTL⟩
    have st : SetIt hp₂ I (.ref Tu) 0 S es.size ep ∧ hp₂.get? S = some o ∧ hp₂.get? Tu = some { cls := .type "tuple", data := .seq (pm.map fun i : Nat => rawInt (i : Int)).toArray } := ⟨hI, hk₂ _ _ ho₁, hTu⟩
    have pp : ((List.range es.size).map fun i => (es.toList.getD (pm.getD i 0) (0, .none)).2).Perm (es.toList.map (·.2)) := by
      have lp : pm.length = es.size := by rw [hpm.length_eq, List.length_range]
      have e1 : (List.range es.size).map (fun i => (es.toList.getD (pm.getD i 0) (0, .none)).2) = pm.map fun j => (es.toList.getD j (0, .none)).2 := by
        have := range_map_getD pm 0
        rw [lp] at this
        conv => rhs; rw [← this]
        rw [List.map_map]; rfl
      have e2 : es.toList.map (·.2) = (List.range es.size).map fun j => (es.toList.getD j (0, .none)).2 := by
        have := range_map_getD es.toList (0, .none)
        rw [Array.length_toList] at this
        conv => lhs; rw [← this]
        rw [List.map_map]; rfl
      rw [e1, e2]
      exact hpm.map _
    have fin : ∀ (h₀ : Heap), (∀ b ob, b ≠ s.heap.objs.size → hp₂.get? b = some ob → h₀.get? b = some ob) → ∀ s' acc, Moved [s.heap.objs.size, I] (fun a b => b = a) { s with drawn := d, heap := h₀ } s' → ItemsOf (fun i v => v = (es.toList.getD (pm.getD i 0) (0, .none)).2) acc es.size → R acc.toList s' := fun h₀ hk₀ s' acc hm ha => by
      obtain ⟨ns, hI', hp'⟩ := ints_of hel pp ha
      refine h s' _ ns (fun b ob e => ?_) hm.gens hm.os hI' hp'
      have hbl : b < s.heap.objs.size := Heap.lt_size e
      exact hm.heap b ob (by simp only [List.mem_cons, List.not_mem_nil, or_false, not_or]; exact ⟨Nat.ne_of_lt hbl, Nat.ne_of_lt (Nat.lt_trans hbl hIL)⟩) (hk₀ b ob (Nat.ne_of_lt hbl) (hk₂ b ob (hk₁ b ob e)))
    clear h
    refine wpAny_bind (wpAny_holding (set_hint ⟨o, hk₂ _ _ ho₁, hex.1⟩ ?_))
    refine wpAny_ite_split (fun _ => ?_) (fun _ => wpAny_pure ⟨plainId_quiet PySem.F.plain_extend_loop _, codeAny_extend_loopS W hz _ hLf _ es.size 0 _ _ _ rfl (Nat.zero_le _) st (hk₂ _ _ hS₁) (ItemsOf.nil _) fun s' acc' c' hm hS' hacc => ?_⟩)
    · refine wpAny_bind (wpAny_rule ?_)
      refine wpAny_bind ?_
      show wpAny _ _ (updateSeq s.heap.objs.size (·.push .none) >>= fun _ => updateSeq s.heap.objs.size (·.pop)) _ _ _
      have hL₂ := hk₂ _ _ hS₁
      refine wpAny_bind (wpAny_updateSeq hL₂ rfl ?_)
      have hL₃ := Heap.get?_update_self (Obj.mapSeq (·.push Value.none)) hL₂ rfl
      refine wpAny_updateSeq (hz := by seq_fits) hL₃ rfl ?_
      have hL₄ := Heap.get?_update_self (Obj.mapSeq (·.pop)) hL₃ rfl
      have oth : ∀ b ob, b ≠ s.heap.objs.size → hp₂.get? b = some ob → ((hp₂.update s.heap.objs.size (Obj.mapSeq (·.push Value.none))).update s.heap.objs.size (Obj.mapSeq (·.pop))).get? b = some ob := fun b ob hb e => (Heap.get?_update_other _ _ (Ne.symm hb)).trans ((Heap.get?_update_other _ _ (Ne.symm hb)).trans e)
      refine wpAny_pure ⟨plainId_quiet PySem.F.plain_extend_loop _, codeAny_extend_loopS W hz _ hLf _ es.size 0 _ _ _ rfl (Nat.zero_le _) ⟨oth _ _ (Nat.ne_of_gt hIL) st.1, oth _ _ (Nat.ne_of_lt hSl) st.2.1, oth _ _ (Nat.ne_of_gt hTL) st.2.2⟩ hL₄ (ItemsOf.nil _) fun s' acc' c' hm hS' hacc => ?_⟩
      show wpAny _ A (load s.heap.objs.size >>= _) _ _ s'
      refine wpAny_bind (wpAny_load hS' ?_)
      exact wpAny_pure (fin _ oth s' acc' hm hacc)
    · show wpAny _ A (load s.heap.objs.size >>= _) _ _ s'
      refine wpAny_bind (wpAny_load hS' ?_)
      exact wpAny_pure (fin _ (fun b ob _ e => e) s' acc' hm hacc)
end
/-- sorted(a set of numbers) -/
def rSortS (prog : Program) (w : World) : List V → Hp → VK → Prop := fun xs H Q => ∃ (S : Addr) (ds : List Int), xs = [.ref S] ∧ H S = some (.ext (fun h => SetG prog w (ledW w) h S ds)) ∧ ds.length < 64 ∧
  ∀ (D : Addr) (ns : List Int), H D = none → ns.Perm ds → ns.Pairwise (· ≤ ·) → Q (.ref D) (upd H D (.lst (ns.map V.int)))
theorem call_sorted_set {X : Cx} (hc : X.calm = true) : CallR X (.builtin "sorted") (rSortS X.prog X.w) := by
  intro pins s σ H xs us Q I r h
  obtain ⟨S, ds, rfl, hS, l64, kq⟩ := h
  obtain ⟨u, rfl, rx⟩ := vals1 r
  cases rx
  obtain ⟨hG, _⟩ := (show ObjOk X.prog X.w H s.heap S (.ext (fun h => SetG X.prog X.w (ledW X.w) h S ds)) from I.hok S _ hS)
  refine Calls.call_function_entry kind_sorted plain_sorted entry_sorted (args_sorted1 _) ?_
  unfold Builtin.«sorted»
  refine wpAny_bind (m := checkCount "sorted" 1 1 _) (wpAny_pure ?_)
  refine wpAny_bind (set_collectG (A := X.A.in1) (I.ok.hd hc) hG fun s' vs ns hk hg ho hI hp => ?_)
  obtain ⟨h', g', d', tk', os'⟩ := s'
  have eg : g' = s.gens := hg
  have eo : os' = s.os := ho
  subst eg; subst eo
  have lv : vs.length = ns.length := IntsAre.length hI
  have ln : ns.length = ds.length := hp.length_eq
  have I1 : Inv X pins σ H { s with heap := h', gens := s.gens, drawn := d', toks := tk' } := I.step (g' := s.gens) (d' := d') (t' := tk') (h' := h') (H' := H) (ch := []) (fun b hb => (nomatch hb)) (fun b o _ _ _ e _ => hk b o e) (fun b o _ _ _ e _ => ⟨o.slots, hk b o e⟩) (fun b o _ _ n => n) (fun b o _ e => ⟨o, hk b o e⟩) (fun b xs e => e) (fun b o u e => e) (fun b ps e => ⟨#[], by rw [e]; simp⟩)
    (fun m hm => hm.at' fun o e => hk _ o e) (I.hok.laids hk (fun b u e => e) fun b u n e => by rw [n] at e; cases e) I.bare
  refine wpAny_bind (wpAny_newList ?_ (by rw [sizeLine_eq]; omega))
  have hoL : (h'.push (seqObj "list" vs.toArray 0)).get? h'.objs.size = some (seqObj "list" vs.toArray 0) := Heap.get?_push_size _ rfl
  refine wpAny_bind (wpAny_holding (wpAny_call_entry slot_list_sort ⟨_, hoL, rfl⟩ entry_list_sort (list_sort_tree (s := { s with heap := h'.push (seqObj "list" vs.toArray 0), drawn := d', toks := tk' }) hoL hI (by omega) fun out ns' a1 a2 a3 => ⟨_, rfl, ?_⟩) (args_list_sort _)))
  refine wpAny_pure ⟨_, rfl, ?_⟩
  have two : (∃ n, (sortedHeap (h'.push (seqObj "list" vs.toArray 0)) h'.objs.size vs out).get? h'.objs.size = some (seqObj "list" out n)) ∧ ∀ b o, b ≠ h'.objs.size → (h'.push (seqObj "list" vs.toArray 0)).get? b = some o → (sortedHeap (h'.push (seqObj "list" vs.toArray 0)) h'.objs.size vs out).get? b = some o := by
    generalize h'.push (seqObj "list" vs.toArray 0) = hh at hoL ⊢
    obtain ⟨e1, ho1⟩ : ∃ e1, (hh.update h'.objs.size (Obj.mapSeq fun _ => #[])).get? h'.objs.size = some (seqObj "list" #[] e1) := ⟨_, get?_update_seq hoL (fun _ => #[])⟩
    have ho2 := Heap.get?_push_of_some (seqObj "list" #[] 0) (Heap.get?_push_of_some (seqObj "tuple" vs.toArray 0) ho1)
    refine ⟨⟨_, get?_update_seq ho2 fun _ => out⟩, fun b o ne q => ?_⟩
    unfold sortedHeap
    rw [Heap.get?_update_ne _ _ _ _ ne]
    refine Heap.get?_push_of_some _ (Heap.get?_push_of_some _ ?_)
    rw [Heap.get?_update_ne _ _ _ _ ne]
    exact q
  obtain ⟨⟨n, hn⟩, hk2⟩ := two
  have hv2 := ints_valsI a1
  refine ⟨.ref h'.objs.size, _, I1.laid (a := h'.objs.size) (o := .lst (ns'.map V.int)) (t' := tk') (h' := sortedHeap (h'.push (seqObj "list" vs.toArray 0)) h'.objs.size vs out) (fun b o q => hk2 b o (Nat.ne_of_lt (Heap.lt_size q)) (Heap.get?_push_of_some _ q)) (Nat.le_refl _) ⟨?_, out.toList, n, hv2, by rw [Array.toArray_toList]; exact hn⟩, rfl, kq _ ns' (I1.hok.fresh (Nat.le_refl _)) (a2.trans hp) a3⟩
  rw [List.length_map, a2.length_eq, sizeLine_eq]; omega
end L2

namespace Gh
open PySem L2
def top (i : Nat) : Stmt := PySem.Challenge.pw_gaphand_k10_whole_wheel_parted.main.body.getD i (.Pass ⟨0, 0, 0, 0⟩)
abbrev st_greatest : Stmt := top 7
theorem sc_greatest : FnScope [] [] (defScope st_greatest) := ⟨rfl, rfl, rfl, by decide +kernel, rfl, by decide +kernel, by decide +kernel⟩
abbrev st_is_whole : Stmt := top 8
theorem sc_is_whole : FnScope ["value", "least", "most"] ["value", "least", "most"] (defScope st_is_whole) := ⟨rfl, rfl, rfl, by decide +kernel, rfl, by decide +kernel, by decide +kernel⟩
abbrev st_check_beats : Stmt := top 9
theorem sc_check_beats : FnScope ["what", "value", "least", "most"] ["what", "value", "least", "most"] (defScope st_check_beats) := ⟨rfl, rfl, rfl, by decide +kernel, rfl, by decide +kernel, by decide +kernel⟩
abbrev st_check_place : Stmt := top 10
theorem sc_check_place : FnScope ["wheel", "place"] ["wheel", "place"] (defScope st_check_place) := ⟨rfl, rfl, rfl, by decide +kernel, rfl, by decide +kernel, by decide +kernel⟩
abbrev st_Neighbours___init__ : Stmt := inClass (top 12) 0
theorem sc_Neighbours___init__ : FnScope ["self", "wheel"] ["self", "wheel"] (defScope st_Neighbours___init__) := ⟨rfl, rfl, rfl, by decide +kernel, rfl, by decide +kernel, by decide +kernel⟩
abbrev st_Neighbours_draw_ahead : Stmt := inClass (top 12) 1
theorem sc_Neighbours_draw_ahead : FnScope ["self", "most", "times"] ["self", "most"] (defScope st_Neighbours_draw_ahead) := ⟨rfl, rfl, rfl, by decide +kernel, rfl, by decide +kernel, by decide +kernel⟩
abbrev st_Neighbours_draw_behind : Stmt := inClass (top 12) 2
theorem sc_Neighbours_draw_behind : FnScope ["self", "most", "times"] ["self", "most"] (defScope st_Neighbours_draw_behind) := ⟨rfl, rfl, rfl, by decide +kernel, rfl, by decide +kernel, by decide +kernel⟩
abbrev st_common : Stmt := top 14
theorem sc_common : FnScope ["one", "other", "rest"] ["one", "other"] (defScope st_common) := ⟨rfl, rfl, rfl, by decide +kernel, rfl, by decide +kernel, by decide +kernel⟩
abbrev st_check_wheel : Stmt := top 15
theorem sc_check_wheel : FnScope ["size", "step", "start", "bound"] ["size", "step", "start"] (defScope st_check_wheel) := ⟨rfl, rfl, rfl, by decide +kernel, rfl, by decide +kernel, by decide +kernel⟩
abbrev st_Wheel___init__ : Stmt := inClass (top 16) 0
theorem sc_Wheel___init__ : FnScope ["self", "size", "step", "start"] ["self", "size", "step", "start"] (defScope st_Wheel___init__) := ⟨rfl, rfl, rfl, by decide +kernel, rfl, by decide +kernel, by decide +kernel⟩
abbrev st_Wheel_place : Stmt := inClass (top 16) 1
theorem sc_Wheel_place : FnScope ["self", "beat"] ["self", "beat"] (defScope st_Wheel_place) := ⟨rfl, rfl, rfl, by decide +kernel, rfl, by decide +kernel, by decide +kernel⟩
abbrev st_Wheel_reached : Stmt := inClass (top 16) 3
theorem sc_Wheel_reached : FnScope ["self", "beat"] ["self", "beat"] (defScope st_Wheel_reached) := ⟨rfl, rfl, rfl, by decide +kernel, rfl, by decide +kernel, by decide +kernel⟩
abbrev st_nearing : Stmt := top 18
theorem sc_nearing : FnScope ["wheel", "place", "rows", "beat", "far", "least", "zero", "times"] ["wheel", "place"] (defScope st_nearing) := ⟨rfl, rfl, rfl, by decide +kernel, rfl, by decide +kernel, by decide +kernel⟩
abbrev st_draw_within : Stmt := top 19
theorem sc_draw_within : FnScope ["zero", "far"] ["zero", "far"] (defScope st_draw_within) := ⟨rfl, rfl, rfl, by decide +kernel, rfl, by decide +kernel, by decide +kernel⟩
abbrev st_rounded_up : Stmt := top 20
theorem sc_rounded_up : FnScope ["number", "divisor"] ["number", "divisor"] (defScope st_rounded_up) := ⟨rfl, rfl, rfl, by decide +kernel, rfl, by decide +kernel, by decide +kernel⟩
abbrev st_nearest : Stmt := top 21
theorem sc_nearest : FnScope ["wheel", "many", "place", "found", "beat", "far", "on", "less", "times"] ["wheel", "many", "place"] (defScope st_nearest) := ⟨rfl, rfl, rfl, by decide +kernel, rfl, by decide +kernel, by decide +kernel⟩
abbrev st_first_in : Stmt := top 22
theorem sc_first_in : FnScope ["wheel", "low", "high", "wide", "beat", "far", "on", "less", "times"] ["wheel", "low", "high"] (defScope st_first_in) := ⟨rfl, rfl, rfl, by decide +kernel, rfl, by decide +kernel, by decide +kernel⟩
abbrev st_slanted : Stmt := top 24
theorem sc_slanted : FnScope ["many", "step", "start", "size", "total", "top", "slope"] ["many", "step", "start", "size"] (defScope st_slanted) := ⟨rfl, rfl, rfl, by decide +kernel, rfl, by decide +kernel, by decide +kernel⟩
abbrev st_count_in : Stmt := top 25
theorem sc_count_in : FnScope ["wheel", "many", "low", "high", "wide", "start"] ["wheel", "many", "low", "high"] (defScope st_count_in) := ⟨rfl, rfl, rfl, by decide +kernel, rfl, by decide +kernel, by decide +kernel⟩
abbrev st__law_cell_at : Stmt := top 27
theorem sc__law_cell_at : FnScope ["_law_script", "_law_k"] ["_law_script", "_law_k"] (defScope st__law_cell_at) := ⟨rfl, rfl, rfl, by decide +kernel, rfl, by decide +kernel, by decide +kernel⟩
abbrev st__law_whole : Stmt := top 28
theorem sc__law_whole : FnScope ["_law_found"] ["_law_found"] (defScope st__law_whole) := ⟨rfl, rfl, rfl, by decide +kernel, rfl, by decide +kernel, by decide +kernel⟩
abbrev st__law_divisor : Stmt := top 29
theorem sc__law_divisor : FnScope ["_law_one", "_law_other", "_law_rest"] ["_law_one", "_law_other"] (defScope st__law_divisor) := ⟨rfl, rfl, rfl, by decide +kernel, rfl, by decide +kernel, by decide +kernel⟩
abbrev st__law_wheel : Stmt := top 30
theorem sc__law_wheel : FnScope ["_law_script", "_law_cell", "_law_times", "_law_size", "_law_step", "_law_start"] ["_law_script"] (defScope st__law_wheel) := ⟨rfl, rfl, rfl, by decide +kernel, rfl, by decide +kernel, by decide +kernel⟩
abbrev st__law_most : Stmt := top 31
theorem sc__law_most : FnScope ["_law_lap", "_law_some"] ["_law_lap", "_law_some"] (defScope st__law_most) := ⟨rfl, rfl, rfl, by decide +kernel, rfl, by decide +kernel, by decide +kernel⟩
abbrev st__law_far : Stmt := top 32
theorem sc__law_far : FnScope ["_law_numbers", "_law_beat", "_law_place", "_law_size", "_law_step", "_law_start"] ["_law_numbers", "_law_beat", "_law_place"] (defScope st__law_far) := ⟨rfl, rfl, rfl, by decide +kernel, rfl, by decide +kernel, by decide +kernel⟩
abbrev st__law_near : Stmt := top 33
theorem sc__law_near : FnScope ["_law_wheel_here", "_law_numbers", "_law_many", "_law_low", "_law_high", "_law_count", "_law_size", "_law_beat", "_law_far_here", "_law_spot"] ["_law_wheel_here", "_law_numbers", "_law_many", "_law_low", "_law_high", "_law_count"] (defScope st__law_near) := ⟨rfl, rfl, rfl, by decide +kernel, rfl, by decide +kernel, by decide +kernel⟩
abbrev st__law_first : Stmt := top 34
theorem sc__law_first : FnScope ["_law_wheel_here", "_law_many", "_law_low", "_law_high", "_law_count", "_law_beat"] ["_law_wheel_here", "_law_many", "_law_low", "_law_high", "_law_count"] (defScope st__law_first) := ⟨rfl, rfl, rfl, by decide +kernel, rfl, by decide +kernel, by decide +kernel⟩
abbrev st_law : Stmt := top 35
theorem sc_law : FnScope ["_law_script", "_law_size", "_law_step", "_law_start", "_law_lap", "_law_wheel_here", "_law_numbers", "_law_many", "_law_places", "_law_total", "_law_k", "_law_low", "_law_high", "_law_count"] ["_law_script"] (defScope st_law) := ⟨rfl, rfl, rfl, by decide +kernel, rfl, by decide +kernel, by decide +kernel⟩
structure Fn where
  f : Addr
  fd : FuncData
structure Adr where
  greatest : Fn
  is_whole : Fn
  check_beats : Fn
  check_place : Fn
  Neighbours___init__ : Fn
  Neighbours_draw_ahead : Fn
  Neighbours_draw_behind : Fn
  common : Fn
  check_wheel : Fn
  Wheel___init__ : Fn
  Wheel_place : Fn
  Wheel_reached : Fn
  nearing : Fn
  draw_within : Fn
  rounded_up : Fn
  nearest : Fn
  first_in : Fn
  slanted : Fn
  count_in : Fn
  _law_cell_at : Fn
  _law_whole : Fn
  _law_divisor : Fn
  _law_wheel : Fn
  _law_most : Fn
  _law_far : Fn
  _law_near : Fn
  _law_first : Fn
  law : Fn
  Nb : Addr
  W : Addr
  dflt : Addr
  HandError : Addr
  NoWheel : Addr
  NoBeats : Addr
  NoPlace : Addr
structure Txt (K : PySem.W.Frag) (mg : Str → Option Value) (a : Adr) : Prop where
  F_greatest : FunD K "greatest" "greatest" st_greatest .none a.greatest.f a.greatest.fd
  m_greatest : mg "greatest" = some (.ref a.greatest.f)
  F_is_whole : FunD K "is_whole" "is_whole" st_is_whole .none a.is_whole.f a.is_whole.fd
  m_is_whole : mg "is_whole" = some (.ref a.is_whole.f)
  F_check_beats : FunD K "check_beats" "check_beats" st_check_beats .none a.check_beats.f a.check_beats.fd
  m_check_beats : mg "check_beats" = some (.ref a.check_beats.f)
  F_check_place : FunD K "check_place" "check_place" st_check_place .none a.check_place.f a.check_place.fd
  m_check_place : mg "check_place" = some (.ref a.check_place.f)
  F_Neighbours___init__ : FunD K "__init__" "Neighbours.__init__" st_Neighbours___init__ .none a.Neighbours___init__.f a.Neighbours___init__.fd
  F_Neighbours_draw_ahead : FunD K "draw_ahead" "Neighbours.draw_ahead" st_Neighbours_draw_ahead .none a.Neighbours_draw_ahead.f a.Neighbours_draw_ahead.fd
  F_Neighbours_draw_behind : FunD K "draw_behind" "Neighbours.draw_behind" st_Neighbours_draw_behind .none a.Neighbours_draw_behind.f a.Neighbours_draw_behind.fd
  F_common : FunD K "common" "common" st_common .none a.common.f a.common.fd
  m_common : mg "common" = some (.ref a.common.f)
  F_check_wheel : FunD K "check_wheel" "check_wheel" st_check_wheel .none a.check_wheel.f a.check_wheel.fd
  m_check_wheel : mg "check_wheel" = some (.ref a.check_wheel.f)
  F_Wheel___init__ : FunD K "__init__" "Wheel.__init__" st_Wheel___init__ (.ref a.dflt) a.Wheel___init__.f a.Wheel___init__.fd
  F_Wheel_place : FunD K "place" "Wheel.place" st_Wheel_place .none a.Wheel_place.f a.Wheel_place.fd
  F_Wheel_reached : FunD K "reached" "Wheel.reached" st_Wheel_reached .none a.Wheel_reached.f a.Wheel_reached.fd
  F_nearing : FunD K "nearing" "nearing" st_nearing .none a.nearing.f a.nearing.fd
  m_nearing : mg "nearing" = some (.ref a.nearing.f)
  F_draw_within : FunD K "draw_within" "draw_within" st_draw_within .none a.draw_within.f a.draw_within.fd
  m_draw_within : mg "draw_within" = some (.ref a.draw_within.f)
  F_rounded_up : FunD K "rounded_up" "rounded_up" st_rounded_up .none a.rounded_up.f a.rounded_up.fd
  m_rounded_up : mg "rounded_up" = some (.ref a.rounded_up.f)
  F_nearest : FunD K "nearest" "nearest" st_nearest .none a.nearest.f a.nearest.fd
  m_nearest : mg "nearest" = some (.ref a.nearest.f)
  F_first_in : FunD K "first_in" "first_in" st_first_in .none a.first_in.f a.first_in.fd
  m_first_in : mg "first_in" = some (.ref a.first_in.f)
  F_slanted : FunD K "slanted" "slanted" st_slanted .none a.slanted.f a.slanted.fd
  m_slanted : mg "slanted" = some (.ref a.slanted.f)
  F_count_in : FunD K "count_in" "count_in" st_count_in .none a.count_in.f a.count_in.fd
  m_count_in : mg "count_in" = some (.ref a.count_in.f)
  F__law_cell_at : FunD K "_law_cell_at" "_law_cell_at" st__law_cell_at .none a._law_cell_at.f a._law_cell_at.fd
  m__law_cell_at : mg "_law_cell_at" = some (.ref a._law_cell_at.f)
  F__law_whole : FunD K "_law_whole" "_law_whole" st__law_whole .none a._law_whole.f a._law_whole.fd
  m__law_whole : mg "_law_whole" = some (.ref a._law_whole.f)
  F__law_divisor : FunD K "_law_divisor" "_law_divisor" st__law_divisor .none a._law_divisor.f a._law_divisor.fd
  m__law_divisor : mg "_law_divisor" = some (.ref a._law_divisor.f)
  F__law_wheel : FunD K "_law_wheel" "_law_wheel" st__law_wheel .none a._law_wheel.f a._law_wheel.fd
  m__law_wheel : mg "_law_wheel" = some (.ref a._law_wheel.f)
  F__law_most : FunD K "_law_most" "_law_most" st__law_most .none a._law_most.f a._law_most.fd
  m__law_most : mg "_law_most" = some (.ref a._law_most.f)
  F__law_far : FunD K "_law_far" "_law_far" st__law_far .none a._law_far.f a._law_far.fd
  m__law_far : mg "_law_far" = some (.ref a._law_far.f)
  F__law_near : FunD K "_law_near" "_law_near" st__law_near .none a._law_near.f a._law_near.fd
  m__law_near : mg "_law_near" = some (.ref a._law_near.f)
  F__law_first : FunD K "_law_first" "_law_first" st__law_first .none a._law_first.f a._law_first.fd
  m__law_first : mg "_law_first" = some (.ref a._law_first.f)
  F_law : FunD K "law" "law" st_law .none a.law.f a.law.fd
  me_draw_ahead : Meth K a.Nb "draw_ahead" a.Neighbours_draw_ahead.f
  me_draw_behind : Meth K a.Nb "draw_behind" a.Neighbours_draw_behind.f
  me_reached : Meth K a.W "reached" a.Wheel_reached.f
  m_Neighbours : mg "Neighbours" = some (.ref a.Nb)
  cl_Neighbours : Cls K a.Nb
  mk_Neighbours : Mk K a.Nb a.Neighbours___init__.f
  a_ahead : NoAttr K a.Nb "ahead"
  a_near : NoAttr K a.Nb "near"
  a_behind : NoAttr K a.Nb "behind"
  a_back : NoAttr K a.Nb "back"
  m_Wheel : mg "Wheel" = some (.ref a.W)
  cl : Cls K a.W
  mk_Wheel : Mk K a.W a.Wheel___init__.f
  a_size : NoAttr K a.W "size"
  a_step : NoAttr K a.W "step"
  a_start : NoAttr K a.W "start"
  a_lap : NoAttr K a.W "lap"
  dfl : ∃ o tk n, K.lookup a.dflt = some o ∧ o.data = .seq #[.int 0 tk] n
  m_NoWheel : mg "NoWheel" = some (.ref a.NoWheel)
  x_NoWheel : ExcCls K a.NoWheel
  m_NoBeats : mg "NoBeats" = some (.ref a.NoBeats)
  x_NoBeats : ExcCls K a.NoBeats
  m_NoPlace : mg "NoPlace" = some (.ref a.NoPlace)
  x_NoPlace : ExcCls K a.NoPlace
  n_bool : mg "bool" = none
  n_int : mg "int" = none
  n_isinstance : mg "isinstance" = none
  n_len : mg "len" = none
  n_min : mg "min" = none
  n_range : mg "range" = none
  n_set : mg "set" = none
  n_sorted : mg "sorted" = none
  ib : PySem.W.kitOne K (.type "int") (.type "bool") = some false
  ii : PySem.W.kitOne K (.type "int") (.type "int") = some true
theorem b_greatest {K : PySem.W.Frag} {mg : Str → Option Value} {a : Adr} (T : Txt K mg a) : Binds K a.greatest.fd [] [] := T.F_greatest.binds fun _ _ _ _ _ _ us hl => match us, hl with | [], _ => rfl
theorem b_is_whole {K : PySem.W.Frag} {mg : Str → Option Value} {a : Adr} (T : Txt K mg a) : Binds K a.is_whole.fd ["value", "least", "most"] [] := T.F_is_whole.binds fun _ _ _ _ _ _ us hl => match us, hl with | [_, _, _], _ => rfl
theorem b_check_beats {K : PySem.W.Frag} {mg : Str → Option Value} {a : Adr} (T : Txt K mg a) : Binds K a.check_beats.fd ["what", "value", "least", "most"] [] := T.F_check_beats.binds fun _ _ _ _ _ _ us hl => match us, hl with | [_, _, _, _], _ => rfl
theorem b_check_place {K : PySem.W.Frag} {mg : Str → Option Value} {a : Adr} (T : Txt K mg a) : Binds K a.check_place.fd ["wheel", "place"] [] := T.F_check_place.binds fun _ _ _ _ _ _ us hl => match us, hl with | [_, _], _ => rfl
theorem b_Neighbours___init__ {K : PySem.W.Frag} {mg : Str → Option Value} {a : Adr} (T : Txt K mg a) : Binds K a.Neighbours___init__.fd ["self", "wheel"] [] := T.F_Neighbours___init__.binds fun _ _ _ _ _ _ us hl => match us, hl with | [_, _], _ => rfl
theorem b_Neighbours_draw_ahead {K : PySem.W.Frag} {mg : Str → Option Value} {a : Adr} (T : Txt K mg a) : Binds K a.Neighbours_draw_ahead.fd ["self", "most"] [] := T.F_Neighbours_draw_ahead.binds fun _ _ _ _ _ _ us hl => match us, hl with | [_, _], _ => rfl
theorem b_Neighbours_draw_behind {K : PySem.W.Frag} {mg : Str → Option Value} {a : Adr} (T : Txt K mg a) : Binds K a.Neighbours_draw_behind.fd ["self", "most"] [] := T.F_Neighbours_draw_behind.binds fun _ _ _ _ _ _ us hl => match us, hl with | [_, _], _ => rfl
theorem b_common {K : PySem.W.Frag} {mg : Str → Option Value} {a : Adr} (T : Txt K mg a) : Binds K a.common.fd ["one", "other"] [] := T.F_common.binds fun _ _ _ _ _ _ us hl => match us, hl with | [_, _], _ => rfl
theorem b_check_wheel {K : PySem.W.Frag} {mg : Str → Option Value} {a : Adr} (T : Txt K mg a) : Binds K a.check_wheel.fd ["size", "step", "start"] [] := T.F_check_wheel.binds fun _ _ _ _ _ _ us hl => match us, hl with | [_, _, _], _ => rfl
theorem b_Wheel___init__ {K : PySem.W.Frag} {mg : Str → Option Value} {a : Adr} (T : Txt K mg a) : Binds K a.Wheel___init__.fd ["self", "size", "step", "start"] [] := by
  obtain ⟨o, tk, n, lk, hd⟩ := T.dfl
  obtain ⟨oc, od, kV, doc, pm, an, cdv, ct, osl, e, _, _⟩ := T.F_Wheel___init__.ex
  intro s us KX hl
  rw [e]
  have hl : us.length = 4 := by simpa using hl
  match us, hl with
  | [_, _, _, _], _ => exact BindsTo.of_defaults rfl (KX _ _ lk) hd rfl rfl
theorem b_Wheel_place {K : PySem.W.Frag} {mg : Str → Option Value} {a : Adr} (T : Txt K mg a) : Binds K a.Wheel_place.fd ["self", "beat"] [] := T.F_Wheel_place.binds fun _ _ _ _ _ _ us hl => match us, hl with | [_, _], _ => rfl
theorem b_Wheel_reached {K : PySem.W.Frag} {mg : Str → Option Value} {a : Adr} (T : Txt K mg a) : Binds K a.Wheel_reached.fd ["self", "beat"] [] := T.F_Wheel_reached.binds fun _ _ _ _ _ _ us hl => match us, hl with | [_, _], _ => rfl
theorem b_nearing {K : PySem.W.Frag} {mg : Str → Option Value} {a : Adr} (T : Txt K mg a) : Binds K a.nearing.fd ["wheel", "place"] [] := T.F_nearing.binds fun _ _ _ _ _ _ us hl => match us, hl with | [_, _], _ => rfl
theorem b_draw_within {K : PySem.W.Frag} {mg : Str → Option Value} {a : Adr} (T : Txt K mg a) : Binds K a.draw_within.fd ["zero", "far"] [] := T.F_draw_within.binds fun _ _ _ _ _ _ us hl => match us, hl with | [_, _], _ => rfl
theorem b_rounded_up {K : PySem.W.Frag} {mg : Str → Option Value} {a : Adr} (T : Txt K mg a) : Binds K a.rounded_up.fd ["number", "divisor"] [] := T.F_rounded_up.binds fun _ _ _ _ _ _ us hl => match us, hl with | [_, _], _ => rfl
theorem b_nearest {K : PySem.W.Frag} {mg : Str → Option Value} {a : Adr} (T : Txt K mg a) : Binds K a.nearest.fd ["wheel", "many", "place"] [] := T.F_nearest.binds fun _ _ _ _ _ _ us hl => match us, hl with | [_, _, _], _ => rfl
theorem b_first_in {K : PySem.W.Frag} {mg : Str → Option Value} {a : Adr} (T : Txt K mg a) : Binds K a.first_in.fd ["wheel", "low", "high"] [] := T.F_first_in.binds fun _ _ _ _ _ _ us hl => match us, hl with | [_, _, _], _ => rfl
theorem b_slanted {K : PySem.W.Frag} {mg : Str → Option Value} {a : Adr} (T : Txt K mg a) : Binds K a.slanted.fd ["many", "step", "start", "size"] [] := T.F_slanted.binds fun _ _ _ _ _ _ us hl => match us, hl with | [_, _, _, _], _ => rfl
theorem b_count_in {K : PySem.W.Frag} {mg : Str → Option Value} {a : Adr} (T : Txt K mg a) : Binds K a.count_in.fd ["wheel", "many", "low", "high"] [] := T.F_count_in.binds fun _ _ _ _ _ _ us hl => match us, hl with | [_, _, _, _], _ => rfl
theorem b__law_cell_at {K : PySem.W.Frag} {mg : Str → Option Value} {a : Adr} (T : Txt K mg a) : Binds K a._law_cell_at.fd ["_law_script", "_law_k"] [] := T.F__law_cell_at.binds fun _ _ _ _ _ _ us hl => match us, hl with | [_, _], _ => rfl
theorem b__law_whole {K : PySem.W.Frag} {mg : Str → Option Value} {a : Adr} (T : Txt K mg a) : Binds K a._law_whole.fd ["_law_found"] [] := T.F__law_whole.binds fun _ _ _ _ _ _ us hl => match us, hl with | [_], _ => rfl
theorem b__law_divisor {K : PySem.W.Frag} {mg : Str → Option Value} {a : Adr} (T : Txt K mg a) : Binds K a._law_divisor.fd ["_law_one", "_law_other"] [] := T.F__law_divisor.binds fun _ _ _ _ _ _ us hl => match us, hl with | [_, _], _ => rfl
theorem b__law_wheel {K : PySem.W.Frag} {mg : Str → Option Value} {a : Adr} (T : Txt K mg a) : Binds K a._law_wheel.fd ["_law_script"] [] := T.F__law_wheel.binds fun _ _ _ _ _ _ us hl => match us, hl with | [_], _ => rfl
theorem b__law_most {K : PySem.W.Frag} {mg : Str → Option Value} {a : Adr} (T : Txt K mg a) : Binds K a._law_most.fd ["_law_lap", "_law_some"] [] := T.F__law_most.binds fun _ _ _ _ _ _ us hl => match us, hl with | [_, _], _ => rfl
theorem b__law_far {K : PySem.W.Frag} {mg : Str → Option Value} {a : Adr} (T : Txt K mg a) : Binds K a._law_far.fd ["_law_numbers", "_law_beat", "_law_place"] [] := T.F__law_far.binds fun _ _ _ _ _ _ us hl => match us, hl with | [_, _, _], _ => rfl
theorem b__law_near {K : PySem.W.Frag} {mg : Str → Option Value} {a : Adr} (T : Txt K mg a) : Binds K a._law_near.fd ["_law_wheel_here", "_law_numbers", "_law_many", "_law_low", "_law_high", "_law_count"] [] := T.F__law_near.binds fun _ _ _ _ _ _ us hl => match us, hl with | [_, _, _, _, _, _], _ => rfl
theorem b__law_first {K : PySem.W.Frag} {mg : Str → Option Value} {a : Adr} (T : Txt K mg a) : Binds K a._law_first.fd ["_law_wheel_here", "_law_many", "_law_low", "_law_high", "_law_count"] [] := T.F__law_first.binds fun _ _ _ _ _ _ us hl => match us, hl with | [_, _, _, _, _], _ => rfl
end Gh

namespace Gh
open PySem L2
/-! ### neighbours of beat 0, and what their sums tell -/
structure Nbr (n s a x b y : Int) : Prop where
  a1 : 1 ≤ a
  x1 : 1 ≤ x
  b1 : 1 ≤ b
  y1 : 1 ≤ y
  ax : ∃ t, a * s = x + n * t
  yb : ∃ t, b * s + y = n * t
  det : b * x + a * y = n
structure Four (n s m a x b y : Int) : Prop extends Nbr n s a x b y where
  a2 : a < m
  b2 : b < m
  sum : m ≤ a + b
theorem Nbr.n1 {n s a x b y : Int} (F : Nbr n s a x b y) : 1 ≤ n := by
  have h1 := Int.mul_le_mul F.b1 F.x1 (by decide) (by have := F.b1; omega)
  have h2 := Int.mul_le_mul F.a1 F.y1 (by decide) (by have := F.a1; omega)
  have := F.det
  omega
theorem cancel {n p q : Int} (hn : 1 ≤ n) (h : n * p = n * q) : p = q := Int.eq_of_mul_eq_mul_left (by omega) h
theorem Nbr.basis {n s a x b y : Int} (F : Nbr n s a x b y) {k d t : Int} (h : d = k * s + n * t) : ∃ u v, k = u * a - v * b ∧ d = u * x + v * y := by
  obtain ⟨t1, h1⟩ := F.ax
  obtain ⟨t2, h2⟩ := F.yb
  have hd := F.det
  have n1 := F.n1
  refine ⟨k * t2 + t * b, k * t1 + t * a, cancel n1 ?_, cancel n1 ?_⟩
  · have e1 : n * (k * t2 + t * b) = k * y + d * b := by grind
    have e2 : n * (k * t1 + t * a) = d * a - k * x := by grind
    grind
  · have e1 : n * (k * t2 + t * b) = k * y + d * b := by grind
    have e2 : n * (k * t1 + t * a) = d * a - k * x := by grind
    grind
/-- between two first beats i and i + k: how far on -/
theorem Four.gap {n s m a x b y : Int} (F : Four n s m a x b y) {i k d t : Int} (h : d = k * s + n * t) (i0 : 0 ≤ i) (i1 : i < m) (k0 : 0 ≤ i + k) (k1 : i + k < m) (d0 : 0 < d) :
    (i + a < m → x ≤ d ∧ (d = x → k = a)) ∧ (b ≤ i → y ≤ d ∧ (d = y → k = -b)) ∧ (m ≤ i + a → i < b → x + y ≤ d ∧ (d = x + y → k = a - b)) := by
  obtain ⟨u, v, hk, hd⟩ := F.basis h
  have := F.a1; have := F.x1; have := F.b1; have := F.y1; have := F.sum; have := F.a2; have := F.b2
  -- neither u nor v is below 0
  have u0 : 0 ≤ u := by
    apply Decidable.byContradiction
    intro hu
    have v1 : 1 ≤ v := by
      apply Decidable.byContradiction
      intro hv
      have e1 : u * x ≤ -1 * x := Int.mul_le_mul_of_nonneg_right (by omega) (by omega)
      have e2 : v * y ≤ 0 * y := Int.mul_le_mul_of_nonneg_right (by omega) (by omega)
      omega
    have e1 : u * a ≤ -1 * a := Int.mul_le_mul_of_nonneg_right (by omega) (by omega)
    have e2 : 1 * b ≤ v * b := Int.mul_le_mul_of_nonneg_right (by omega) (by omega)
    omega
  have v0 : 0 ≤ v := by
    apply Decidable.byContradiction
    intro hv
    have u1 : 1 ≤ u := by
      apply Decidable.byContradiction
      intro hu
      have e1 : u * x ≤ 0 * x := Int.mul_le_mul_of_nonneg_right (by omega) (by omega)
      have e2 : v * y ≤ -1 * y := Int.mul_le_mul_of_nonneg_right (by omega) (by omega)
      omega
    have e1 : v * b ≤ -1 * b := Int.mul_le_mul_of_nonneg_right (by omega) (by omega)
    have e2 : 1 * a ≤ u * a := Int.mul_le_mul_of_nonneg_right (by omega) (by omega)
    omega
  have xu : u = 0 ∨ u = 1 ∨ 2 ≤ u := by omega
  have yv : v = 0 ∨ v = 1 ∨ 2 ≤ v := by omega
  have ux : 0 ≤ u * x := Int.mul_nonneg u0 (by omega)
  have vy : 0 ≤ v * y := Int.mul_nonneg v0 (by omega)
  have ua : 0 ≤ u * a := Int.mul_nonneg u0 (by omega)
  have vb : 0 ≤ v * b := Int.mul_nonneg v0 (by omega)
  have ux1 : 1 ≤ u → x ≤ u * x := fun h => by have := Int.mul_le_mul_of_nonneg_right h (by omega : 0 ≤ x); omega
  have vy1 : 1 ≤ v → y ≤ v * y := fun h => by have := Int.mul_le_mul_of_nonneg_right h (by omega : 0 ≤ y); omega
  have ua1 : 1 ≤ u → a ≤ u * a := fun h => by have := Int.mul_le_mul_of_nonneg_right h (by omega : 0 ≤ a); omega
  have vb1 : 1 ≤ v → b ≤ v * b := fun h => by have := Int.mul_le_mul_of_nonneg_right h (by omega : 0 ≤ b); omega
  have ux2 : 2 ≤ u → 2 * x ≤ u * x := fun h => Int.mul_le_mul_of_nonneg_right h (by omega : 0 ≤ x)
  have vy2 : 2 ≤ v → 2 * y ≤ v * y := fun h => Int.mul_le_mul_of_nonneg_right h (by omega : 0 ≤ y)
  have ua2 : 2 ≤ u → 2 * a ≤ u * a := fun h => Int.mul_le_mul_of_nonneg_right h (by omega : 0 ≤ a)
  have vb2 : 2 ≤ v → 2 * b ≤ v * b := fun h => Int.mul_le_mul_of_nonneg_right h (by omega : 0 ≤ b)
  rcases xu with rfl | rfl | hu <;> rcases yv with rfl | rfl | hv <;> (try simp only [Int.zero_mul, Int.one_mul] at *) <;> refine ⟨fun _ => ⟨?_, fun _ => ?_⟩, fun _ => ⟨?_, fun _ => ?_⟩, fun _ _ => ⟨?_, fun _ => ?_⟩⟩ <;> omega
structure IsLap (n s l : Int) : Prop where
  l1 : 1 ≤ l
  ln : l ≤ n
  back : ∃ t, l * s = n * t
  least : ∀ k, 0 < k → (∃ t, k * s = n * t) → l ≤ k
theorem Nbr.init {n s : Int} (h0 : 0 < s) (h1 : s < n) : Nbr n s 1 s 1 (n - s) := ⟨by omega, by omega, by omega, by omega, ⟨0, by omega⟩, ⟨1, by omega⟩, by omega⟩
theorem Nbr.ahead {n s a x b y t : Int} (F : Nbr n s a x b y) (t0 : 0 ≤ t) (ht : t * y < x) : Nbr n s (a + t * b) (x - t * y) b y := by
  obtain ⟨t1, h1⟩ := F.ax
  obtain ⟨t2, h2⟩ := F.yb
  have := F.a1; have := F.b1; have := F.y1; have hd := F.det
  have e : 0 ≤ t * b := Int.mul_nonneg t0 (by omega)
  refine ⟨by omega, by omega, F.b1, F.y1, ⟨t1 + t * t2, ?_⟩, ⟨t2, h2⟩, ?_⟩
  · grind
  · grind
theorem Nbr.behind {n s a x b y t : Int} (F : Nbr n s a x b y) (t0 : 0 ≤ t) (ht : t * x < y) : Nbr n s a x (b + t * a) (y - t * x) := by
  obtain ⟨t1, h1⟩ := F.ax
  obtain ⟨t2, h2⟩ := F.yb
  have := F.a1; have := F.b1; have := F.x1; have hd := F.det
  have e : 0 ≤ t * a := Int.mul_nonneg t0 (by omega)
  refine ⟨F.a1, F.x1, by omega, by omega, ⟨t1, h1⟩, ⟨t2 + t * t1, ?_⟩, ?_⟩
  · grind
  · grind
theorem Nbr.ne {n s a x b y l : Int} (F : Nbr n s a x b y) (L : IsLap n s l) (h : a + b < l) : x ≠ y := fun e => by
  obtain ⟨t1, h1⟩ := F.ax
  obtain ⟨t2, h2⟩ := F.yb
  have := F.a1; have := F.b1
  have := L.least (a + b) (by omega) ⟨t1 + t2, by subst e; grind⟩
  omega
theorem Nbr.xn {n s a x b y : Int} (F : Nbr n s a x b y) : x < n ∧ y < n := by
  have h1 : 1 * x ≤ b * x := Int.mul_le_mul_of_nonneg_right F.b1 (by have := F.x1; omega)
  have h2 : 1 * y ≤ a * y := Int.mul_le_mul_of_nonneg_right F.a1 (by have := F.y1; omega)
  have := F.det; have := F.x1; have := F.y1
  omega
/-- how often y goes into x - 1 -/
theorem quot_pred {x y : Int} (hx : 1 ≤ x) (hy : 1 ≤ y) : 0 ≤ (x - 1) / y ∧ (x - 1) / y * y < x ∧ (y < x → 1 ≤ (x - 1) / y) := by
  have d := Int.mul_ediv_add_emod (x - 1) y
  have r0 := Int.emod_nonneg (x - 1) (by omega : y ≠ 0)
  have r1 := Int.emod_lt_of_pos (x - 1) (by omega : 0 < y)
  have q0 := Int.ediv_nonneg (by omega : 0 ≤ x - 1) (by omega : 0 ≤ y)
  rw [Int.mul_comm] at d
  refine ⟨q0, by omega, fun h => ?_⟩
  apply Decidable.byContradiction
  intro z
  have e : (x - 1) / y = 0 := by omega
  rw [e, Int.zero_mul] at d
  omega
/-- the size by the greatest number that divides it and the step -/
theorem lap_is {n s : Int} (n1 : 1 ≤ n) (s0 : 0 ≤ s) : IsLap n s (n / (Int.gcd n s : Nat)) := by
  have gp : (0 : Int) < ((Int.gcd n s : Nat) : Int) := by
    have := Int.gcd_pos_of_ne_zero_left s (by omega : n ≠ 0)
    omega
  generalize hg : Int.gcd n s = g at gp
  have d1 : (g : Int) ∣ n := hg ▸ Int.gcd_dvd_left ..
  have d2 : (g : Int) ∣ s := hg ▸ Int.gcd_dvd_right ..
  obtain ⟨n', hn⟩ := d1
  obtain ⟨s', hs⟩ := d2
  have e : n / (g : Int) = n' := by rw [hn]; exact Int.mul_ediv_cancel_left _ (by omega)
  have np : 1 ≤ n' := by
    apply Decidable.byContradiction
    intro z
    have : (g : Int) * n' ≤ g * 0 := Int.mul_le_mul_of_nonneg_left (by omega) (by omega)
    omega
  have cop : Int.gcd n' s' = 1 := by
    have h := Int.gcd_mul_left (g : Int) n' s'
    rw [← hn, ← hs, hg] at h
    have h3 : g * 1 = g * Int.gcd n' s' := by simpa using h
    have := Nat.eq_of_mul_eq_mul_left (by omega : 0 < g) h3
    omega
  rw [e]
  refine ⟨np, ?_, ⟨s', ?_⟩, fun k hk ⟨t, ht⟩ => ?_⟩
  · rw [hn]
    have : 1 * n' ≤ (g : Int) * n' := Int.mul_le_mul_of_nonneg_right (by omega) (by omega)
    omega
  · rw [hn, hs]; grind
  · have h1 : k * s' = n' * t := by
      have : (g : Int) * (k * s') = g * (n' * t) := by rw [hn, hs] at ht; grind
      exact Int.eq_of_mul_eq_mul_left (by omega) this
    have h2 : n' ∣ k := by
      have h3 : n'.natAbs ∣ k.natAbs * s'.natAbs := by
        rw [← Int.natAbs_mul]
        exact Int.natAbs_dvd_natAbs.mpr ⟨t, h1⟩
      exact Int.natAbs_dvd_natAbs.mp (Nat.Coprime.dvd_of_dvd_mul_right cop h3)
    exact Int.le_of_dvd hk h2
theorem IsLap.one {n s : Int} (L : IsLap n s 1) (s0 : 0 ≤ s) (s1 : s < n) : s = 0 := by
  obtain ⟨t, h⟩ := L.back
  rw [Int.one_mul] at h
  have hn : 1 ≤ n := L.ln
  rcases (by omega : t ≤ 0 ∨ 1 ≤ t) with z | z
  · have : n * t ≤ n * 0 := Int.mul_le_mul_of_nonneg_left z (by omega)
    omega
  · have : n * 1 ≤ n * t := Int.mul_le_mul_of_nonneg_left z (by omega)
    omega
/-! ### near beats -/
structure Row where
  b : Int
  f : Int
  a : Int
  x : Int
  t : Int
/-- a is the first beat behind 0 whose way on is within far; x is that way -/
structure Fst (n s far a x : Int) : Prop where
  a1 : 1 ≤ a
  x1 : 1 ≤ x
  xf : x ≤ far
  ax : (a * s) % n = x
  first : ∀ k, 0 < k → k < a → far < (k * s) % n
inductive Chain (n s g : Int) : Int → Int → List Row → Prop
  | nil {B far : Int} : 0 ≤ far → far < g → Chain n s g B far []
  | cons {B far a x : Int} {rs : List Row} : g ≤ far → Fst n s far a x → Chain n s g (B + far / x * a) (far - far / x * x) rs → Chain n s g B far (⟨B, far, a, x, far / x⟩ :: rs)
theorem Nbr.low {n s a x b y k : Int} (F : Nbr n s a x b y) (k0 : 0 < k) (k1 : k < a + b) : x ≤ (k * s) % n ∧ ((k * s) % n = x → k = a) := by
  have n1 := F.n1
  have d0 := Int.emod_nonneg (k * s) (by omega : n ≠ 0)
  have dd := Int.mul_ediv_add_emod (k * s) n
  obtain ⟨u, v, hk, hd⟩ := F.basis (k := k) (d := (k * s) % n) (t := -((k * s) / n)) (by rw [Int.mul_neg]; omega)
  generalize (k * s) % n = d at *
  have := F.a1; have := F.x1; have := F.b1; have := F.y1
  rcases (by omega : u ≤ 0 ∨ u = 1 ∨ 2 ≤ u) with hu | hu | hu
  · exfalso
    have e1 : u * a ≤ 0 := Int.mul_nonpos_of_nonpos_of_nonneg hu (by omega)
    have v1 : v ≤ -1 := by
      apply Decidable.byContradiction
      intro hv
      have : 0 ≤ v * b := Int.mul_nonneg (by omega) (by omega)
      omega
    have e2 : v * y ≤ -1 * y := Int.mul_le_mul_of_nonneg_right v1 (by omega)
    have e3 : u * x ≤ 0 := Int.mul_nonpos_of_nonpos_of_nonneg hu (by omega)
    omega
  · subst hu
    rw [Int.one_mul] at hk hd
    have v0 : 0 ≤ v := by
      apply Decidable.byContradiction
      intro hv
      have e2 : v * b ≤ -1 * b := Int.mul_le_mul_of_nonneg_right (by omega) (by omega)
      omega
    have e3 : 0 ≤ v * y := Int.mul_nonneg v0 (by omega)
    refine ⟨by omega, fun e => ?_⟩
    have : v = 0 := by
      apply Decidable.byContradiction
      intro hv
      have : 1 * y ≤ v * y := Int.mul_le_mul_of_nonneg_right (by omega) (by omega)
      omega
    rw [this, Int.zero_mul] at hk
    omega
  · have v1 : 1 ≤ v ∨ v ≤ 0 := by omega
    have ux : 2 * x ≤ u * x := Int.mul_le_mul_of_nonneg_right hu (by omega)
    have ua : 2 * a ≤ u * a := Int.mul_le_mul_of_nonneg_right hu (by omega)
    rcases v1 with v1 | v1
    · have : 1 * y ≤ v * y := Int.mul_le_mul_of_nonneg_right v1 (by omega)
      exact ⟨by omega, fun e => by omega⟩
    · rcases (by omega : v = 0 ∨ v ≤ -1) with v2 | v2
      · subst v2
        rw [Int.zero_mul] at hd hk
        exact ⟨by omega, fun e => by omega⟩
      · exfalso
        have : v * b ≤ -1 * b := Int.mul_le_mul_of_nonneg_right v2 (by omega)
        omega
theorem Nbr.axm {n s a x b y : Int} (F : Nbr n s a x b y) : (a * s) % n = x := by
  obtain ⟨t, h⟩ := F.ax
  have := F.xn
  have := F.x1
  rw [h, Int.add_mul_emod_self_left, Int.emod_eq_of_lt (by omega) (by omega)]
theorem Nbr.eq_g {n s a x b y l g : Int} (F : Nbr n s a x b y) (L : IsLap n s l) (hg : l * g = n) (e : x = y) : x ≤ g := by
  obtain ⟨t1, h1⟩ := F.ax
  obtain ⟨t2, h2⟩ := F.yb
  have := F.a1; have := F.b1; have x1 := F.x1; have dt := F.det; have l1 := L.l1
  have h := L.least (a + b) (by omega) ⟨t1 + t2, by subst e; grind⟩
  have e1 : l * x ≤ (a + b) * x := Int.mul_le_mul_of_nonneg_right h (by omega)
  have e2 : (a + b) * x = n := by subst e; grind
  apply Decidable.byContradiction
  intro z
  have e3 : l * (g + 1) ≤ l * x := Int.mul_le_mul_of_nonneg_left (by omega) (by omega)
  rw [Int.mul_add] at e3
  omega
theorem ceil_ok {d y : Int} (hd : 1 ≤ d) (hy : 1 ≤ y) : 1 ≤ -(-d / y) ∧ d ≤ -(-d / y) * y ∧ (-(-d / y) - 1) * y < d ∧ -(-d / y) ≤ d := by
  have e := Int.mul_ediv_add_emod (-d) y
  have r0 := Int.emod_nonneg (-d) (by omega : y ≠ 0)
  have r1 := Int.emod_lt_of_pos (-d) (by omega : 0 < y)
  generalize (-d) / y = q at *
  generalize (-d) % y = r at *
  have q1 : q ≤ -1 := by
    apply Decidable.byContradiction
    intro z
    have : 0 ≤ y * q := Int.mul_nonneg (by omega) (by omega)
    omega
  have e1 : -q * y = -(y * q) := by rw [Int.neg_mul, Int.mul_comm]
  refine ⟨by omega, by omega, ?_, ?_⟩
  · rw [Int.sub_mul, e1, Int.one_mul]; omega
  · apply Decidable.byContradiction
    intro z
    have e2 : y * (d + 1) ≤ y * (-q) := Int.mul_le_mul_of_nonneg_left (by omega) (by omega)
    have e3 : 1 * (d + 1 - 1) ≤ y * (d + 1 - 1) := Int.mul_le_mul_of_nonneg_right hy (by omega)
    rw [Int.mul_neg] at e2
    rw [Int.mul_add] at e2
    have e4 : y * d = y * (d + 1 - 1) := by rw [show d + 1 - 1 = d by omega]
    omega
/-- a draw of ahead that ends within far ends at the first beat within far -/
theorem Nbr.drawn {n s a x b y t far : Int} (F : Nbr n s a x b y) (t1 : 1 ≤ t) (ht : t * y < x) (hx : far < x) (tc : (t - 1) * y < x - far) (h : x - t * y ≤ far) : Fst n s far (a + t * b) (x - t * y) := by
  have N := F.ahead (t := t) (by omega) ht
  have N1 := F.ahead (t := t - 1) (by omega) (by have := F.y1; rw [Int.sub_mul]; omega)
  refine ⟨N.a1, N.x1, h, N.axm, fun k k0 k1 => ?_⟩
  have lo := N1.low (k := k) k0 (by rw [Int.sub_mul] ; omega)
  omega
theorem Fst.of_one {n s a x b y far : Int} (F : Nbr n s a x b y) (ha : a = 1) (h : x ≤ far) : Fst n s far a x := ⟨F.a1, F.x1, h, F.axm, fun k k0 k1 => by omega⟩
/-- what divides size and step divides each way on -/
theorem res_dvd {n s g k : Int} (hn : g ∣ n) (hs : g ∣ s) : g ∣ (k * s) % n := by
  have e : (k * s) % n = k * s - n * ((k * s) / n) := by
    have := Int.mul_ediv_add_emod (k * s) n
    omega
  rw [e]
  obtain ⟨u, hu⟩ := hn
  obtain ⟨v, hv⟩ := hs
  exact ⟨k * v - u * ((k * s) / n), by rw [Int.mul_sub]; grind⟩
theorem Fst.lap {n s far a x l : Int} (F : Fst n s far a x) (L : IsLap n s l) : a < l := by
  obtain ⟨t, h⟩ := L.back
  have z : (l * s) % n = 0 := by rw [h]; exact Int.mul_emod_right _ _
  have := F.x1; have := F.xf; have l1 := L.l1
  apply Decidable.byContradiction
  intro c
  rcases (by omega : l < a ∨ l = a) with e | e
  · have := F.first l (by omega) e
    omega
  · have := F.ax
    rw [← e] at this
    omega
/-- what around tells of on + 1 beats -/
theorem Four.row {n s far a x ah x' bh y' : Int} (F : Fst n s far a x) (G : Four n s (a + 1) ah x' bh y') : ah = a ∧ x' = x ∧ (a = 1 ∨ far < x + y') := by
  have n1 := G.n1
  have a1 := F.a1
  have r0 := Int.emod_nonneg (a * s) (by omega : n ≠ 0)
  have dd := Int.mul_ediv_add_emod (a * s) n
  have x1 := F.x1
  have hax := F.ax
  have g1 := (G.gap (i := 0) (k := a) (d := x) (t := -((a * s) / n)) (by rw [Int.mul_neg]; omega) (by omega) (by omega) (by omega) (by omega) (by omega)).1 (by have := G.a2; omega)
  have axm := G.toNbr.axm
  have ah1 := G.a1
  have ah2 := G.a2
  have xf := F.xf
  have e1 : ah = a := by
    rcases (by omega : ah < a ∨ ah = a) with e | e
    · have := F.first ah (by omega) e
      omega
    · exact e
  have e2 : x' = x := by rw [← axm, e1, hax]
  refine ⟨e1, e2, ?_⟩
  rcases (by omega : a = 1 ∨ 2 ≤ a) with e | e
  · exact .inl e
  · right
    subst e1 e2
    have b1 := G.b1; have b2 := G.b2; have y1 := G.y1; have dt := G.det
    have m1 : 1 * x' ≤ bh * x' := Int.mul_le_mul_of_nonneg_right b1 (by omega)
    have m2 : 2 * y' ≤ ah * y' := Int.mul_le_mul_of_nonneg_right e (by omega)
    obtain ⟨t1, h1⟩ := G.ax
    obtain ⟨t2, h2⟩ := G.yb
    have hr : ((ah - bh) * s) % n = x' + y' := by
      rw [show (ah - bh) * s = (x' + y') + n * (t1 - t2) by grind, Int.add_mul_emod_self_left, Int.emod_eq_of_lt (by omega) (by omega)]
    rcases (by omega : bh < ah ∨ bh = ah) with c | c
    · have := F.first (ah - bh) (by omega) (by omega)
      omega
    · exfalso
      rw [c, Int.sub_self, Int.zero_mul, Int.zero_emod] at hr
      omega
/-- how far is left behind a row -/
theorem left_ok {far x : Int} (x1 : 1 ≤ x) (xf : x ≤ far) : 1 ≤ far / x ∧ 0 ≤ far - far / x * x ∧ far - far / x * x < x ∧ 2 * (far - far / x * x) < far := by
  have d := Int.mul_ediv_add_emod far x
  have r0 := Int.emod_nonneg far (by omega : x ≠ 0)
  have r1 := Int.emod_lt_of_pos far (by omega : 0 < x)
  have q1 : 1 ≤ far / x := by
    apply Decidable.byContradiction
    intro z
    have : x * (far / x) ≤ x * 0 := Int.mul_le_mul_of_nonneg_left (by omega) (by omega)
    omega
  have e : far / x * x = x * (far / x) := Int.mul_comm _ _
  have m : x * 1 ≤ x * (far / x) := Int.mul_le_mul_of_nonneg_left q1 (by omega)
  exact ⟨q1, by omega, by omega, by omega⟩
/-! ### walking beat by beat -/
def farAt (n s c : Int) (k : Int) : Int := (c - k * s) % n
def walk (n s c : Int) : Nat → List Int × Int
  | 0 => ([], n)
  | m + 1 => if farAt n s c m < (walk n s c m).2 then ((walk n s c m).1 ++ [(m : Int)], farAt n s c m) else walk n s c m
theorem walk_len {n s c : Int} : ∀ m : Nat, (walk n s c m).1.length ≤ m
  | 0 => Nat.le_refl _
  | m + 1 => by
    have := walk_len (n := n) (s := s) (c := c) m
    rw [walk]
    split
    · rw [List.length_append]; show _ + 1 ≤ _; omega
    · omega
/-- how far k beats later -/
theorem far_on {n s c B far k : Int} (hn : 0 < n) (hB : farAt n s c B = far) : ((k * s) % n ≤ far → farAt n s c (B + k) = far - (k * s) % n) ∧ (far < (k * s) % n → far < farAt n s c (B + k)) := by
  unfold farAt at hB ⊢
  have d := Int.mul_ediv_add_emod (c - B * s) n
  have e := Int.mul_ediv_add_emod (k * s) n
  have f0 := Int.emod_nonneg (c - B * s) (by omega : n ≠ 0)
  have f1 := Int.emod_lt_of_pos (c - B * s) hn
  have r0 := Int.emod_nonneg (k * s) (by omega : n ≠ 0)
  have r1 := Int.emod_lt_of_pos (k * s) hn
  rw [hB] at d f0 f1
  generalize (c - B * s) / n = q1 at *
  generalize (k * s) / n = q2 at *
  generalize (k * s) % n = r at *
  have key : c - (B + k) * s = (far - r) + n * (q1 - q2) := by rw [Int.add_mul, Int.mul_sub]; omega
  constructor
  · intro h
    rw [key, Int.add_mul_emod_self_left, Int.emod_eq_of_lt (by omega) (by omega)]
  · intro h
    rw [key, Int.add_mul_emod_self_left, show far - r = (far - r + n) + n * (-1) by omega, Int.add_mul_emod_self_left, Int.emod_eq_of_lt (by omega) (by omega)]
    omega
theorem far_lap {n s c l k : Int} (L : IsLap n s l) : farAt n s c (k - l) = farAt n s c k := by
  obtain ⟨t, h⟩ := L.back
  unfold farAt
  rw [show c - (k - l) * s = (c - k * s) + n * t by rw [Int.sub_mul]; omega, Int.add_mul_emod_self_left]
/-- the near beats that a row tells -/
def rowBeats (B a : Int) (t : Nat) : List Int := (List.range t).map fun k : Nat => B + ((k : Int) + 1) * a
def beatsOf : List Row → List Int
  | [] => []
  | r :: rs => rowBeats r.b r.a r.t.toNat ++ beatsOf rs
/-! ### the nearest, and the first in a stretch -/
def RecAt (n s c r : Int) : Prop := ∀ k, 0 ≤ k → k < r → farAt n s c r < farAt n s c k
structure NearMin (n s c m r : Int) : Prop where
  r0 : 0 ≤ r
  rm : r < m
  least : ∀ k, 0 ≤ k → k < m → farAt n s c r ≤ farAt n s c k
  first : RecAt n s c r
theorem rec_step {n s c B far a x : Int} (hn : 0 < n) (R : RecAt n s c B) (hB : farAt n s c B = far) (F : Fst n s far a x) :
    (∀ k, B < k → k < B + a → far < farAt n s c k) ∧ farAt n s c (B + a) = far - x ∧ RecAt n s c (B + a) := by
  have a1 := F.a1
  have x1 := F.x1
  have h1 : ∀ k, B < k → k < B + a → far < farAt n s c k := fun k k0 k1 => by
    have z := F.first (k - B) (by omega) (by omega)
    have := (far_on (k := k - B) hn hB).2 z
    rw [show B + (k - B) = k by omega] at this
    exact this
  have fa := (far_on (k := a) hn hB).1 (by rw [F.ax]; exact F.xf)
  rw [F.ax] at fa
  refine ⟨h1, fa, fun k k0 k1 => ?_⟩
  rw [fa]
  rcases (by omega : k < B ∨ k = B ∨ B < k) with e | e | e
  · have := R k k0 e; omega
  · subst e; omega
  · have := h1 k e k1; omega
theorem rec_row {n s c B far a x : Int} (hn : 0 < n) (R : RecAt n s c B) (hB : farAt n s c B = far) (F : Fst n s far a x) : ∀ j : Nat, (j : Int) * x ≤ far → RecAt n s c (B + j * a) ∧ farAt n s c (B + j * a) = far - j * x
  | 0, _ => by simpa using ⟨R, hB⟩
  | j + 1, h => by
    have e : ((j + 1 : Nat) : Int) = (j : Int) + 1 := by omega
    rw [e, Int.add_mul, Int.one_mul] at h
    have x1 := F.x1
    obtain ⟨R1, f1⟩ := rec_row hn R hB F j (by omega)
    have tx : 0 ≤ (j : Int) * x := Int.mul_nonneg (by omega) (by omega)
    have F1 : Fst n s (far - j * x) a x := ⟨F.a1, F.x1, by omega, F.ax, fun k k0 k1 => by have := F.first k k0 k1; omega⟩
    obtain ⟨_, f2, R2⟩ := rec_step hn R1 f1 F1
    rw [e, Int.add_mul, Int.one_mul, Int.add_mul, Int.one_mul, show B + (j * a + a) = B + j * a + a by omega]
    exact ⟨R2, by rw [f2]; omega⟩
/-- behind B + j * a, up to the next -/
theorem rec_gap {n s c B far a x j : Int} (hn : 0 < n) (R : RecAt n s c B) (hB : farAt n s c B = far) (F : Fst n s far a x) (j0 : 0 ≤ j) (h : j * x ≤ far) :
    RecAt n s c (B + j * a) ∧ farAt n s c (B + j * a) = far - j * x ∧ ∀ k, B + j * a < k → k < B + (j + 1) * a → far - j * x < farAt n s c k := by
  obtain ⟨i, rfl⟩ := Int.eq_ofNat_of_zero_le j0
  have x1 := F.x1
  obtain ⟨R1, f1⟩ := rec_row hn R hB F i h
  refine ⟨R1, f1, fun k k0 k1 => ?_⟩
  have tx : 0 ≤ (i : Int) * x := Int.mul_nonneg (by omega) (by omega)
  have z := F.first (k - (B + i * a)) (by omega) (by rw [Int.add_mul] at k1; omega)
  have := (far_on (k := k - (B + i * a)) hn f1).2 (by omega)
  rw [show B + (i : Int) * a + (k - (B + i * a)) = k by omega] at this
  exact this
theorem rec_end {n s c g B far : Int} (hn : 0 < n) (gn : g ∣ n) (gs : g ∣ s) (hB : farAt n s c B = far) (h : far < g) (k : Int) : far ≤ farAt n s c (B + k) := by
  have d := res_dvd (k := k) gn gs
  have r0 := Int.emod_nonneg (k * s) (by omega : n ≠ 0)
  have z := far_on (k := k) hn hB
  have f0 : 0 ≤ far := by rw [← hB]; exact Int.emod_nonneg _ (by omega)
  rcases (by omega : (k * s) % n = 0 ∨ 0 < (k * s) % n) with e | e
  · have := z.1 (by omega)
    omega
  · have := Int.le_of_dvd e d
    have := z.2 (by omega)
    omega
def nearF (m : Int) : List Row → Int → Int
  | [], f => f
  | r :: rs, f => nearF m rs (if r.b < m then r.b + (if (m - 1 - r.b) / r.a < r.t then (m - 1 - r.b) / r.a else r.t) * r.a else f)
theorem near_skip {n s g m : Int} : ∀ {rs : List Row} {B far f : Int}, Chain n s g B far rs → m ≤ B → nearF m rs f = f
  | [], _, _, _, _, _ => rfl
  | _ :: rs, B, far, f, h, hm => by
    cases h with
    | cons c1 c2 c3 =>
      rename_i a x
      have lo := left_ok c2.x1 c2.xf
      have : 0 ≤ far / x * a := Int.mul_nonneg (by omega) (by have := c2.a1; omega)
      simp only [nearF]
      rw [if_neg (by omega)]
      exact near_skip c3 (by omega)
theorem near_ok {n s c g m : Int} (hn : 0 < n) (gn : g ∣ n) (gs : g ∣ s) : ∀ {rs : List Row} {B far : Int}, Chain n s g B far rs → RecAt n s c B → farAt n s c B = far → 0 ≤ B → B < m → NearMin n s c m (nearF m rs B)
  | [], B, far, h, R, hB, B0, Bm => by
    cases h with
    | nil f0 f1 =>
      refine ⟨B0, Bm, fun k k0 k1 => ?_, R⟩
      show farAt n s c B ≤ _
      rcases (by omega : k < B ∨ B ≤ k) with e | e
      · have := R k k0 e; omega
      · have := rec_end hn gn gs hB f1 (k - B)
        rw [show B + (k - B) = k by omega] at this
        omega
  | _ :: rs, B, far, h, R, hB, B0, Bm => by
    cases h with
    | cons c1 c2 c3 =>
      rename_i a x
      have a1 := c2.a1
      have x1 := c2.x1
      have lo := left_ok x1 c2.xf
      have d := Int.mul_ediv_add_emod (m - 1 - B) a
      have r0 := Int.emod_nonneg (m - 1 - B) (by omega : a ≠ 0)
      have r1 := Int.emod_lt_of_pos (m - 1 - B) (by omega : 0 < a)
      have q0 := Int.ediv_nonneg (by omega : 0 ≤ m - 1 - B) (by omega : 0 ≤ a)
      rw [Int.mul_comm] at d
      simp only [nearF]
      rw [if_pos Bm]
      by_cases z : (m - 1 - B) / a < far / x
      · rw [if_pos z]
        generalize (m - 1 - B) / a = j at *
        have jx : j * x ≤ far / x * x := Int.mul_le_mul_of_nonneg_right (by omega) (by omega)
        obtain ⟨R1, f1, gp⟩ := rec_gap hn R hB c2 q0 (by omega)
        have ja : 0 ≤ j * a := Int.mul_nonneg q0 (by omega)
        have nx : B + (j + 1) * a ≤ B + far / x * a := by
          have : (j + 1) * a ≤ far / x * a := Int.mul_le_mul_of_nonneg_right (by omega) (by omega)
          omega
        have e1 : (j + 1) * a = j * a + a := by rw [Int.add_mul, Int.one_mul]
        rw [near_skip c3 (by omega)]
        refine ⟨by omega, by omega, fun k k0 k1 => ?_, R1⟩
        rcases (by omega : k < B + j * a ∨ k = B + j * a ∨ B + j * a < k) with e | e | e
        · have := R1 k k0 e; omega
        · subst e; exact Int.le_refl _
        · have := gp k e (by omega); omega
      · rw [if_neg z]
        have jx : far / x * x ≤ far := by omega
        obtain ⟨R1, f1, gp⟩ := rec_gap hn R hB c2 (by omega : 0 ≤ far / x) jx
        have ja : far / x * a ≤ (m - 1 - B) / a * a := Int.mul_le_mul_of_nonneg_right (by omega) (by omega)
        have ja0 : 0 ≤ far / x * a := Int.mul_nonneg (by omega) (by omega)
        exact near_ok hn gn gs c3 R1 f1 (by omega) (by omega)
def firstF (w : Int) : List Row → Option Int
  | [] => none
  | r :: rs => if r.f - r.t * r.x ≤ w then some (r.b + -(-(r.f - w) / r.x) * r.a) else firstF w rs
def FirstIs (n s c w : Int) (r : Option Int) : Prop := match r with
  | none => ∀ k, 0 ≤ k → w < farAt n s c k
  | some r => 0 ≤ r ∧ farAt n s c r ≤ w ∧ ∀ k, 0 ≤ k → k < r → w < farAt n s c k
theorem first_ok {n s c g w : Int} (hn : 0 < n) (gn : g ∣ n) (gs : g ∣ s) : ∀ {rs : List Row} {B far : Int}, Chain n s g B far rs → RecAt n s c B → farAt n s c B = far → 0 ≤ B → w < far → FirstIs n s c w (firstF w rs)
  | [], B, far, h, R, hB, B0, wf => by
    cases h with
    | nil f0 f1 =>
      intro k k0
      rcases (by omega : k < B ∨ B ≤ k) with e | e
      · have := R k k0 e; omega
      · have := rec_end hn gn gs hB f1 (k - B)
        rw [show B + (k - B) = k by omega] at this
        omega
  | _ :: rs, B, far, h, R, hB, B0, wf => by
    cases h with
    | cons c1 c2 c3 =>
      rename_i a x
      have a1 := c2.a1
      have x1 := c2.x1
      have lo := left_ok x1 c2.xf
      simp only [firstF]
      by_cases z : far - far / x * x ≤ w
      · rw [if_pos z]
        have cl := ceil_ok (d := far - w) (y := x) (by omega) x1
        generalize -(-(far - w) / x) = j at *
        have jt : j ≤ far / x := by
          apply Decidable.byContradiction
          intro c
          have : far / x * x ≤ (j - 1) * x := Int.mul_le_mul_of_nonneg_right (by omega) (by omega)
          omega
        have jx : j * x ≤ far / x * x := Int.mul_le_mul_of_nonneg_right jt (by omega)
        have e1 : (j - 1) * x = j * x - x := by rw [Int.sub_mul, Int.one_mul]
        have e2 : (j - 1 + 1) * a = j * a := by rw [show j - 1 + 1 = j by omega]
        have e3 : (j - 1) * a = j * a - a := by rw [Int.sub_mul, Int.one_mul]
        obtain ⟨_, f1, _⟩ := rec_gap hn R hB c2 (by omega : 0 ≤ j) (by omega)
        obtain ⟨R0, f0, gp⟩ := rec_gap hn R hB c2 (by omega : 0 ≤ j - 1) (by omega)
        rw [e2] at gp
        have ja : 0 ≤ j * a := Int.mul_nonneg (by omega) (by omega)
        refine ⟨by omega, by rw [f1]; omega, fun k k0 k1 => ?_⟩
        rcases (by omega : k < B + (j - 1) * a ∨ k = B + (j - 1) * a ∨ B + (j - 1) * a < k) with e | e | e
        · have := R0 k k0 e; omega
        · subst e; omega
        · have := gp k e k1; omega
      · rw [if_neg z]
        obtain ⟨R1, f1, gp⟩ := rec_gap hn R hB c2 (by omega : 0 ≤ far / x) (by omega)
        have ja0 : 0 ≤ far / x * a := Int.mul_nonneg (by omega) (by omega)
        exact first_ok hn gn gs c3 R1 f1 (by omega) (by omega)
theorem rec_lap {n s c l r : Int} (L : IsLap n s l) (R : RecAt n s c r) (r0 : 0 ≤ r) : r < l := by
  apply Decidable.byContradiction
  intro z
  have l1 := L.l1
  have := R (r - l) (by omega) (by omega)
  rw [far_lap L] at this
  omega
theorem rec_zero {n s c : Int} : RecAt n s c 0 := fun k k0 k1 => by omega
/-- far of the place, by the numbers handed in -/
theorem far_raw {n st s0 v k : Int} : (v - s0 - k * st) % n = farAt n (st % n) ((v - s0 % n) % n) k := by
  unfold farAt
  have d1 := Int.mul_ediv_add_emod st n
  have d2 := Int.mul_ediv_add_emod s0 n
  have d3 := Int.mul_ediv_add_emod (v - s0 % n) n
  generalize (v - s0 % n) % n = c at *
  generalize (v - s0 % n) / n = q3 at *
  have : v - s0 - k * st = (c - k * (st % n)) + n * (q3 - s0 / n - k * (st / n)) := by
    generalize st % n = r1 at *
    generalize st / n = q1 at *
    generalize s0 % n = r2 at *
    generalize s0 / n = q2 at *
    subst d1 d2
    grind
  rw [this, Int.add_mul_emod_self_left]
/-- in the stretch: no farther from its high place than it is wide -/
theorem in_far {n z lo hi : Int} (hn : 0 < n) : (z - lo) % n ≤ (hi - lo) % n ↔ (hi - z) % n ≤ (hi - lo) % n := by
  have d1 := Int.mul_ediv_add_emod (z - lo) n
  have d2 := Int.mul_ediv_add_emod (hi - lo) n
  have u0 := Int.emod_nonneg (z - lo) (by omega : n ≠ 0)
  have u1 := Int.emod_lt_of_pos (z - lo) hn
  have w0 := Int.emod_nonneg (hi - lo) (by omega : n ≠ 0)
  have w1 := Int.emod_lt_of_pos (hi - lo) hn
  generalize (z - lo) % n = u at *
  generalize (hi - lo) % n = w at *
  generalize (z - lo) / n = q1 at *
  generalize (hi - lo) / n = q2 at *
  have key : hi - z = (w - u) + n * (q2 - q1) := by rw [Int.mul_sub]; omega
  rw [key, Int.add_mul_emod_self_left]
  by_cases c : u ≤ w
  · rw [Int.emod_eq_of_lt (by omega) (by omega)]; omega
  · rw [show w - u = (w - u + n) + n * (-1) by omega, Int.add_mul_emod_self_left, Int.emod_eq_of_lt (by omega) (by omega)]; omega
/-! ### sums of rounded quotients -/
def flSum (st s0 n : Int) : Nat → Int
  | 0 => 0
  | m + 1 => flSum st s0 n m + (s0 + (m : Int) * st) / n
def flG (t n a : Int) : Nat → Int
  | 0 => 0
  | J + 1 => flG t n a J + (t - n * ((J : Int) + 1)) / a
theorem flG_up {t n a : Int} (ha : a ≠ 0) : ∀ J : Nat, flG (t + a) n a J = flG t n a J + J
  | 0 => by simp [flG]
  | J + 1 => by
    have h := flG_up (t := t) (n := n) ha J
    have e : (t + a - n * ((J : Int) + 1)) / a = (t - n * ((J : Int) + 1)) / a + 1 := by
      rw [show t + a - n * ((J : Int) + 1) = (t - n * ((J : Int) + 1)) + 1 * a by omega, Int.add_mul_ediv_right _ _ ha]
    simp only [flG]
    rw [h, e]
    omega
theorem flG_shift {n a : Int} (t : Int) : ∀ J : Nat, flG (t + n) n a (J + 1) = t / a + flG t n a J
  | 0 => by
    simp only [flG]
    rw [show t + n - n * (((0 : Nat) : Int) + 1) = t by simp]
    omega
  | J + 1 => by
    have h := flG_shift (n := n) (a := a) t J
    have e : t + n - n * (((J + 1 : Nat) : Int) + 1) = t - n * ((J : Int) + 1) := by
      have : ((J + 1 : Nat) : Int) = (J : Int) + 1 := by omega
      rw [this]; grind
    rw [flG, h, e]
    simp only [flG]
    omega
theorem flG_sum {n a b : Int} : ∀ J : Nat, flG (n * J + b) n a J = flSum n b a J
  | 0 => rfl
  | J + 1 => by
    have h := flG_sum (n := n) (a := a) (b := b) J
    have e : n * ((J + 1 : Nat) : Int) + b = (n * J + b) + n := by
      have : ((J + 1 : Nat) : Int) = (J : Int) + 1 := by omega
      rw [this]; grind
    rw [e, flG_shift, h]
    simp only [flSum]
    rw [show n * (J : Int) + b = b + (J : Int) * n by grind]
    omega
theorem flSum_swapG {a b n : Int} (ha : 0 < a) (han : a < n) (hb : 0 ≤ b) (hbn : b < n) : ∀ m : Nat, flSum a b n m = flG (b + m * a) n a ((b + m * a) / n).toNat
  | 0 => by
    have e : (b + ((0 : Nat) : Int) * a) / n = 0 := by
      simp only [Int.natCast_zero, Int.zero_mul, Int.add_zero]
      exact Int.ediv_eq_zero_of_lt hb hbn
    rw [e]; rfl
  | m + 1 => by
    have h := flSum_swapG ha han hb hbn m
    have ma : 0 ≤ (m : Int) * a := Int.mul_nonneg (by omega) (by omega)
    have e0 : b + ((m + 1 : Nat) : Int) * a = (b + m * a) + a := by
      have : ((m + 1 : Nat) : Int) = (m : Int) + 1 := by omega
      rw [this]; grind
    rw [e0]
    simp only [flSum]
    rw [h]
    generalize ht : b + (m : Int) * a = t at *
    have t0 : 0 ≤ t := by omega
    have np : 0 < n := by omega
    have q0 : 0 ≤ t / n := Int.ediv_nonneg t0 (by omega)
    have d := Int.mul_ediv_add_emod t n
    have r0 := Int.emod_nonneg t (by omega : n ≠ 0)
    have r1 := Int.emod_lt_of_pos t np
    by_cases c : t % n + a < n
    · have e : (t + a) / n = t / n := by
        rw [show t + a = (t % n + a) + n * (t / n) by omega, Int.add_mul_ediv_left _ _ (by omega : n ≠ 0), Int.ediv_eq_zero_of_lt (by omega) c]
        omega
      rw [e, flG_up (by omega)]
      omega
    · have e : (t + a) / n = t / n + 1 := by
        rw [show t + a = (t % n + a - n) + n * (t / n + 1) by rw [Int.mul_add]; omega, Int.add_mul_ediv_left _ _ (by omega : n ≠ 0), Int.ediv_eq_zero_of_lt (by omega) (by omega)]
        omega
      have e2 : ((t / n + 1).toNat) = (t / n).toNat + 1 := by omega
      rw [e, e2]
      simp only [flG]
      rw [flG_up (by omega)]
      have e3 : (((t / n).toNat : Nat) : Int) = t / n := by omega
      have e4 : (t + a - n * (t / n + 1)) / a = 0 := by
        refine Int.ediv_eq_zero_of_lt ?_ ?_
        · rw [Int.mul_add]; omega
        · rw [Int.mul_add]; omega
      rw [e3, e4]
      omega
theorem flSum_swap {a b n : Int} (ha : 0 < a) (han : a < n) (hb : 0 ≤ b) (hbn : b < n) (m : Nat) : flSum a b n m = flSum n ((b + m * a) % n) a ((b + m * a) / n).toNat := by
  rw [flSum_swapG ha han hb hbn, ← flG_sum]
  have ma : 0 ≤ (m : Int) * a := Int.mul_nonneg (by omega) (by omega)
  have q0 : 0 ≤ (b + m * a) / n := Int.ediv_nonneg (by omega) (by omega)
  have e3 : ((((b + m * a) / n).toNat : Nat) : Int) = (b + m * a) / n := by omega
  rw [e3, Int.mul_ediv_add_emod]
theorem tri_up (m : Int) : (m + 1) * m / 2 = m * (m - 1) / 2 + m := by
  rw [show (m + 1) * m = m * (m - 1) + m * 2 by grind, Int.add_mul_ediv_right _ _ (by decide)]
theorem flSum_rest {st s0 n : Int} (hn : n ≠ 0) : ∀ m : Nat, flSum st s0 n m = (m : Int) * (m - 1) / 2 * (st / n) + m * (s0 / n) + flSum (st % n) (s0 % n) n m
  | 0 => by simp [flSum]
  | m + 1 => by
    have h := flSum_rest (st := st) (s0 := s0) hn m
    have e : ((m + 1 : Nat) : Int) = (m : Int) + 1 := by omega
    have f : (s0 + (m : Int) * st) / n = (s0 % n + (m : Int) * (st % n)) / n + (s0 / n + m * (st / n)) := by
      rw [← Int.add_mul_ediv_left _ _ hn]
      have d1 := Int.mul_ediv_add_emod st n
      have d2 := Int.mul_ediv_add_emod s0 n
      congr 1
      generalize st / n = q1 at *
      generalize s0 / n = q2 at *
      generalize st % n = r1 at *
      generalize s0 % n = r2 at *
      subst d1 d2
      grind
    simp only [flSum]
    rw [h, f, e, show (m : Int) + 1 - 1 = m by omega, tri_up]
    grind
theorem flSum_zero {b n : Int} (hb : 0 ≤ b) (hbn : b < n) : ∀ m : Nat, flSum 0 b n m = 0
  | 0 => rfl
  | m + 1 => by
    simp only [flSum]
    rw [flSum_zero hb hbn m, Int.mul_zero, Int.add_zero, Int.ediv_eq_zero_of_lt hb hbn]
    rfl
/-- one turn of slanted -/
theorem flSum_turn {m st s0 n : Int} (hn : 0 < n) (hm : 0 ≤ m) :
    flSum st s0 n m.toNat = m * (m - 1) / 2 * (st / n) + m * (s0 / n) + flSum n ((s0 % n + m * (st % n)) % n) (st % n) ((s0 % n + m * (st % n)) / n).toNat := by
  have e : ((m.toNat : Nat) : Int) = m := by omega
  have a0 := Int.emod_nonneg st (by omega : n ≠ 0)
  have a1 := Int.emod_lt_of_pos st hn
  have b0 := Int.emod_nonneg s0 (by omega : n ≠ 0)
  have b1 := Int.emod_lt_of_pos s0 hn
  rw [flSum_rest (by omega), e]
  congr 1
  by_cases z : st % n = 0
  · rw [z, Int.mul_zero, Int.add_zero, Int.ediv_eq_zero_of_lt b0 b1, flSum_zero b0 b1]
    rfl
  · rw [flSum_swap (by omega) a1 b0 b1, e]
theorem turn_many {m st s0 n : Int} (hn : 0 < n) (hm : 0 ≤ m) : 0 ≤ (s0 % n + m * (st % n)) / n ∧ (s0 % n + m * (st % n)) / n ≤ m := by
  have a0 := Int.emod_nonneg st (by omega : n ≠ 0)
  have a1 := Int.emod_lt_of_pos st hn
  have b0 := Int.emod_nonneg s0 (by omega : n ≠ 0)
  have b1 := Int.emod_lt_of_pos s0 hn
  have h0 : 0 ≤ m * (st % n) := Int.mul_nonneg hm a0
  have h1 : m * (st % n) ≤ m * n := Int.mul_le_mul_of_nonneg_left (by omega) hm
  refine ⟨Int.ediv_nonneg (by omega) (by omega), ?_⟩
  have : s0 % n + m * (st % n) < (m + 1) * n := by rw [Int.add_mul]; omega
  have := Int.ediv_lt_of_lt_mul hn this
  omega
/-! ### how often in a stretch -/
def inB (st s0 n lo wd : Int) (k : Nat) : Bool := decide ((s0 + (k : Int) * st - lo) % n ≤ wd)
def b01 (b : Bool) : Int := if b then 1 else 0
def cntIn (st s0 n lo wd : Int) : Nat → Int
  | 0 => 0
  | m + 1 => cntIn st s0 n lo wd m + b01 (inB st s0 n lo wd m)
theorem quot_drop {z n wd : Int} (hn : 0 < n) (h0 : 0 ≤ wd) (h1 : wd < n) : z / n - (z - (wd + 1)) / n = b01 (decide (z % n ≤ wd)) := by
  unfold b01
  have d := Int.mul_ediv_add_emod z n
  have r0 := Int.emod_nonneg z (by omega : n ≠ 0)
  have r1 := Int.emod_lt_of_pos z hn
  by_cases c : z % n ≤ wd
  · rw [if_pos (by simp [c])]
    have e : (z - (wd + 1)) / n = z / n - 1 := by
      rw [show z - (wd + 1) = (z % n - wd - 1 + n) + n * (z / n - 1) by rw [Int.mul_sub]; omega, Int.add_mul_ediv_left _ _ (by omega), Int.ediv_eq_zero_of_lt (by omega) (by omega)]
      omega
    omega
  · rw [if_neg (by simpa using c)]
    have e : (z - (wd + 1)) / n = z / n := by
      rw [show z - (wd + 1) = (z % n - wd - 1) + n * (z / n) by omega, Int.add_mul_ediv_left _ _ (by omega), Int.ediv_eq_zero_of_lt (by omega) (by omega)]
      omega
    omega
theorem cnt_fl {st s0 n lo wd : Int} (hn : 0 < n) (h0 : 0 ≤ wd) (h1 : wd < n) : ∀ m : Nat, flSum st (s0 - lo) n m - flSum st (s0 - lo - (wd + 1)) n m = cntIn st s0 n lo wd m
  | 0 => rfl
  | m + 1 => by
    have h := cnt_fl (st := st) (s0 := s0) (lo := lo) hn h0 h1 m
    have q := quot_drop (z := s0 - lo + (m : Int) * st) hn h0 h1
    simp only [flSum, cntIn]
    unfold inB
    rw [show s0 - lo - (wd + 1) + (m : Int) * st = s0 - lo + (m : Int) * st - (wd + 1) by omega]
    rw [show s0 + (m : Int) * st - lo = s0 - lo + (m : Int) * st by omega]
    omega
theorem mod_cong {x y n t : Int} (h : x = y + n * t) : x % n = y % n := by rw [h, Int.add_mul_emod_self_left]
theorem cnt_pos {st s0 n lo wd : Int} : ∀ m : Nat, 0 ≤ cntIn st s0 n lo wd m ∧ cntIn st s0 n lo wd m ≤ m
  | 0 => by simp [cntIn]
  | m + 1 => by
    have h := cnt_pos (st := st) (s0 := s0) (n := n) (lo := lo) (wd := wd) m
    simp only [cntIn]
    unfold b01
    split <;> omega
theorem bez : ∀ (a b : Nat), ∃ x y : Int, (a : Int) * x + b * y = (Nat.gcd a b : Nat) := by
  intro a b
  induction a, b using Nat.gcd.induction with
  | H0 n => exact ⟨0, 1, by simp⟩
  | H1 m n hm ih =>
    obtain ⟨x, y, h⟩ := ih
    rw [← Nat.gcd_rec] at h
    refine ⟨y - (n / m : Nat) * x, x, ?_⟩
    have d : ((n % m : Nat) : Int) = (n : Int) - (m : Int) * ((n / m : Nat) : Int) := by
      have := Nat.div_add_mod n m
      have e : ((m * (n / m) + n % m : Nat) : Int) = (n : Int) := by rw [this]
      rw [Int.natCast_add, Int.natCast_mul] at e
      omega
    rw [d] at h
    grind
/-- each way that the divisor allows is gone at some beat -/
theorem far_all {n s c : Int} (hn : 0 < n) (hs : 0 ≤ s) : ∃ k, 0 ≤ k ∧ farAt n s c k = c % ((Int.gcd n s : Nat) : Int) := by
  obtain ⟨n', rfl⟩ := Int.eq_ofNat_of_zero_le (by omega : 0 ≤ n)
  obtain ⟨s', rfl⟩ := Int.eq_ofNat_of_zero_le hs
  obtain ⟨x, y, h⟩ := bez n' s'
  have g0 : 0 < Nat.gcd n' s' := Nat.gcd_pos_of_pos_left _ (by omega)
  have gn : ((Nat.gcd n' s' : Nat) : Int) ≤ (n' : Int) := by
    have := Nat.le_of_dvd (by omega : 0 < n') (Nat.gcd_dvd_left n' s')
    omega
  show ∃ k, 0 ≤ k ∧ farAt n' s' c k = c % ((Nat.gcd n' s' : Nat) : Int)
  generalize Nat.gcd n' s' = g at *
  have d := Int.mul_ediv_add_emod c (g : Int)
  have r0 := Int.emod_nonneg c (by omega : (g : Int) ≠ 0)
  have r1 := Int.emod_lt_of_pos c (by omega : (0 : Int) < g)
  generalize c % (g : Int) = r at *
  generalize c / (g : Int) = q at *
  have d2 := Int.mul_ediv_add_emod (y * q) (n' : Int)
  refine ⟨(y * q) % n', Int.emod_nonneg _ (by omega), ?_⟩
  unfold farAt
  have key : c - (y * q) % n' * s' = r + n' * (q * x + (y * q) / n' * s') := by
    generalize (y * q) % (n' : Int) = u at *
    generalize (y * q) / (n' : Int) = v at *
    have e1 : u = y * q - n' * v := by omega
    have e2 : c = g * q + r := by omega
    rw [e1, e2, ← h]
    grind
  rw [key, Int.add_mul_emod_self_left, Int.emod_eq_of_lt r0 (by omega)]
theorem far_mod {n s c g k : Int} (gn : g ∣ n) (gs : g ∣ s) : farAt n s c k % g = c % g := by
  unfold farAt
  obtain ⟨u, hu⟩ := gn
  obtain ⟨v, hv⟩ := gs
  have d := Int.mul_ediv_add_emod (c - k * s) n
  have : (c - k * s) % n = c + g * (-(k * v) - u * ((c - k * s) / n)) := by
    generalize (c - k * s) / n = q at *
    generalize (c - k * s) % n = r at *
    subst hu hv
    grind
  rw [this, Int.add_mul_emod_self_left]
theorem FirstIs.lap {n s c w l r : Int} (L : IsLap n s l) (h : FirstIs n s c w (some r)) : r < l := by
  obtain ⟨r0, h1, h2⟩ := h
  exact rec_lap (c := c) L (fun k k0 k1 => by have := h2 k k0 k1; omega) r0
theorem first_some {n s c w : Int} (hn : 0 < n) (hs : 0 ≤ s) {r : Option Int} (h : FirstIs n s c w r) : (w < c % ((Int.gcd n s : Nat) : Int) → r = none) ∧ (¬ w < c % ((Int.gcd n s : Nat) : Int) → ∃ k, r = some k) := by
  constructor
  · intro z
    cases r with
    | none => rfl
    | some r =>
      exfalso
      obtain ⟨r0, h1, _⟩ := h
      have m := far_mod (k := r) (c := c) (Int.gcd_dvd_left (a := n) (b := s)) (Int.gcd_dvd_right (a := n) (b := s))
      have g0 : (0 : Int) < ((Int.gcd n s : Nat) : Int) := by
        have := Int.gcd_pos_of_ne_zero_left s (by omega : n ≠ 0)
        omega
      have f0 : 0 ≤ farAt n s c r := Int.emod_nonneg _ (by omega)
      rw [← m] at z
      have q0 := Int.ediv_nonneg f0 (by omega : 0 ≤ ((Int.gcd n s : Nat) : Int))
      have d := Int.mul_ediv_add_emod (farAt n s c r) ((Int.gcd n s : Nat) : Int)
      have := Int.mul_nonneg (by omega : 0 ≤ ((Int.gcd n s : Nat) : Int)) q0
      omega
  · intro z
    cases r with
    | some r => exact ⟨r, rfl⟩
    | none =>
      obtain ⟨k, k0, hk⟩ := far_all (c := c) hn hs
      have := h k k0
      omega
/-! ### counts by how far -/
theorem inB_far {st s0 n lo hi : Int} (hn : 0 < n) (k : Nat) : inB st s0 n lo ((hi - lo) % n) k = decide (farAt n st ((hi - s0) % n) k ≤ (hi - lo) % n) := by
  unfold inB farAt
  have e : ((hi - s0) % n - (k : Int) * st) % n = (hi - (s0 + (k : Int) * st)) % n := by
    have d := Int.mul_ediv_add_emod (hi - s0) n
    exact (mod_cong (t := (hi - s0) / n) (by omega)).symm
  rw [e, Bool.eq_iff_iff, decide_eq_true_iff, decide_eq_true_iff]
  exact in_far hn
theorem cnt_zero {st s0 n lo wd : Int} : ∀ m : Nat, (∀ k : Nat, k < m → inB st s0 n lo wd k = false) → cntIn st s0 n lo wd m = 0
  | 0, _ => rfl
  | m + 1, h => by
    simp only [cntIn]
    rw [cnt_zero m fun k hk => h k (by omega), h m (by omega)]
    rfl
theorem cnt_some {st s0 n lo wd : Int} : ∀ (m : Nat) (k : Nat), k < m → inB st s0 n lo wd k = true → 0 < cntIn st s0 n lo wd m
  | m + 1, k, hk, h => by
    simp only [cntIn]
    have p := cnt_pos (st := st) (s0 := s0) (n := n) (lo := lo) (wd := wd) m
    rcases (by omega : k < m ∨ k = m) with e | e
    · have := cnt_some m k e h
      unfold b01
      split <;> omega
    · subst e
      rw [h]
      unfold b01
      simp only [if_true]
      omega
/-- up to the first beat in a stretch none, with it one -/
theorem cnt_first {st s0 n lo hi r : Int} (hn : 0 < n) (h : FirstIs n st ((hi - s0) % n) ((hi - lo) % n) (some r)) : cntIn st s0 n lo ((hi - lo) % n) r.toNat = 0 ∧ cntIn st s0 n lo ((hi - lo) % n) (r + 1).toNat = 1 := by
  obtain ⟨r0, h1, h2⟩ := h
  have er : ((r.toNat : Nat) : Int) = r := by omega
  have z : cntIn st s0 n lo ((hi - lo) % n) r.toNat = 0 := cnt_zero _ fun k hk => by
    rw [inB_far hn, decide_eq_false]
    have := h2 k (by omega) (by omega)
    omega
  refine ⟨z, ?_⟩
  rw [show (r + 1).toNat = r.toNat + 1 by omega]
  simp only [cntIn]
  rw [z, inB_far hn, er, decide_eq_true h1]
  rfl
/-! ### a wheel parted into stretches -/
theorem flSum_back {st n : Int} (hn : n ≠ 0) (z : Int) : ∀ m : Nat, flSum st (z - n) n m = flSum st z n m - m
  | 0 => by simp [flSum]
  | m + 1 => by
    simp only [flSum]
    rw [flSum_back hn z m]
    have e : (z - n + (m : Int) * st) / n = (z + (m : Int) * st) / n - 1 := by
      rw [show z - n + (m : Int) * st = z + (m : Int) * st + n * (-1) by omega, Int.add_mul_ediv_left _ _ hn]
      omega
    rw [e]
    omega
/-- places in their order -/
structure Parts (n : Int) (ps : List Int) : Prop where
  one : 1 ≤ ps.length
  low : ∀ i, i < ps.length → 0 ≤ ps.getD i 0
  up : ∀ i, i < ps.length → ps.getD i 0 < n
  rise : ∀ i, i + 1 < ps.length → ps.getD i 0 < ps.getD (i + 1) 0
theorem Parts.first {n : Int} {ps : List Int} (p : Parts n ps) : ∀ i, i < ps.length → ps.getD 0 0 ≤ ps.getD i 0
  | 0, _ => Int.le_refl _
  | i + 1, h => by
    have a := p.first i (by omega)
    have b := p.rise i h
    omega
theorem Parts.of {n : Int} {ps : List Int} (h1 : ps ≠ []) (hb : ∀ x ∈ ps, 0 ≤ x ∧ x < n) (hr : ps.Pairwise (· < ·)) : Parts n ps := by
  have g : ∀ i, (h : i < ps.length) → ps.getD i 0 = ps[i] := fun i h => by simp [List.getD, h]
  refine ⟨?_, fun i hi => ?_, fun i hi => ?_, fun i hi => ?_⟩
  · cases ps with
    | nil => exact absurd rfl h1
    | cons a r => simp
  · rw [g i hi]; exact (hb _ (List.getElem_mem hi)).1
  · rw [g i hi]; exact (hb _ (List.getElem_mem hi)).2
  · rw [g i (by omega), g (i + 1) hi]
    exact List.pairwise_iff_getElem.mp hr i (i + 1) (by omega) hi (by omega)
/-- the place at which stretch i begins; behind the last the first place, a wheel on -/
def partAt (n : Int) (ps : List Int) (i : Nat) : Int := if i < ps.length then ps.getD i 0 else ps.getD 0 0 + n
theorem Parts.step {n : Int} {ps : List Int} (p : Parts n ps) {i : Nat} (hi : i < ps.length) :
    0 ≤ ((ps.getD ((i + 1) % ps.length) 0 - 1) % n - ps.getD i 0) % n ∧ ((ps.getD ((i + 1) % ps.length) 0 - 1) % n - ps.getD i 0) % n < n ∧
    ps.getD i 0 + (((ps.getD ((i + 1) % ps.length) 0 - 1) % n - ps.getD i 0) % n + 1) = partAt n ps (i + 1) := by
  have a0 := p.low i hi
  have a1 := p.up i hi
  refine ⟨Int.emod_nonneg _ (by omega), Int.emod_lt_of_pos _ (by omega), ?_⟩
  unfold partAt
  by_cases c : i + 1 < ps.length
  · rw [if_pos c, Nat.mod_eq_of_lt c]
    have b1 := p.up (i + 1) c
    have r := p.rise i c
    rw [Int.emod_eq_of_lt (by omega : 0 ≤ ps.getD (i + 1) 0 - 1) (by omega), Int.emod_eq_of_lt (by omega) (by omega)]
    omega
  · rw [if_neg c, show i + 1 = ps.length by omega, Nat.mod_self]
    have f := p.first i hi
    have f0 := p.low 0 (by omega)
    generalize ps.getD 0 0 = z at *
    generalize ps.getD i 0 = y at *
    have d := Int.mul_ediv_add_emod (z - 1) n
    rw [mod_cong (y := z + n - 1 - y) (t := -1 - (z - 1) / n) (by rw [Int.mul_sub]; omega), Int.emod_eq_of_lt (by omega) (by omega)]
    omega
/-- what the stretches up to i hold -/
theorem part_cnt {st s0 n : Int} {ps : List Int} (p : Parts n ps) {i : Nat} (hi : i < ps.length) (m : Nat) :
    cntIn st s0 n (ps.getD i 0) (((ps.getD ((i + 1) % ps.length) 0 - 1) % n - ps.getD i 0) % n) m = flSum st (s0 - partAt n ps i) n m - flSum st (s0 - partAt n ps (i + 1)) n m := by
  obtain ⟨w0, w1, e⟩ := p.step hi
  have a1 := p.up i hi
  have a0 := p.low i hi
  rw [← cnt_fl (by omega) w0 w1 m, ← e]
  have e2 : partAt n ps i = ps.getD i 0 := by unfold partAt; rw [if_pos hi]
  rw [e2, Int.sub_sub]
theorem part_all {st s0 n : Int} {ps : List Int} (p : Parts n ps) (m : Nat) : flSum st (s0 - partAt n ps 0) n m - flSum st (s0 - partAt n ps ps.length) n m = m := by
  have o := p.one
  have a1 := p.up 0 (by omega)
  have a0 := p.low 0 (by omega)
  have e2 : partAt n ps 0 = ps.getD 0 0 := by unfold partAt; rw [if_pos (by omega)]
  have e3 : partAt n ps ps.length = ps.getD 0 0 + n := by unfold partAt; rw [if_neg (by omega)]
  rw [e2, e3, show s0 - (ps.getD 0 0 + n) = s0 - ps.getD 0 0 - n by omega, flSum_back (by omega)]
  omega
/-! ### the first and the nearest beat by the count -/
theorem cnt_none {st s0 n lo hi : Int} (hn : 0 < n) (m : Nat) (h : ∀ k : Int, 0 ≤ k → k < m → (hi - lo) % n < farAt n st ((hi - s0) % n) k) : cntIn st s0 n lo ((hi - lo) % n) m = 0 :=
  cnt_zero _ fun k hk => by
    rw [inB_far hn, decide_eq_false]
    have := h k (by omega) (by omega)
    omega
theorem cnt_one {st s0 n lo hi k : Int} (hn : 0 < n) (m : Nat) (k0 : 0 ≤ k) (km : k < m) (h : farAt n st ((hi - s0) % n) k ≤ (hi - lo) % n) : 0 < cntIn st s0 n lo ((hi - lo) % n) m := by
  have ek : ((k.toNat : Nat) : Int) = k := by omega
  refine cnt_some m k.toNat (by omega) ?_
  rw [inB_far hn, ek, decide_eq_true h]
theorem first_cnt {st s0 n lo hi k m : Int} (hn : 0 < n) (m1 : 1 ≤ m) (h : FirstIs n st ((hi - s0) % n) ((hi - lo) % n) (some k)) : decide (k < m) = decide (cntIn st s0 n lo ((hi - lo) % n) m.toNat > 0) := by
  obtain ⟨k0, h1, h2⟩ := h
  rw [Bool.eq_iff_iff, decide_eq_true_iff, decide_eq_true_iff]
  constructor
  · intro z
    exact cnt_one hn _ k0 (by omega) h1
  · intro z
    apply Decidable.byContradiction
    intro c
    have := cnt_none (st := st) (s0 := s0) (lo := lo) (hi := hi) hn m.toNat fun j j0 j1 => h2 j j0 (by omega)
    omega
theorem near_cnt {st s0 n lo hi r m : Int} (hn : 0 < n) (h : NearMin n st ((hi - s0) % n) m r) : decide (farAt n st ((hi - s0) % n) r ≤ (hi - lo) % n) = decide (cntIn st s0 n lo ((hi - lo) % n) m.toNat > 0) := by
  have r0 := h.r0
  have rm := h.rm
  rw [Bool.eq_iff_iff, decide_eq_true_iff, decide_eq_true_iff]
  constructor
  · intro z
    exact cnt_one hn _ r0 (by omega) z
  · intro z
    apply Decidable.byContradiction
    intro c
    have := cnt_none (st := st) (s0 := s0) (lo := lo) (hi := hi) hn m.toNat fun j j0 j1 => by have := h.least j j0 (by omega); omega
    omega
/-- none of them lies nearer -/
theorem near_none {st s0 n hi r m f : Int} (hn : 0 < n) (h : NearMin n st ((hi - s0) % n) m r) (hf : farAt n st ((hi - s0) % n) r = f) (f0 : 0 < f) : cntIn st s0 n ((hi - f + 1) % n) ((hi - (hi - f + 1) % n) % n) m.toNat = 0 := by
  have f1 : f < n := by rw [← hf]; exact Int.emod_lt_of_pos _ hn
  have rm := h.rm
  have r0 := h.r0
  refine cnt_none hn m.toNat fun j j0 j1 => ?_
  have := h.least j j0 (by omega)
  have d := Int.mul_ediv_add_emod (hi - f + 1) n
  rw [mod_cong (x := hi - (hi - f + 1) % n) (y := f - 1) (t := (hi - f + 1) / n) (by omega), Int.emod_eq_of_lt (by omega) (by omega)]
  omega
/-- the first beat that comes to its place -/
theorem near_first {st s0 n hi r m f : Int} {r' : Option Int} (hn : 0 < n) (h : NearMin n st ((hi - s0) % n) m r) (hf : farAt n st ((hi - s0) % n) r = f)
    (h' : FirstIs n st (((hi - f) % n - s0) % n) (((hi - f) % n - (hi - f) % n) % n) r') : r' = some r := by
  have f1 : f < n := by rw [← hf]; exact Int.emod_lt_of_pos _ hn
  have f0 : 0 ≤ f := by rw [← hf]; exact Int.emod_nonneg _ (by omega)
  have r0 := h.r0
  rw [Int.sub_self, Int.zero_emod] at h'
  have key : ∀ k, farAt n st (((hi - f) % n - s0) % n) k = (farAt n st ((hi - s0) % n) k - f) % n := fun k => by
    unfold farAt
    have d1 := Int.mul_ediv_add_emod (hi - f) n
    have d2 := Int.mul_ediv_add_emod ((hi - f) % n - s0) n
    have d3 := Int.mul_ediv_add_emod (hi - s0) n
    have d4 := Int.mul_ediv_add_emod ((hi - s0) % n - k * st) n
    refine mod_cong (t := -((hi - f) / n) - ((hi - f) % n - s0) / n + (hi - s0) / n + ((hi - s0) % n - k * st) / n) ?_
    rw [Int.mul_add, Int.mul_add, Int.mul_sub, Int.mul_neg]
    omega
  have g0 : ∀ k, 0 ≤ farAt n st ((hi - s0) % n) k ∧ farAt n st ((hi - s0) % n) k < n := fun k => ⟨Int.emod_nonneg _ (by omega), Int.emod_lt_of_pos _ hn⟩
  have kr : farAt n st (((hi - f) % n - s0) % n) r = 0 := by rw [key, hf, Int.sub_self, Int.zero_emod]
  have kk : ∀ k, 0 ≤ k → k < r → 0 < farAt n st (((hi - f) % n - s0) % n) k := fun k k0 k1 => by
    have a := h.first k k0 k1
    have b := g0 k
    rw [key, Int.emod_eq_of_lt (by omega) (by omega)]
    omega
  cases r' with
  | none => have := h' r r0; omega
  | some k =>
    obtain ⟨k0, k1, k2⟩ := h'
    rcases (by omega : k < r ∨ k = r ∨ r < k) with e | e | e
    · have := kk k k0 e; omega
    · rw [e]
    · have := k2 r r0 e; omega
section
variable {P : Program} {w : World} {K : PySem.W.Frag} {mg : Str → Option Value} {base : Heap} {a : Adr}
def spGreatest : Sp := fun vs H Q _ => vs = [] ∧ Q (.int G60) H
theorem ok_greatest (T : Txt K mg a) : FnOk P w K mg base (CXR P w) 1 a.greatest.f a.greatest.fd [] spGreatest := by
  refine T.F_greatest.okN sc_greatest (fun vs H Q E h => ?_) (fun cdv A outer s H vs Q E hr h => ?_)
  · rw [h.1]; rfl
  · obtain ⟨rfl, k⟩ := h
    refine ⟨_, (@pss_one _ _ _ (@ps_ret _ _ _ _ (@pe_op _ _ _ _ _ _ _ _ op_pow (@pe_int _ _ _ _) (@pe_int _ _ _ _)))), ?_⟩
    refine ⟨_, _, rfl, rfl, ⟨by decide, by decide, by decide⟩, ?_⟩
    show Q (.int ((10 : Int) ^ (60 : Int).toNat)) H
    rw [pow60]; exact k
/-- a whole number within bounds -/
def wholeIn (x : V) (l m : Int) : Bool := match x with | .int v => decide (l ≤ v) && decide (v ≤ m) | _ => false
theorem wholeIn_int {x : V} {l m : Int} (h : wholeIn x l m = true) : ∃ v, x = .int v ∧ l ≤ v ∧ v ≤ m := by
  cases x with
  | int v =>
    have h : (decide (l ≤ v) && decide (v ≤ m)) = true := h
    rw [Bool.and_eq_true, decide_eq_true_eq, decide_eq_true_eq] at h
    exact ⟨v, rfl, h⟩
  | _ => cases h
theorem wholeIn_of {v l m : Int} (h1 : l ≤ v) (h2 : v ≤ m) : wholeIn (.int v) l m = true := by
  show (decide (l ≤ v) && decide (v ≤ m)) = true
  rw [decide_eq_true h1, decide_eq_true h2]; rfl
/-- a thing whose kind is known: an int, or none -/
def Known (K : PySem.W.Frag) (H : Hp) (x : V) : Prop := ∃ t b1 b2, TyOf K H x t ∧ PySem.W.kitOne K t (.type "bool") = some b1 ∧ PySem.W.kitOne K t (.type "int") = some b2 ∧
  (b1 = false → b2 = true → ∃ v, x = .int v) ∧ (¬ (b1 = false ∧ b2 = true) → ∀ v, x ≠ .int v)
theorem Known.int (T : Txt K mg a) (H : Hp) (v : Int) : Known K H (.int v) := ⟨_, _, _, .int v, T.ib, T.ii, fun _ _ => ⟨v, rfl⟩, fun z => absurd ⟨rfl, rfl⟩ z⟩
def spWhole (K : PySem.W.Frag) : Sp := fun vs H Q _ => ∃ x l m, vs = [x, .int l, .int m] ∧ Known K H x ∧ Q (.bl (wholeIn x l m)) H
theorem ok_is_whole (T : Txt K mg a) : FnOk P w K mg base (CXR P w) 1 a.is_whole.f a.is_whole.fd ["value", "least", "most"] (spWhole K) := by
  refine T.F_is_whole.okN sc_is_whole (fun vs H Q E h => ?_) (fun cdv A outer s H vs Q E hr h => ?_)
  · obtain ⟨x, l, m, rfl, _⟩ := h; rfl
  · obtain ⟨x, l, m, rfl, ⟨t, b1, b2, ty, e1, e2, g1, g2⟩, k⟩ := h
    refine ⟨_, (@pss_cons _ _ _ _ _ (@ps_if _ _ _ _ _ _ _ _ (@PW.pt _ _ _ (@pw_or _ _ _ _ _ _ _ (@pt_val _ _ _ (pe_callB call_isi rfl T.n_isinstance bt_isinstance (@pa_consN _ _ _ _ _ (pv 0) (@pa_consN _ _ _ _ _ (pe_ty rfl T.n_bool bt_bool) (@pa_nil _) rfl) rfl)) (by intro _; rfl)) (@pw_or1 _ _ _ _ (@pt_not _ _ _ _ (@pt_val _ _ _ (pe_callB call_isi rfl T.n_isinstance bt_isinstance (@pa_consN _ _ _ _ _ (pv 0) (@pa_consN _ _ _ _ _ (pe_ty rfl T.n_int bt_int) (@pa_nil _) rfl) rfl)) (by intro _; rfl)))))) (@pss_one _ _ _ (@ps_ret _ _ _ _ (@pe_bl _ _ _ _))) (@pss_nil _)) (@pss_one _ _ _ (@ps_ret _ _ _ _ (pe_chain op_le op_le (pv 1) (pv 0) (pv 2))))), ?_⟩
    refine ⟨_, rfl, x, _, t, _, b1, rfl, ty, rfl, e1, _, rfl, ?_⟩
    have no : ¬ (b1 = false ∧ b2 = true) → wholeIn x l m = false := fun z => by
      have z' := g2 z
      cases x <;> first | rfl | exact absurd rfl (z' _)
    cases b1 with
    | true =>
      refine iteT (iteT ?_)
      rw [no (by simp)] at k
      exact k
    | false =>
      refine iteF ⟨_, rfl, x, _, t, _, b2, rfl, ty, rfl, e2, _, rfl, ?_⟩
      cases b2 with
      | false =>
        refine iteT ?_
        rw [no (by simp)] at k
        exact k
      | true =>
        refine iteF ?_
        obtain ⟨v, rfl⟩ := g1 rfl rfl
        refine ⟨_, rfl, _, rfl, _, _, rfl, rfl, _, rfl, ?_⟩
        refine ite2 (fun h => ?_) (fun h => ?_)
        · refine ⟨_, rfl, _, _, rfl, rfl, ?_⟩
          have e : wholeIn (.int v) l m = decide (v ≤ m) := by
            show (decide (l ≤ v) && decide (v ≤ m)) = _
            rw [h, Bool.true_and]
          rw [e] at k
          exact k
        · have e : wholeIn (.int v) l m = false := by
            show (decide (l ≤ v) && decide (v ≤ m)) = _
            rw [Bool.eq_false_iff.mpr h, Bool.false_and]
          rw [e] at k
          exact k
def spBeats (K : PySem.W.Frag) (a : Adr) : Sp := fun vs H Q E => ∃ (w : Str) (x : V) (l m : Int), vs = [.str w, x, .int l, .int m] ∧ w.length ≤ 100 ∧ Known K H x ∧ (-(G60 * G60 * G60) ≤ l ∧ l ≤ G60 * G60 * G60) ∧ (-(G60 * G60 * G60) ≤ m ∧ m ≤ G60 * G60 * G60) ∧ (∀ v, x = .int v → l ≤ v → v ≤ m → Q .non H) ∧ (wholeIn x l m = false → E (.ref a.NoBeats) none H)
theorem ok_check_beats (T : Txt K mg a) : FnOk P w K mg base (CXR P w) 2 a.check_beats.f a.check_beats.fd ["what", "value", "least", "most"] (spBeats K a) := by
  refine T.F_check_beats.okR sc_check_beats (fun vs H Q E h => ?_) (fun cdv A outer s H vs Q E hr h => ?_)
  · obtain ⟨w, x, l, m, rfl, _⟩ := h; rfl
  · obtain ⟨w, x, l, m, rfl, hw, kx, hl, hm, kq, ke⟩ := h
    refine ⟨_, (@pss_one _ _ _ (@ps_if _ _ _ _ _ _ _ _ (@pt_not _ _ _ _ (@pt_val _ _ _ (pe_call (ok_is_whole T) (hr.mono (by decide)) rfl T.m_is_whole T.F_is_whole.kp (b_is_whole T) .nil passR (@pa_consN _ _ _ _ _ (pv 1) (@pa_consN _ _ _ _ _ (pv 2) (@pa_consN _ _ _ _ _ (pv 3) (@pa_nil _) rfl) rfl) rfl)) (by intro _; rfl))) (@pss_one _ _ _ (ps_raise flies_fn rfl rfl T.m_NoBeats T.x_NoBeats.exc (@pa_consN _ _ _ _ _ (@pe_join _ _ _ _ _ _ (@pj_cons _ _ _ _ _ (@pe_fmt _ _ _ _ (pv 0)) (@pj_cons _ _ _ _ _ (@pe_str _ _ _ _) (@pj_cons _ _ _ _ _ (@pe_fmt _ _ _ _ (pv 2)) (@pj_cons _ _ _ _ _ (@pe_str _ _ _ _) (@pj_cons _ _ _ _ _ (@pe_fmt _ _ _ _ (pv 3)) (@pj_nil _))))))) (@pa_nil _) rfl))) (@pss_nil _))), ?_⟩
    refine ⟨_, rfl, _, rfl, _, rfl, x, l, m, rfl, kx, _, rfl, ?_⟩
    refine iteB (fun h1 => ?_) (fun h1 => ?_)
    · have l1 : (Str.empty ++ w).length ≤ 0 + 100 := app_len (by decide) hw
      have l2 := app_len l1 (show (Str.ofString " is no whole number from ").length ≤ 25 by decide)
      have l3 := app_len l2 (text_len (fits_log hl))
      have l4 := app_len l3 (show (Str.ofString " to ").length ≤ 4 by decide)
      have l5 := app_len l4 (text_len (fits_log hm))
      refine ⟨_, rfl, .inl ⟨w, rfl, str_fits hw (by decide), _, rfl, str_fits l1 (by decide), _, rfl, str_fits l2 (by decide), ?_⟩⟩
      refine ⟨_, rfl, .inr ⟨l, rfl, fits_log hl, _, rfl, str_fits l3 (by decide), _, rfl, str_fits l4 (by decide), ?_⟩⟩
      refine ⟨_, rfl, .inr ⟨m, rfl, fits_log hm, _, rfl, str_fits l5 (by decide), str_fits l5 (by decide), ?_⟩⟩
      exact ⟨by show 1 ≤ sizeLine; decide, ke (by simpa using h1)⟩
    · have h1 : wholeIn x l m = true := by simpa using h1
      obtain ⟨v, rfl, v1, v2⟩ := wholeIn_int h1
      exact kq v rfl v1 v2
def spCommon : Sp := fun vs H Q _ => ∃ p q : Int, vs = [.int p, .int q] ∧ 0 ≤ p ∧ 0 ≤ q ∧ Q (.int (Int.gcd p q : Nat)) H
theorem gcd_step {p q : Int} (hq : 0 ≤ q) (hp : 0 ≤ p) : Int.gcd q (p % q) = Int.gcd p q := by
  obtain ⟨n, rfl⟩ := Int.eq_ofNat_of_zero_le hp
  obtain ⟨m, rfl⟩ := Int.eq_ofNat_of_zero_le hq
  rw [← Int.natCast_emod]
  show Nat.gcd m (n % m) = Nat.gcd n m
  rw [Nat.gcd_comm m, ← Nat.gcd_rec, Nat.gcd_comm]
theorem ok_common (T : Txt K mg a) : FnOk P w K mg base (CXR P w) 1 a.common.f a.common.fd ["one", "other"] spCommon := by
  refine T.F_common.okN sc_common (fun vs H Q E h => ?_) (fun cdv A outer s H vs Q E hr h => ?_)
  · obtain ⟨p, q, rfl, _⟩ := h; rfl
  · obtain ⟨p, q, rfl, hp, hq, k⟩ := h
    refine ⟨_, (@pss_cons _ _ _ _ _ (@ps_while _ _ _ _ _ _ PassesOwn.never (@pt_cmpR _ _ _ _ _ _ _ _ op_ne (pv 1) (@pe_int _ _ _ _) (nomark _)) (@pss_cons _ _ _ _ _ (@ps_set _ _ 2 _ _ _ _ sc_common.nd rfl (Or.inl rfl) (@pe_op _ _ _ _ _ _ _ _ op_mod (pv 0) (pv 1)) (by rfl) (by first | exact .inl rfl | exact .inr rfl | assumption)) (@pss_cons _ _ _ _ _ (@ps_set _ _ 0 _ _ _ _ sc_common.nd rfl (Or.inl rfl) (pv 1) (by rfl) (by first | exact .inl rfl | exact .inr rfl | assumption)) (@pss_one _ _ _ (@ps_set _ _ 1 _ _ _ _ sc_common.nd rfl (Or.inl rfl) (pv 2) (by rfl) (by first | exact .inl rfl | exact .inr rfl | assumption)))))) (@pss_one _ _ _ (@ps_ret _ _ _ _ (pv 0)))), ?_⟩
    refine ⟨fun n σ H' => ∃ (p' q' : Int) (r : Option V), σ = [some (.int p'), some (.int q'), r] ∧ H' = H ∧ 0 ≤ p' ∧ 0 ≤ q' ∧ Int.gcd p' q' = Int.gcd p q ∧ n = q'.toNat, ⟨_, p, q, none, rfl, rfl, hp, hq, rfl, rfl⟩, ?_⟩
    rintro n σ H' ⟨p', q', r, rfl, rfl, hp', hq', hg, rfl⟩
    refine ⟨_, rfl, rfl, _, rfl, ?_⟩
    by_cases z : q' = 0
    · subst z
      refine iteF ⟨_, rfl, ?_⟩
      have e : p' = ((Int.gcd p q : Nat) : Int) := by rw [← hg, Int.gcd_zero_right]; omega
      rw [e]
      exact k
    · have e : (!decide (V.int q' = V.int 0)) = true := by simp [z]
      refine iteP e ⟨_, fun σ' H'' h => h, ?_⟩
      refine ⟨_, rfl, _, rfl, _, _, rfl, rfl, (by show (0 : Int) < q'; omega), _, rfl, _, rfl, ?_⟩
      have lt := Int.emod_lt_of_pos p' (by omega : 0 < q')
      have nn := Int.emod_nonneg p' (by omega : q' ≠ 0)
      exact ⟨_, by omega, _, _, _, rfl, rfl, hq', nn, (gcd_step hq' hp').trans hg, rfl⟩
/-! ### wheels -/
def okW (x y z : V) : Bool := wholeIn x 1 G60 && (wholeIn y (-G60) G60 && wholeIn z (-G60) G60)
theorem okW_ints {x y z : V} (h : okW x y z = true) : ∃ n st s0 : Int, x = .int n ∧ y = .int st ∧ z = .int s0 ∧ 1 ≤ n ∧ n ≤ G60 ∧ -G60 ≤ st ∧ st ≤ G60 ∧ -G60 ≤ s0 ∧ s0 ≤ G60 := by
  unfold okW at h
  rw [Bool.and_eq_true, Bool.and_eq_true] at h
  obtain ⟨n, rfl, a1, a2⟩ := wholeIn_int h.1
  obtain ⟨st, rfl, b1, b2⟩ := wholeIn_int h.2.1
  obtain ⟨s0, rfl, c1, c2⟩ := wholeIn_int h.2.2
  exact ⟨n, st, s0, rfl, rfl, rfl, a1, a2, b1, b2, c1, c2⟩
def spCheck (K : PySem.W.Frag) (a : Adr) : Sp := fun vs H Q E => ∃ x y z, vs = [x, y, z] ∧ Known K H x ∧ Known K H y ∧ Known K H z ∧ (okW x y z = true → Q .non H) ∧ (okW x y z = false → E (.ref a.NoWheel) none H)
theorem ok_check_wheel (T : Txt K mg a) : FnOk P w K mg base (CXR P w) 2 a.check_wheel.f a.check_wheel.fd ["size", "step", "start"] (spCheck K a) := by
  refine T.F_check_wheel.okR sc_check_wheel (fun vs H Q E h => ?_) (fun cdv A outer s H vs Q E hr h => ?_)
  · obtain ⟨x, y, z, rfl, _⟩ := h; rfl
  · obtain ⟨x, y, z, rfl, kx, ky, kz, kq, ke⟩ := h
    refine ⟨_, (@pss_cons _ _ _ _ _ (@ps_set _ _ 3 _ _ _ _ sc_check_wheel.nd rfl (Or.inl rfl) (pe_call0 (ok_greatest T) (hr.mono (by decide)) rfl T.m_greatest T.F_greatest.kp (b_greatest T) .nil passR) (by rfl) (by first | exact .inl rfl | exact .inr rfl | assumption)) (@pss_cons _ _ _ _ _ (@ps_if _ _ _ _ _ _ _ _ (@pt_not _ _ _ _ (@pt_val _ _ _ (pe_call (ok_is_whole T) (hr.mono (by decide)) rfl T.m_is_whole T.F_is_whole.kp (b_is_whole T) .nil passR (@pa_consN _ _ _ _ _ (pv 0) (@pa_consN _ _ _ _ _ (@pe_int _ _ _ _) (@pa_consN _ _ _ _ _ (pv 3) (@pa_nil _) rfl) rfl) rfl)) (by intro _; rfl))) (@pss_one _ _ _ (ps_raise flies_fn rfl rfl T.m_NoWheel T.x_NoWheel.exc (@pa_consN _ _ _ _ _ (@pe_str _ _ _ _) (@pa_nil _) rfl))) (@pss_nil _)) (@pss_cons _ _ _ _ _ (@ps_if _ _ _ _ _ _ _ _ (@pt_not _ _ _ _ (@pt_val _ _ _ (pe_call (ok_is_whole T) (hr.mono (by decide)) rfl T.m_is_whole T.F_is_whole.kp (b_is_whole T) .nil passR (@pa_consN _ _ _ _ _ (pv 1) (@pa_consN _ _ _ _ _ (@pe_un _ _ _ _ _ _ un_neg (pv 3)) (@pa_consN _ _ _ _ _ (pv 3) (@pa_nil _) rfl) rfl) rfl)) (by intro _; rfl))) (@pss_one _ _ _ (ps_raise flies_fn rfl rfl T.m_NoWheel T.x_NoWheel.exc (@pa_consN _ _ _ _ _ (@pe_str _ _ _ _) (@pa_nil _) rfl))) (@pss_nil _)) (@pss_one _ _ _ (@ps_if _ _ _ _ _ _ _ _ (@pt_not _ _ _ _ (@pt_val _ _ _ (pe_call (ok_is_whole T) (hr.mono (by decide)) rfl T.m_is_whole T.F_is_whole.kp (b_is_whole T) .nil passR (@pa_consN _ _ _ _ _ (pv 2) (@pa_consN _ _ _ _ _ (@pe_un _ _ _ _ _ _ un_neg (pv 3)) (@pa_consN _ _ _ _ _ (pv 3) (@pa_nil _) rfl) rfl) rfl)) (by intro _; rfl))) (@pss_one _ _ _ (ps_raise flies_fn rfl rfl T.m_NoWheel T.x_NoWheel.exc (@pa_consN _ _ _ _ _ (@pe_str _ _ _ _) (@pa_nil _) rfl))) (@pss_nil _)))))), ?_⟩
    refine ⟨rfl, ?_⟩
    refine ⟨_, rfl, _, rfl, x, 1, G60, rfl, kx, _, rfl, ?_⟩
    refine iteB (fun h1 => ?_) (fun h1 => ?_)
    · refine ⟨by decide, ke ?_⟩
      have h1 : wholeIn x 1 G60 = false := by simpa using h1
      unfold okW
      rw [h1]; rfl
    · have h1 : wholeIn x 1 G60 = true := by simpa using h1
      refine ⟨_, rfl, _, rfl, _, rfl, _, rfl, y, -G60, G60, rfl, ky, _, rfl, ?_⟩
      refine iteB (fun h2 => ?_) (fun h2 => ?_)
      · refine ⟨by decide, ke ?_⟩
        have h2 : wholeIn y (-G60) G60 = false := by simpa using h2
        unfold okW
        rw [h1, h2]; rfl
      · have h2 : wholeIn y (-G60) G60 = true := by simpa using h2
        refine ⟨_, rfl, _, rfl, _, rfl, _, rfl, z, -G60, G60, rfl, kz, _, rfl, ?_⟩
        refine iteB (fun h3 => ?_) (fun h3 => ?_)
        · refine ⟨by decide, ke ?_⟩
          have h3 : wholeIn z (-G60) G60 = false := by simpa using h3
          unfold okW
          rw [h1, h2, h3]; rfl
        · have h3 : wholeIn z (-G60) G60 = true := by simpa using h3
          refine kq ?_
          unfold okW
          rw [h1, h2, h3]; rfl
/-- the fields of a wheel, as kept -/
def wf (n st s0 l : Int) : List (Str × V) := [("size", .int n), ("step", .int st), ("start", .int s0), ("lap", .int l)]
theorem wf_put (n st s0 l : Int) : putF "lap" (.int l) (putF "start" (.int s0) (putF "step" (.int st) (putF "size" (.int n) []))) = wf n st s0 l := by
  have e1 : ¬ (("size" : Str) = "step") := by decide +kernel
  have e2 : ¬ (("size" : Str) = "start") := by decide +kernel
  have e3 : ¬ (("size" : Str) = "lap") := by decide +kernel
  have e4 : ¬ (("step" : Str) = "start") := by decide +kernel
  have e5 : ¬ (("step" : Str) = "lap") := by decide +kernel
  have e6 : ¬ (("start" : Str) = "lap") := by decide +kernel
  simp only [putF, wf, if_neg e1, if_neg e2, if_neg e3, if_neg e4, if_neg e5, if_neg e6]
theorem wf_size (n st s0 l : Int) : (wf n st s0 l).lookup ("size" : Str) = some (.int n) := by rfl
theorem wf_step (n st s0 l : Int) : (wf n st s0 l).lookup ("step" : Str) = some (.int st) := by rfl
theorem wf_start (n st s0 l : Int) : (wf n st s0 l).lookup ("start" : Str) = some (.int s0) := by rfl
theorem wf_no (n st s0 l : Int) {m : Str} (h : (wf n st s0 l).lookup m = none := by rfl) : (wf n st s0 l).lookup m = none := h
/-- the lap -/
def lapOf (n st : Int) : Int := n / (Int.gcd n (st % n) : Nat)
def spInit (K : PySem.W.Frag) (a : Adr) : Sp := fun vs H Q E => ∃ (p dx : Addr) (x y z : V), vs = [.ref p, x, y, z] ∧ H p = some (.ins a.W dx []) ∧ Known K H x ∧ Known K H y ∧ Known K H z ∧
  (okW x y z = true → ∀ n st s0 : Int, x = .int n → y = .int st → z = .int s0 → 1 ≤ n → n ≤ G60 → Q .non (upd H p (.ins a.W dx (wf n (st % n) (s0 % n) (lapOf n st))))) ∧ (okW x y z = false → E (.ref a.NoWheel) none H)
theorem ok_Wheel___init__ (T : Txt K mg a) : FnOk P w K mg base (CXR P w) 3 a.Wheel___init__.f a.Wheel___init__.fd ["self", "size", "step", "start"] (spInit K a) := by
  refine T.F_Wheel___init__.okR sc_Wheel___init__ (fun vs H Q E h => ?_) (fun cdv A outer s H vs Q E hr h => ?_)
  · obtain ⟨p, dx, x, y, z, rfl, _⟩ := h; rfl
  · obtain ⟨p, dx, x, y, z, rfl, hp, kx, ky, kz, kq, ke⟩ := h
    refine ⟨_, (@pss_cons _ _ _ _ _ (@ps_expr _ _ _ _ (pe_callS (ok_check_wheel T) (hr.mono (by decide)) rfl T.m_check_wheel T.F_check_wheel.kp (b_check_wheel T) .nil (pass_fn fun _ _ _ _ h => h) (@pa_consN _ _ _ _ _ (pv 1) (@pa_consN _ _ _ _ _ (pv 2) (@pa_consN _ _ _ _ _ (pv 3) (@pa_nil _) rfl) rfl) rfl)) (by rfl)) (@pss_cons _ _ _ _ _ (@ps_fld _ _ _ _ _ _ _ _ (pv 0) (pv 1) rfl) (@pss_cons _ _ _ _ _ (@ps_fld _ _ _ _ _ _ _ _ (pv 0) (@pe_op _ _ _ _ _ _ _ _ op_mod (pv 2) (pv 1)) rfl) (@pss_cons _ _ _ _ _ (@ps_fld _ _ _ _ _ _ _ _ (pv 0) (@pe_op _ _ _ _ _ _ _ _ op_mod (pv 3) (pv 1)) rfl) (@pss_one _ _ _ (@ps_fld _ _ _ _ _ _ _ _ (pv 0) (@pe_op _ _ _ _ _ _ _ _ op_fdivB (pv 1) (pe_call (ok_common T) (hr.mono (by decide)) rfl T.m_common T.F_common.kp (b_common T) .nil passR (@pa_consN _ _ _ _ _ (pv 1) (@pa_consN _ _ _ _ _ (@pe_fld _ _ _ _ _ (pv 0) rfl) (@pa_nil _) rfl) rfl))) rfl)))))), ?_⟩
    refine ⟨_, rfl, _, rfl, _, rfl, x, y, z, rfl, kx, ky, kz, fun ok => ?_, ke⟩
    obtain ⟨n, st, s0, rfl, rfl, rfl, a1, a2, b1, b2, c1, c2⟩ := okW_ints ok
    have pos : (0 : Int) < n := by omega
    refine ⟨_, rfl, _, rfl, p, a.W, dx, _, rfl, hp, T.cl, T.a_size, (by show 0 < 1000; decide), ?_⟩
    refine ⟨_, rfl, _, rfl, _, _, rfl, rfl, pos, _, rfl, p, a.W, dx, _, rfl, upd_same, T.cl, T.a_step, (by show 1 < 1000; decide), ?_⟩
    refine ⟨_, rfl, _, rfl, _, _, rfl, rfl, pos, _, rfl, p, a.W, dx, _, rfl, upd_same, T.cl, T.a_start, (by show 2 < 1000; decide), ?_⟩
    have g1 : 0 ≤ st % n := Int.emod_nonneg _ (by omega)
    have g2 : (0 : Int) < ((Int.gcd n (st % n) : Nat) : Int) := by
      have := Int.gcd_pos_of_ne_zero_left (st % n) (by omega : n ≠ 0)
      omega
    have g3 : ((Int.gcd n (st % n) : Nat) : Int) ≤ n := Int.le_of_dvd pos (Int.gcd_dvd_left ..)
    refine ⟨_, rfl, _, rfl, _, rfl, p, a.W, dx, _, _, rfl, upd_same, T.cl, T.a_step, rfl, n, st % n, rfl, by omega, g1, _, _, rfl, rfl, ⟨g2, big_g ⟨by omega, by omega⟩⟩, ?_⟩
    refine ⟨_, rfl, p, a.W, dx, _, rfl, upd_same, T.cl, T.a_lap, (by show 3 < 1000; decide), ?_⟩
    rw [upd_upd, upd_upd, upd_upd]
    have e := kq ok n st s0 rfl rfl rfl a1 a2
    rw [← wf_put] at e
    exact e
/-- a wheel stands at p -/
structure WheelAt (W : Addr) (H : Hp) (p : Addr) (n st s0 l : Int) : Prop where
  at_ : ∃ dx, H p = some (.ins W dx (wf n st s0 l))
  n1 : 1 ≤ n
  n2 : n ≤ G60
  st1 : 0 ≤ st
  st2 : st < n
  s1 : 0 ≤ s0
  s2 : s0 < n
def spReached (K : PySem.W.Frag) (a : Adr) : Sp := fun vs H Q E => ∃ (p : Addr) (n st s0 l : Int) (b : V), vs = [.ref p, b] ∧ WheelAt a.W H p n st s0 l ∧ Known K H b ∧ (∀ v, b = .int v → 0 ≤ v → v ≤ G60 → Q (.int (s0 + v * st)) H) ∧ (wholeIn b 0 G60 = false → E (.ref a.NoBeats) none H)
theorem ok_Wheel_reached (T : Txt K mg a) : FnOk P w K mg base (CXR P w) 3 a.Wheel_reached.f a.Wheel_reached.fd ["self", "beat"] (spReached K a) := by
  refine T.F_Wheel_reached.okR sc_Wheel_reached (fun vs H Q E h => ?_) (fun cdv A outer s H vs Q E hr h => ?_)
  · obtain ⟨p, n, st, s0, l, b, rfl, _⟩ := h; rfl
  · obtain ⟨p, n, st, s0, l, b, rfl, W, kb, kq, ke⟩ := h
    obtain ⟨⟨dx, hp⟩, n1, n2, st1, st2, s1, s2⟩ := W
    refine ⟨_, (@pss_cons _ _ _ _ _ (@ps_expr _ _ _ _ (pe_callS (ok_check_beats T) (hr.mono (by decide)) rfl T.m_check_beats T.F_check_beats.kp (b_check_beats T) .nil (pass_fn fun _ _ _ _ h => h) (@pa_consN _ _ _ _ _ (@pe_str _ _ _ _) (@pa_consN _ _ _ _ _ (pv 1) (@pa_consN _ _ _ _ _ (@pe_int _ _ _ _) (@pa_consN _ _ _ _ _ (pe_call0 (ok_greatest T) (hr.mono (by decide)) rfl T.m_greatest T.F_greatest.kp (b_greatest T) .nil passR) (@pa_nil _) rfl) rfl) rfl) rfl)) (by rfl)) (@pss_one _ _ _ (@ps_ret _ _ _ _ (@pe_op _ _ _ _ _ _ _ _ op_add (@pe_fld _ _ _ _ _ (pv 0) rfl) (@pe_op _ _ _ _ _ _ _ _ op_mulA (pv 1) (@pe_fld _ _ _ _ _ (pv 0) rfl)))))), ?_⟩
    refine ⟨_, rfl, rfl, _, b, 0, G60, rfl, by decide, kb, ⟨by decide, by decide⟩, ⟨by decide, by decide⟩, fun v e v1 v2 => ?_, ke⟩
    subst e
    refine ⟨_, rfl, p, a.W, dx, _, _, rfl, hp, T.cl, T.a_start, wf_start _ _ _ _, _, rfl, _, rfl, p, a.W, dx, _, _, rfl, hp, T.cl, T.a_step, wf_step _ _ _ _, _, _, rfl, rfl, mulB (big_g ⟨by omega, by omega⟩) (big_g ⟨by omega, by omega⟩), _, _, rfl, rfl, ?_⟩
    exact kq v rfl v1 v2
def spCheckPlace (K : PySem.W.Frag) (a : Adr) : Sp := fun vs H Q E => ∃ (p : Addr) (n st s0 l : Int) (b : V), vs = [.ref p, b] ∧ WheelAt a.W H p n st s0 l ∧ Known K H b ∧ (∀ v, b = .int v → 0 ≤ v → v < n → Q .non H) ∧ (wholeIn b 0 (n - 1) = false → E (.ref a.NoPlace) none H)
theorem ok_check_place (T : Txt K mg a) : FnOk P w K mg base (CXR P w) 2 a.check_place.f a.check_place.fd ["wheel", "place"] (spCheckPlace K a) := by
  refine T.F_check_place.okR sc_check_place (fun vs H Q E h => ?_) (fun cdv A outer s H vs Q E hr h => ?_)
  · obtain ⟨p, n, st, s0, l, b, rfl, _⟩ := h; rfl
  · obtain ⟨p, n, st, s0, l, b, rfl, W, kb, kq, ke⟩ := h
    obtain ⟨⟨dx, hp⟩, n1, n2, st1, st2, s1, s2⟩ := W
    refine ⟨_, (@pss_one _ _ _ (@ps_if _ _ _ _ _ _ _ _ (@pt_not _ _ _ _ (@pt_val _ _ _ (pe_call (ok_is_whole T) (hr.mono (by decide)) rfl T.m_is_whole T.F_is_whole.kp (b_is_whole T) .nil passR (@pa_consN _ _ _ _ _ (pv 1) (@pa_consN _ _ _ _ _ (@pe_int _ _ _ _) (@pa_consN _ _ _ _ _ (@pe_op _ _ _ _ _ _ _ _ op_sub (@pe_fld _ _ _ _ _ (pv 0) rfl) (@pe_int _ _ _ _)) (@pa_nil _) rfl) rfl) rfl)) (by intro _; rfl))) (@pss_one _ _ _ (ps_raise flies_fn rfl rfl T.m_NoPlace T.x_NoPlace.exc (@pa_consN _ _ _ _ _ (@pe_str _ _ _ _) (@pa_nil _) rfl))) (@pss_nil _))), ?_⟩
    refine ⟨_, rfl, _, rfl, p, a.W, dx, _, _, rfl, hp, T.cl, T.a_size, wf_size _ _ _ _, _, _, rfl, rfl, b, 0, n - 1, rfl, kb, _, rfl, ?_⟩
    refine iteB (fun h1 => ?_) (fun h1 => ?_)
    · exact ⟨by decide, ke (by simpa using h1)⟩
    · have h1 : wholeIn b 0 (n - 1) = true := by simpa using h1
      obtain ⟨v, rfl, v1, v2⟩ := wholeIn_int h1
      exact kq v rfl v1 (by omega)
def spPlace (K : PySem.W.Frag) (a : Adr) : Sp := fun vs H Q E => ∃ (p : Addr) (n st s0 l : Int) (b : V), vs = [.ref p, b] ∧ WheelAt a.W H p n st s0 l ∧ Known K H b ∧ (∀ v, b = .int v → 0 ≤ v → v ≤ G60 → Q (.int ((s0 + v * st) % n)) H) ∧ (wholeIn b 0 G60 = false → E (.ref a.NoBeats) none H)
theorem ok_Wheel_place (T : Txt K mg a) : FnOk P w K mg base (CXR P w) 4 a.Wheel_place.f a.Wheel_place.fd ["self", "beat"] (spPlace K a) := by
  refine T.F_Wheel_place.okR sc_Wheel_place (fun vs H Q E h => ?_) (fun cdv A outer s H vs Q E hr h => ?_)
  · obtain ⟨p, n, st, s0, l, b, rfl, _⟩ := h; rfl
  · obtain ⟨p, n, st, s0, l, b, rfl, W, kb, kq, ke⟩ := h
    obtain ⟨⟨dx, hp⟩, n1, n2, st1, st2, s1, s2⟩ := id W
    refine ⟨_, (@pss_one _ _ _ (@ps_ret _ _ _ _ (@pe_op _ _ _ _ _ _ _ _ op_mod (pe_methS (pv 0) T.cl T.me_reached (ok_Wheel_reached T) (hr.mono (by decide)) (b_Wheel_reached T) .nil (pass_fn fun _ _ _ _ h => h) (@pa_consN _ _ _ _ _ (pv 1) (@pa_nil _) rfl)) (@pe_fld _ _ _ _ _ (pv 0) rfl)))), ?_⟩
    refine ⟨_, rfl, p, dx, _, rfl, hp, wf_no _ _ _ _, _, rfl, p, n, st, s0, l, b, rfl, W, kb, fun v e v1 v2 => ?_, ke⟩
    refine ⟨_, rfl, p, a.W, dx, _, _, rfl, hp, T.cl, T.a_size, wf_size _ _ _ _, _, _, rfl, rfl, (by show (0 : Int) < n; omega), ?_⟩
    exact kq v e v1 v2
end
theorem WheelAt.same {W : Addr} {H H' : Hp} {p : Addr} {n st s0 l : Int} (s : Same H H') (h : WheelAt W H p n st s0 l) : WheelAt W H' p n st s0 l :=
  ⟨let ⟨dx, e⟩ := h.at_; ⟨dx, s _ _ e⟩, h.n1, h.n2, h.st1, h.st2, h.s1, h.s2⟩
theorem okW_of {n st s0 : Int} (a1 : 1 ≤ n) (a2 : n ≤ G60) (b1 : -G60 ≤ st) (b2 : st ≤ G60) (c1 : -G60 ≤ s0) (c2 : s0 ≤ G60) : okW (.int n) (.int st) (.int s0) = true := by
  unfold okW
  rw [wholeIn_of a1 a2, wholeIn_of b1 b2, wholeIn_of c1 c2]; rfl
/-- a wheel just made -/
theorem made {W : Addr} {H : Hp} {x dx : Addr} {n st s0 : Int} (hx : H x = none) (hdx : H dx = none) (ne : dx ≠ x) (n1 : 1 ≤ n) (n2 : n ≤ G60) :
    Same H (upd (upd (upd H dx (.own x)) x (.ins W dx [])) x (.ins W dx (wf n (st % n) (s0 % n) (lapOf n st)))) ∧
      WheelAt W (upd (upd (upd H dx (.own x)) x (.ins W dx [])) x (.ins W dx (wf n (st % n) (s0 % n) (lapOf n st)))) x n (st % n) (s0 % n) (lapOf n st) := by
  refine ⟨fun b o e => ?_, ⟨dx, upd_same⟩, n1, n2, Int.emod_nonneg _ (by omega), Int.emod_lt_of_pos _ (by omega), Int.emod_nonneg _ (by omega), Int.emod_lt_of_pos _ (by omega)⟩
  rw [upd_ne (ne_of_none e hx), upd_ne (ne_of_none e hx), upd_ne (ne_of_none e hdx)]
  exact e
/-- the fields of neighbours -/
def nf (ah x bh y : Int) : List (Str × V) := [("ahead", .int ah), ("near", .int x), ("behind", .int bh), ("back", .int y)]
theorem nf_put (ah x bh y : Int) : putF "back" (.int y) (putF "behind" (.int bh) (putF "near" (.int x) (putF "ahead" (.int ah) []))) = nf ah x bh y := by
  have e1 : ¬ (("ahead" : Str) = "near") := by decide +kernel
  have e2 : ¬ (("ahead" : Str) = "behind") := by decide +kernel
  have e3 : ¬ (("ahead" : Str) = "back") := by decide +kernel
  have e4 : ¬ (("near" : Str) = "behind") := by decide +kernel
  have e5 : ¬ (("near" : Str) = "back") := by decide +kernel
  have e6 : ¬ (("behind" : Str) = "back") := by decide +kernel
  simp only [putF, nf, if_neg e1, if_neg e2, if_neg e3, if_neg e4, if_neg e5, if_neg e6]
theorem nf_put2 (ah x bh y ah' x' : Int) : putF "near" (.int x') (putF "ahead" (.int ah') (nf ah x bh y)) = nf ah' x' bh y := by
  have e1 : ¬ (("ahead" : Str) = "near") := by decide +kernel
  simp only [putF, nf, if_neg e1, ↓reduceIte]
theorem nf_put3 (ah x bh y bh' y' : Int) : putF "back" (.int y') (putF "behind" (.int bh') (nf ah x bh y)) = nf ah x bh' y' := by
  have e2 : ¬ (("ahead" : Str) = "behind") := by decide +kernel
  have e3 : ¬ (("ahead" : Str) = "back") := by decide +kernel
  have e4 : ¬ (("near" : Str) = "behind") := by decide +kernel
  have e5 : ¬ (("near" : Str) = "back") := by decide +kernel
  have e6 : ¬ (("behind" : Str) = "back") := by decide +kernel
  simp only [putF, nf, if_neg e2, if_neg e3, if_neg e4, if_neg e5, if_neg e6, ↓reduceIte]
theorem nf_ahead (ah x bh y : Int) : (nf ah x bh y).lookup ("ahead" : Str) = some (.int ah) := by rfl
theorem nf_near (ah x bh y : Int) : (nf ah x bh y).lookup ("near" : Str) = some (.int x) := by rfl
theorem nf_behind (ah x bh y : Int) : (nf ah x bh y).lookup ("behind" : Str) = some (.int bh) := by rfl
theorem nf_back (ah x bh y : Int) : (nf ah x bh y).lookup ("back" : Str) = some (.int y) := by rfl
theorem nf_no (ah x bh y : Int) {m : Str} (h : (nf ah x bh y).lookup m = none := by rfl) : (nf ah x bh y).lookup m = none := h
theorem Same.old {H H' : Hp} {q : Addr} {o : HO} (s : Same H H') (h : H q = none) : Same H (upd H' q o) := fun b u e => by rw [upd_ne (ne_of_none e h)]; exact s b u e
section
variable {P : Program} {w : World} {K : PySem.W.Frag} {mg : Str → Option Value} {base : Heap} {a : Adr}
def spNbInit (a : Adr) : Sp := fun vs H Q _ => ∃ (q dq p : Addr) (n st s0 l : Int), vs = [.ref q, .ref p] ∧ H q = some (.ins a.Nb dq []) ∧ WheelAt a.W H p n st s0 l ∧ Q .non (upd H q (.ins a.Nb dq (nf 1 st 1 (n - st))))
theorem ok_Neighbours___init__ (T : Txt K mg a) : FnOk P w K mg base (CXR P w) 1 a.Neighbours___init__.f a.Neighbours___init__.fd ["self", "wheel"] (spNbInit a) := by
  refine T.F_Neighbours___init__.okN sc_Neighbours___init__ (fun vs H Q E h => ?_) (fun cdv A outer s H vs Q E hr h => ?_)
  · obtain ⟨q, dq, p, n, st, s0, l, rfl, _⟩ := h; rfl
  · obtain ⟨q, dq, p, n, st, s0, l, rfl, hq, ⟨⟨dx, hp⟩, _⟩, kq⟩ := h
    have ne : p ≠ q := fun e => by
      subst e
      have e := HO.ins.inj (Option.some.inj (hp.symm.trans hq))
      exact absurd e.2.2 (by unfold wf; simp)
    refine ⟨_, (@pss_cons _ _ _ _ _ (@ps_fld _ _ _ _ _ _ _ _ (pv 0) (@pe_int _ _ _ _) rfl) (@pss_cons _ _ _ _ _ (@ps_fld _ _ _ _ _ _ _ _ (pv 0) (@pe_fld _ _ _ _ _ (pv 1) rfl) rfl) (@pss_cons _ _ _ _ _ (@ps_fld _ _ _ _ _ _ _ _ (pv 0) (@pe_int _ _ _ _) rfl) (@pss_one _ _ _ (@ps_fld _ _ _ _ _ _ _ _ (pv 0) (@pe_op _ _ _ _ _ _ _ _ op_sub (@pe_fld _ _ _ _ _ (pv 1) rfl) (@pe_fld _ _ _ _ _ (pv 1) rfl)) rfl))))), ?_⟩
    refine ⟨_, rfl, q, a.Nb, dq, _, rfl, hq, T.cl_Neighbours, T.a_ahead, (by show 0 < 1000; decide), ?_⟩
    refine ⟨_, rfl, p, a.W, dx, _, _, rfl, (by rw [upd_ne ne]; exact hp), T.cl, T.a_step, wf_step _ _ _ _, _, rfl, q, a.Nb, dq, _, rfl, upd_same, T.cl_Neighbours, T.a_near, (by show 1 < 1000; decide), ?_⟩
    refine ⟨_, rfl, q, a.Nb, dq, _, rfl, upd_same, T.cl_Neighbours, T.a_behind, (by show 2 < 1000; decide), ?_⟩
    refine ⟨_, rfl, p, a.W, dx, _, _, rfl, (by rw [upd_ne ne, upd_ne ne, upd_ne ne]; exact hp), T.cl, T.a_size, wf_size _ _ _ _, _, rfl, p, a.W, dx, _, _, rfl, (by rw [upd_ne ne, upd_ne ne, upd_ne ne]; exact hp), T.cl, T.a_step, wf_step _ _ _ _, _, _, rfl, rfl, ?_⟩
    refine ⟨_, rfl, q, a.Nb, dq, _, rfl, upd_same, T.cl_Neighbours, T.a_back, (by show 3 < 1000; decide), ?_⟩
    rw [upd_upd, upd_upd, upd_upd]
    have e := kq
    rw [← nf_put] at e
    exact e
def Bd (x : Int) : Prop := -G60 ≤ x ∧ x ≤ G60
def spDraw (a : Adr) (f : Int → Int → Int → Int → Int → List (Str × V)) (u v c : Int → Int → Int → Int → Int) : Sp := fun vs H Q _ => ∃ (q dq : Addr) (ah x bh y mo : Int), vs = [.ref q, .int mo] ∧ H q = some (.ins a.Nb dq (nf ah x bh y)) ∧ Bd ah ∧ Bd x ∧ Bd bh ∧ Bd y ∧ Bd mo ∧ 1 ≤ u ah x bh y ∧ 1 ≤ v ah x bh y ∧
  Q .non (upd H q (.ins a.Nb dq (f (if mo < (v ah x bh y - 1) / u ah x bh y then mo else (v ah x bh y - 1) / u ah x bh y) ah x bh y)))
theorem min_bd {x y mo : Int} (h1 : 1 ≤ y) (h2 : 1 ≤ x) (h3 : x ≤ G60) (hm : Bd mo) : Bd (if mo < (x - 1) / y then mo else (x - 1) / y) := by
  have d := div_abs (x := x - 1) (B := G60) h1 (by have := G60_pos; omega) (by omega)
  split
  · exact hm
  · exact d
def fAhead (t ah x bh y : Int) : List (Str × V) := nf (ah + t * bh) (x - t * y) bh y
def fBehind (t ah x bh y : Int) : List (Str × V) := nf ah x (bh + t * ah) (y - t * x)
theorem ok_Neighbours_draw_ahead (T : Txt K mg a) : FnOk P w K mg base (CXR P w) 1 a.Neighbours_draw_ahead.f a.Neighbours_draw_ahead.fd ["self", "most"] (spDraw a fAhead (fun _ _ _ y => y) (fun _ x _ _ => x) (fun _ _ b _ => b)) := by
  refine T.F_Neighbours_draw_ahead.okN sc_Neighbours_draw_ahead (fun vs H Q E h => ?_) (fun cdv A outer s H vs Q E hr h => ?_)
  · obtain ⟨q, dq, ah, x, bh, y, mo, rfl, _⟩ := h; rfl
  · obtain ⟨q, dq, ah, x, bh, y, mo, rfl, hq, bah, bx, bbh, by_, bmo, u1, v1, kq⟩ := h
    have tb := min_bd u1 v1 bx.2 bmo
    refine ⟨_, (@pss_cons _ _ _ _ _ (@ps_set _ _ 2 _ _ _ _ sc_Neighbours_draw_ahead.nd rfl (Or.inl rfl) (pe_callB (call_min2 rfl) rfl T.n_min bt_min (@pa_consN _ _ _ _ _ (@pe_op _ _ _ _ _ _ _ _ op_fdivB (@pe_op _ _ _ _ _ _ _ _ op_sub (@pe_fld _ _ _ _ _ (pv 0) rfl) (@pe_int _ _ _ _)) (@pe_fld _ _ _ _ _ (pv 0) rfl)) (@pa_consN _ _ _ _ _ (pv 1) (@pa_nil _) rfl) rfl)) (by rfl) (by first | exact .inl rfl | exact .inr rfl | assumption)) (@pss_cons _ _ _ _ _ (@ps_fld _ _ _ _ _ _ _ _ (pv 0) (@pe_op _ _ _ _ _ _ _ _ op_add (@pe_fld _ _ _ _ _ (pv 0) rfl) (@pe_op _ _ _ _ _ _ _ _ op_mulA (pv 2) (@pe_fld _ _ _ _ _ (pv 0) rfl))) rfl) (@pss_one _ _ _ (@ps_fld _ _ _ _ _ _ _ _ (pv 0) (@pe_op _ _ _ _ _ _ _ _ op_sub (@pe_fld _ _ _ _ _ (pv 0) rfl) (@pe_op _ _ _ _ _ _ _ _ op_mulA (pv 2) (@pe_fld _ _ _ _ _ (pv 0) rfl))) rfl)))), ?_⟩
    refine ⟨_, rfl, q, a.Nb, dq, _, _, rfl, hq, T.cl_Neighbours, T.a_near, nf_near _ _ _ _, _, _, rfl, rfl, _, rfl, q, a.Nb, dq, _, _, rfl, hq, T.cl_Neighbours, T.a_back, nf_back _ _ _ _, _, _, rfl, rfl, ⟨u1, big_g by_⟩, _, rfl, _, _, rfl, ?_⟩
    have kq : Q .non (upd H q (.ins a.Nb dq (fAhead (if mo < (x - 1) / y then mo else (x - 1) / y) ah x bh y))) := kq
    have tb : Bd (if mo < (x - 1) / y then mo else (x - 1) / y) := tb
    dsimp only at kq ⊢
    generalize (if mo < (x - 1) / y then mo else (x - 1) / y) = t at tb kq ⊢
    refine ⟨_, rfl, q, a.Nb, dq, _, _, rfl, hq, T.cl_Neighbours, T.a_ahead, nf_ahead _ _ _ _, _, rfl, _, rfl, q, a.Nb, dq, _, _, rfl, hq, T.cl_Neighbours, T.a_behind, nf_behind _ _ _ _, _, _, rfl, rfl, mulB (big_g tb) (big_g bbh), _, _, rfl, rfl, ?_⟩
    refine ⟨_, rfl, q, a.Nb, dq, _, rfl, hq, T.cl_Neighbours, T.a_ahead, (by show 4 < 1000; decide), ?_⟩
    refine ⟨_, rfl, q, a.Nb, dq, _, _, rfl, upd_same, T.cl_Neighbours, T.a_near, rfl, _, rfl, _, rfl, q, a.Nb, dq, _, _, rfl, upd_same, T.cl_Neighbours, T.a_back, rfl, _, _, rfl, rfl, mulB (big_g tb) (big_g by_), _, _, rfl, rfl, ?_⟩
    refine ⟨_, rfl, q, a.Nb, dq, _, rfl, upd_same, T.cl_Neighbours, T.a_near, (by show 4 < 1000; decide), ?_⟩
    rw [upd_upd]
    unfold fAhead at kq
    rw [← nf_put2 ah x bh y] at kq
    exact kq
theorem ok_Neighbours_draw_behind (T : Txt K mg a) : FnOk P w K mg base (CXR P w) 1 a.Neighbours_draw_behind.f a.Neighbours_draw_behind.fd ["self", "most"] (spDraw a fBehind (fun _ x _ _ => x) (fun _ _ _ y => y) (fun a _ _ _ => a)) := by
  refine T.F_Neighbours_draw_behind.okN sc_Neighbours_draw_behind (fun vs H Q E h => ?_) (fun cdv A outer s H vs Q E hr h => ?_)
  · obtain ⟨q, dq, ah, x, bh, y, mo, rfl, _⟩ := h; rfl
  · obtain ⟨q, dq, ah, x, bh, y, mo, rfl, hq, bah, bx, bbh, by_, bmo, u1, v1, kq⟩ := h
    have tb := min_bd u1 v1 by_.2 bmo
    refine ⟨_, (@pss_cons _ _ _ _ _ (@ps_set _ _ 2 _ _ _ _ sc_Neighbours_draw_behind.nd rfl (Or.inl rfl) (pe_callB (call_min2 rfl) rfl T.n_min bt_min (@pa_consN _ _ _ _ _ (@pe_op _ _ _ _ _ _ _ _ op_fdivB (@pe_op _ _ _ _ _ _ _ _ op_sub (@pe_fld _ _ _ _ _ (pv 0) rfl) (@pe_int _ _ _ _)) (@pe_fld _ _ _ _ _ (pv 0) rfl)) (@pa_consN _ _ _ _ _ (pv 1) (@pa_nil _) rfl) rfl)) (by rfl) (by first | exact .inl rfl | exact .inr rfl | assumption)) (@pss_cons _ _ _ _ _ (@ps_fld _ _ _ _ _ _ _ _ (pv 0) (@pe_op _ _ _ _ _ _ _ _ op_add (@pe_fld _ _ _ _ _ (pv 0) rfl) (@pe_op _ _ _ _ _ _ _ _ op_mulA (pv 2) (@pe_fld _ _ _ _ _ (pv 0) rfl))) rfl) (@pss_one _ _ _ (@ps_fld _ _ _ _ _ _ _ _ (pv 0) (@pe_op _ _ _ _ _ _ _ _ op_sub (@pe_fld _ _ _ _ _ (pv 0) rfl) (@pe_op _ _ _ _ _ _ _ _ op_mulA (pv 2) (@pe_fld _ _ _ _ _ (pv 0) rfl))) rfl)))), ?_⟩
    refine ⟨_, rfl, q, a.Nb, dq, _, _, rfl, hq, T.cl_Neighbours, T.a_back, nf_back _ _ _ _, _, _, rfl, rfl, _, rfl, q, a.Nb, dq, _, _, rfl, hq, T.cl_Neighbours, T.a_near, nf_near _ _ _ _, _, _, rfl, rfl, ⟨u1, big_g bx⟩, _, rfl, _, _, rfl, ?_⟩
    have kq : Q .non (upd H q (.ins a.Nb dq (fBehind (if mo < (y - 1) / x then mo else (y - 1) / x) ah x bh y))) := kq
    have tb : Bd (if mo < (y - 1) / x then mo else (y - 1) / x) := tb
    dsimp only at kq ⊢
    generalize (if mo < (y - 1) / x then mo else (y - 1) / x) = t at tb kq ⊢
    refine ⟨_, rfl, q, a.Nb, dq, _, _, rfl, hq, T.cl_Neighbours, T.a_behind, nf_behind _ _ _ _, _, rfl, _, rfl, q, a.Nb, dq, _, _, rfl, hq, T.cl_Neighbours, T.a_ahead, nf_ahead _ _ _ _, _, _, rfl, rfl, mulB (big_g tb) (big_g bah), _, _, rfl, rfl, ?_⟩
    refine ⟨_, rfl, q, a.Nb, dq, _, rfl, hq, T.cl_Neighbours, T.a_behind, (by show 4 < 1000; decide), ?_⟩
    refine ⟨_, rfl, q, a.Nb, dq, _, _, rfl, upd_same, T.cl_Neighbours, T.a_back, rfl, _, rfl, _, rfl, q, a.Nb, dq, _, _, rfl, upd_same, T.cl_Neighbours, T.a_near, rfl, _, _, rfl, rfl, mulB (big_g tb) (big_g bx), _, _, rfl, rfl, ?_⟩
    refine ⟨_, rfl, q, a.Nb, dq, _, rfl, upd_same, T.cl_Neighbours, T.a_back, (by show 4 < 1000; decide), ?_⟩
    rw [upd_upd]
    unfold fBehind at kq
    rw [← nf_put3 ah x bh y] at kq
    exact kq
theorem Nbr.bd {n s ah x bh y : Int} (F : Nbr n s ah x bh y) (n2 : n ≤ G60) : Bd ah ∧ Bd x ∧ Bd bh ∧ Bd y := by
  have h1 : bh * 1 ≤ bh * x := Int.mul_le_mul_of_nonneg_left F.x1 (by have := F.b1; omega)
  have h2 : ah * 1 ≤ ah * y := Int.mul_le_mul_of_nonneg_left F.y1 (by have := F.a1; omega)
  have h3 := F.xn
  have := F.det; have := F.x1; have := F.y1; have := F.a1; have := F.b1; have := G60_pos
  exact ⟨⟨by omega, by omega⟩, ⟨by omega, by omega⟩, ⟨by omega, by omega⟩, ⟨by omega, by omega⟩⟩
/-- neighbours just made -/
theorem madeN {C : Addr} {H : Hp} {x dx : Addr} {fs : List (Str × V)} (hx : H x = none) (hdx : H dx = none) (ne : dx ≠ x) :
    Same H (upd (upd (upd H dx (.own x)) x (.ins C dx [])) x (.ins C dx fs)) := fun b o e => by
  rw [upd_ne (ne_of_none e hx), upd_ne (ne_of_none e hx), upd_ne (ne_of_none e hdx)]
  exact e
end
def Row.vals (r : Row) : List V := [.int r.b, .int r.f, .int r.a, .int r.x, .int r.t]
def RowsAt (H : Hp) (ts : List Addr) (rs : List Row) : Prop := ts.length = rs.length ∧ ∀ (i : Nat) t r, ts[i]? = some t → rs[i]? = some r → H t = some (.tup r.vals)
theorem RowsAt.same {H H' : Hp} {ts : List Addr} {rs : List Row} (s : Same H H') (h : RowsAt H ts rs) : RowsAt H' ts rs := ⟨h.1, fun i t r e1 e2 => s _ _ (h.2 i t r e1 e2)⟩
theorem RowsAt.snoc {H : Hp} {ts : List Addr} {rs : List Row} {t : Addr} {r : Row} (h : RowsAt H ts rs) (e : H t = some (.tup r.vals)) : RowsAt H (ts ++ [t]) (rs ++ [r]) := by
  refine ⟨by simp [h.1], fun i u v e1 e2 => ?_⟩
  rcases (by omega : i < ts.length ∨ i = ts.length ∨ ts.length < i) with c | c | c
  · rw [List.getElem?_append_left c] at e1
    rw [List.getElem?_append_left (by rw [← h.1]; exact c)] at e2
    exact h.2 i u v e1 e2
  · subst c
    rw [List.getElem?_append_right (Nat.le_refl _), Nat.sub_self] at e1
    rw [List.getElem?_append_right (by rw [h.1]; exact Nat.le_refl _), h.1, Nat.sub_self] at e2
    cases e1; cases e2
    exact e
  · rw [List.getElem?_eq_none (by simp; omega)] at e1
    cases e1
theorem small_len {x y : Int} {len : Nat} (hx : 1 ≤ x) (h : x * 2 ^ len ≤ y) (hy : y ≤ G60) : len < 200 := by
  apply Decidable.byContradiction
  intro c
  have e1 : (2 : Int) ^ 200 ≤ 2 ^ len := by
    have := Nat.pow_le_pow_right (n := 2) (by decide) (by omega : 200 ≤ len)
    have e : ((2 ^ 200 : Nat) : Int) ≤ ((2 ^ len : Nat) : Int) := by exact_mod_cast this
    simpa using e
  have e2 : G60 < 2 ^ 200 := by decide
  have e4 : (0 : Int) ≤ 2 ^ 200 := by decide
  have e3 : 1 * (2 : Int) ^ len ≤ x * 2 ^ len := Int.mul_le_mul_of_nonneg_right hx (by omega)
  omega
section
variable {P : Program} {w : World} {K : PySem.W.Frag} {mg : Str → Option Value} {base : Heap} {a : Adr}
def spRound : Sp := fun vs H Q _ => ∃ d y : Int, vs = [.int d, .int y] ∧ 1 ≤ y ∧ y ≤ G60 ∧ Q (.int (-(-d / y))) H
theorem ok_rounded_up (T : Txt K mg a) : FnOk P w K mg base (CXR P w) 1 a.rounded_up.f a.rounded_up.fd ["number", "divisor"] spRound := by
  refine T.F_rounded_up.okN sc_rounded_up (fun vs H Q E h => ?_) (fun cdv A outer s H vs Q E hr h => ?_)
  · obtain ⟨d, y, rfl, _⟩ := h; rfl
  · obtain ⟨d, y, rfl, y1, y2, kq⟩ := h
    refine ⟨_, (@pss_one _ _ _ (@ps_ret _ _ _ _ (@pe_un _ _ _ _ _ _ un_neg (@pe_op _ _ _ _ _ _ _ _ op_fdivB (@pe_un _ _ _ _ _ _ un_neg (pv 0)) (pv 1))))), ?_⟩
    exact ⟨_, rfl, _, rfl, _, rfl, _, _, rfl, rfl, ⟨y1, big_g ⟨by have := G60_pos; omega, y2⟩⟩, _, rfl, kq⟩
def spWithin (a : Adr) : Sp := fun vs H Q _ => ∃ (q dq : Addr) (n st l g ah x bh y far : Int), vs = [.ref q, .int far] ∧ H q = some (.ins a.Nb dq (nf ah x bh y)) ∧ Nbr n st ah x bh y ∧ n ≤ G60 ∧ IsLap n st l ∧ l * g = n ∧ g ≤ far ∧ 0 ≤ far ∧ far < n ∧ (far < x ∨ ah = 1) ∧
  ∀ ah' x' bh' y', Nbr n st ah' x' bh' y' → Fst n st far ah' x' → Q .non (upd H q (.ins a.Nb dq (nf ah' x' bh' y')))
theorem upd_id {H : Hp} {q : Addr} {o : HO} (h : H q = some o) : upd H q o = H := by
  funext b
  by_cases e : b = q
  · subst e; rw [upd_same, h]
  · rw [upd_ne e]
theorem ok_draw_within (T : Txt K mg a) : FnOk P w K mg base (CXR P w) 2 a.draw_within.f a.draw_within.fd ["zero", "far"] (spWithin a) := by
  refine T.F_draw_within.okN sc_draw_within (fun vs H Q E h => ?_) (fun cdv A outer s H vs Q E hr h => ?_)
  · obtain ⟨q, dq, n, st, l, g, ah, x, bh, y, far, rfl, _⟩ := h; rfl
  · obtain ⟨q, dq, n, st, l, g, ah, x, bh, y, far, rfl, hq, N, n2, L, lg, gf, f0, f1, hx, kq⟩ := h
    refine ⟨_, (@pss_one _ _ _ (@ps_while _ _ _ _ _ _ PassesOwn.never (@pt_cmpR _ _ _ _ _ _ _ _ op_gt (@pe_fld _ _ _ _ _ (pv 0) rfl) (pv 1) (nomark _)) (@pss_one _ _ _ (@ps_if _ _ _ _ _ _ _ _ (@pt_cmpR _ _ _ _ _ _ _ _ op_gt (@pe_fld _ _ _ _ _ (pv 0) rfl) (@pe_fld _ _ _ _ _ (pv 0) rfl) (nomark _)) (@pss_one _ _ _ (@ps_expr _ _ _ _ (pe_meth (pv 0) T.cl_Neighbours T.me_draw_ahead (ok_Neighbours_draw_ahead T) (hr.mono (by decide)) (b_Neighbours_draw_ahead T) .nil passR (@pa_consN _ _ _ _ _ (pe_call (ok_rounded_up T) (hr.mono (by decide)) rfl T.m_rounded_up T.F_rounded_up.kp (b_rounded_up T) .nil passR (@pa_consN _ _ _ _ _ (@pe_op _ _ _ _ _ _ _ _ op_sub (@pe_fld _ _ _ _ _ (pv 0) rfl) (pv 1)) (@pa_consN _ _ _ _ _ (@pe_fld _ _ _ _ _ (pv 0) rfl) (@pa_nil _) rfl) rfl)) (@pa_nil _) rfl)) (by rfl))) (@pss_one _ _ _ (@ps_expr _ _ _ _ (pe_meth (pv 0) T.cl_Neighbours T.me_draw_behind (ok_Neighbours_draw_behind T) (hr.mono (by decide)) (b_Neighbours_draw_behind T) .nil passR (@pa_consN _ _ _ _ _ (@pe_fld _ _ _ _ _ (pv 0) rfl) (@pa_nil _) rfl)) (by rfl))))))), ?_⟩
    have hx' : far < x ∨ Fst n st far ah x := by
      rcases (by omega : far < x ∨ x ≤ far) with c | c
      · exact .inl c
      · exact .inr (Fst.of_one N (by omega) c)
    refine ⟨fun k σ H' => ∃ (ah x bh y : Int), σ = [some (.ref q), some (.int far)] ∧ H' = upd H q (.ins a.Nb dq (nf ah x bh y)) ∧ Nbr n st ah x bh y ∧ (far < x ∨ Fst n st far ah x) ∧ k = (x + y).toNat,
      ⟨_, ah, x, bh, y, rfl, (upd_id hq).symm, N, hx', rfl⟩, ?_⟩
    clear hq N hx hx'
    rintro k σ H' ⟨ah, x, bh, y, rfl, rfl, N, hx, rfl⟩
    have a1 := N.a1; have b1 := N.b1; have x1 := N.x1; have y1 := N.y1
    obtain ⟨dah, dx_, dbh, dy⟩ := N.bd n2
    have hq' : (upd H q (.ins a.Nb dq (nf ah x bh y))) q = some (.ins a.Nb dq (nf ah x bh y)) := upd_same
    refine ⟨_, rfl, q, a.Nb, dq, _, _, rfl, hq', T.cl_Neighbours, T.a_near, nf_near _ _ _ _, _, rfl, _, _, rfl, rfl, _, rfl, ?_⟩
    refine ite2 (fun h => ?_) (fun h => ?_)
    · have h : far < x := by simpa using h
      refine ⟨_, fun σ' H'' h => h, ?_⟩
      refine ⟨_, rfl, q, a.Nb, dq, _, _, rfl, hq', T.cl_Neighbours, T.a_near, nf_near _ _ _ _, _, rfl, q, a.Nb, dq, _, _, rfl, hq', T.cl_Neighbours, T.a_back, nf_back _ _ _ _, _, _, rfl, rfl, _, rfl, ?_⟩
      refine ite2 (fun c => ?_) (fun c => ?_)
      · have c : y < x := by simpa using c
        have qp := quot_pred x1 y1
        have cl := ceil_ok (d := x - far) (y := y) (by omega) y1
        refine ⟨_, rfl, q, dq, _, rfl, hq', nf_no _ _ _ _, _, rfl, q, a.Nb, dq, _, _, rfl, hq', T.cl_Neighbours, T.a_near, nf_near _ _ _ _, _, rfl, _, _, rfl, rfl, _, rfl, q, a.Nb, dq, _, _, rfl, hq', T.cl_Neighbours, T.a_back, nf_back _ _ _ _, x - far, y, rfl, y1, dy.2, ?_⟩
        refine ⟨q, dq, ah, x, bh, y, _, rfl, hq', dah, dx_, dbh, dy, ⟨by have := G60_pos; omega, by have := dx_.2; omega⟩, y1, x1, ?_⟩
        dsimp only
        obtain ⟨t, ht⟩ : ∃ t, t = (if -(-(x - far) / y) < (x - 1) / y then -(-(x - far) / y) else (x - 1) / y) := ⟨_, rfl⟩
        rw [← ht]
        have t1 : 1 ≤ t := by have := qp.2.2 c; rw [ht]; split <;> omega
        have tq : t ≤ (x - 1) / y := by rw [ht]; split <;> omega
        have tc : t ≤ -(-(x - far) / y) := by rw [ht]; split <;> omega
        have ty : t * y ≤ (x - 1) / y * y := Int.mul_le_mul_of_nonneg_right tq (by omega)
        have tcy : (t - 1) * y ≤ (-(-(x - far) / y) - 1) * y := Int.mul_le_mul_of_nonneg_right (by omega) (by omega)
        have yt : 1 * y ≤ t * y := Int.mul_le_mul_of_nonneg_right t1 (by omega)
        refine ⟨(x - t * y + y).toNat, by omega, _, _, _, _, rfl, ?_, N.ahead (by omega) (by omega), ?_, rfl⟩
        · rw [upd_upd]; rfl
        · rcases (by omega : far < x - t * y ∨ x - t * y ≤ far) with z | z
          · exact .inl z
          · exact .inr (N.drawn t1 (by omega) h (by omega) z)
      · have c : ¬ y < x := by simpa using c
        have ne : x ≠ y := fun e => by
          have := N.eq_g L lg e
          omega
        have qp := quot_pred y1 x1
        have dl := Int.ediv_le_self (a := y - 1) x (by omega)
        refine ⟨_, rfl, q, dq, _, rfl, hq', nf_no _ _ _ _, _, rfl, q, a.Nb, dq, _, _, rfl, hq', T.cl_Neighbours, T.a_back, nf_back _ _ _ _, ?_⟩
        refine ⟨q, dq, ah, x, bh, y, _, rfl, hq', dah, dx_, dbh, dy, dy, x1, y1, ?_⟩
        dsimp only
        rw [if_neg (by omega)]
        have t1 := qp.2.2 (by omega)
        generalize (y - 1) / x = t at *
        have yt : 1 * x ≤ t * x := Int.mul_le_mul_of_nonneg_right t1 (by omega)
        refine ⟨(x + (y - t * x)).toNat, by omega, _, _, _, _, rfl, ?_, N.behind (by omega) (by omega), .inl h, rfl⟩
        rw [upd_upd]; rfl
    · have h : ¬ far < x := by simpa using h
      rcases hx with z | z
      · exact absurd z h
      · exact kq _ _ _ _ N z
def spNearing (K : PySem.W.Frag) (a : Adr) : Sp := fun vs H Q E => ∃ (p : Addr) (n st s0 l : Int) (b : V), vs = [.ref p, b] ∧ WheelAt a.W H p n st s0 l ∧ IsLap n st l ∧ Known K H b ∧
  (∀ v, b = .int v → 0 ≤ v → v < n → ∀ (r : Addr) (ts : List Addr) (rs : List Row) (H' : Hp), H r = none → Same H H' → H' r = some (.lst (ts.map V.ref)) → RowsAt H' ts rs → Chain n st (Int.gcd n st : Nat) 0 ((v - s0) % n) rs → rs.length ≤ 200 → Q (.ref r) H') ∧ (wholeIn b 0 (n - 1) = false → E (.ref a.NoPlace) none H)
theorem ok_nearing (T : Txt K mg a) : FnOk P w K mg base (CXR P w) 3 a.nearing.f a.nearing.fd ["wheel", "place"] (spNearing K a) := by
  refine T.F_nearing.okR sc_nearing (fun vs H Q E h => ?_) (fun cdv A outer s H vs Q E hr h => ?_)
  · obtain ⟨p, n, st, s0, l, b, rfl, _⟩ := h; rfl
  · obtain ⟨p, n, st, s0, l, b, rfl, W, L, kb, kq, ke⟩ := h
    obtain ⟨⟨dx, hp⟩, n1, n2, st1, st2, s1, s2⟩ := id W
    have gp := G60_pos
    refine ⟨_, (@pss_cons _ _ _ _ _ (@ps_expr _ _ _ _ (pe_callS (ok_check_place T) (hr.mono (by decide)) rfl T.m_check_place T.F_check_place.kp (b_check_place T) .nil (pass_fn fun _ _ _ _ h => h) (@pa_consN _ _ _ _ _ (pv 0) (@pa_consN _ _ _ _ _ (pv 1) (@pa_nil _) rfl) rfl)) (by rfl)) (@pss_cons _ _ _ _ _ (@ps_set _ _ 2 _ _ _ _ sc_nearing.nd rfl (Or.inl rfl) (@pe_lst _ _ _ _ (@pa_nil _)) (by rfl) (by first | exact .inl rfl | exact .inr rfl | assumption)) (@pss_cons _ _ _ _ _ (@ps_set _ _ 3 _ _ _ _ sc_nearing.nd rfl (Or.inl rfl) (@pe_int _ _ _ _) (by rfl) (by first | exact .inl rfl | exact .inr rfl | assumption)) (@pss_cons _ _ _ _ _ (@ps_set _ _ 4 _ _ _ _ sc_nearing.nd rfl (Or.inl rfl) (@pe_op _ _ _ _ _ _ _ _ op_mod (@pe_op _ _ _ _ _ _ _ _ op_sub (pv 1) (@pe_fld _ _ _ _ _ (pv 0) rfl)) (@pe_fld _ _ _ _ _ (pv 0) rfl)) (by rfl) (by first | exact .inl rfl | exact .inr rfl | assumption)) (@pss_cons _ _ _ _ _ (@ps_set _ _ 5 _ _ _ _ sc_nearing.nd rfl (Or.inl rfl) (pe_call (ok_common T) (hr.mono (by decide)) rfl T.m_common T.F_common.kp (b_common T) .nil passR (@pa_consN _ _ _ _ _ (@pe_fld _ _ _ _ _ (pv 0) rfl) (@pa_consN _ _ _ _ _ (@pe_fld _ _ _ _ _ (pv 0) rfl) (@pa_nil _) rfl) rfl)) (by rfl) (by first | exact .inl rfl | exact .inr rfl | assumption)) (@pss_cons _ _ _ _ _ (@ps_set _ _ 6 _ _ _ _ sc_nearing.nd rfl (Or.inl rfl) (pe_make T.mk_Neighbours (ok_Neighbours___init__ T) (hr.mono (by decide)) rfl T.m_Neighbours (b_Neighbours___init__ T) .nil passR (@pa_consN _ _ _ _ _ (pv 0) (@pa_nil _) rfl)) (by rfl) (by first | exact .inl rfl | exact .inr rfl | assumption)) (@pss_cons _ _ _ _ _ (@PS.nox _ _ _ (@ps_while _ _ _ _ _ _ PassesOwn.never (@pt_cmpR _ _ _ _ _ _ _ _ op_ge (pv 4) (pv 5) (nomark _)) (@pss_cons _ _ _ _ _ (@ps_expr _ _ _ _ (pe_call (ok_draw_within T) (hr.mono (by decide)) rfl T.m_draw_within T.F_draw_within.kp (b_draw_within T) .nil passR (@pa_consN _ _ _ _ _ (pv 6) (@pa_consN _ _ _ _ _ (pv 4) (@pa_nil _) rfl) rfl)) (by rfl)) (@pss_cons _ _ _ _ _ (@ps_set _ _ 7 _ _ _ _ sc_nearing.nd rfl (Or.inl rfl) (@pe_op _ _ _ _ _ _ _ _ op_fdivB (pv 4) (@pe_fld _ _ _ _ _ (pv 6) rfl)) (by rfl) (by first | exact .inl rfl | exact .inr rfl | assumption)) (@pss_cons _ _ _ _ _ (@ps_expr _ _ _ _ (pe_bm PySem.F.plainAttrs_list PySem.F.slot_list_append PySem.F.type_list_append mt_append (pv 2) (@pa_consN _ _ _ _ _ (@pe_tup _ _ _ _ _ (@pa_consN _ _ _ _ _ (pv 3) (@pa_consN _ _ _ _ _ (pv 4) (@pa_consN _ _ _ _ _ (@pe_fld _ _ _ _ _ (pv 6) rfl) (@pa_consN _ _ _ _ _ (@pe_fld _ _ _ _ _ (pv 6) rfl) (@pa_consN _ _ _ _ _ (pv 7) (@pa_nil _) rfl) rfl) rfl) rfl) rfl)) (@pa_nil _) rfl)) (by rfl)) (@pss_cons _ _ _ _ _ (@ps_set _ _ 3 _ _ _ _ sc_nearing.nd rfl (Or.inl rfl) (@pe_op _ _ _ _ _ _ _ _ op_add (pv 3) (@pe_op _ _ _ _ _ _ _ _ op_mulA (pv 7) (@pe_fld _ _ _ _ _ (pv 6) rfl))) (by rfl) (by first | exact .inl rfl | exact .inr rfl | assumption)) (@pss_one _ _ _ (@ps_set _ _ 4 _ _ _ _ sc_nearing.nd rfl (Or.inl rfl) (@pe_op _ _ _ _ _ _ _ _ op_sub (pv 4) (@pe_op _ _ _ _ _ _ _ _ op_mulA (pv 7) (@pe_fld _ _ _ _ _ (pv 6) rfl))) (by rfl) (by first | exact .inl rfl | exact .inr rfl | assumption))))))))) (@pss_one _ _ _ (@ps_ret _ _ _ _ (pv 2)))))))))), ?_⟩
    refine ⟨_, rfl, _, rfl, p, n, st, s0, l, b, rfl, W, kb, fun v e v0 v1 => ?_, ke⟩
    subst e
    refine ⟨by decide, fun r hr => ?_⟩
    have u1 : Same H (upd H r (.lst [])) := Same.fresh hr
    have hp1 := u1 _ _ hp
    have W1 := W.same u1
    have hr1 : (upd H r (.lst [])) r = some (.lst []) := upd_same
    generalize upd H r (.lst []) = H1 at u1 hp1 W1 hr1 ⊢
    refine ⟨_, rfl, _, rfl, p, a.W, dx, _, _, rfl, hp1, T.cl, T.a_start, wf_start _ _ _ _, _, _, rfl, rfl, _, rfl, p, a.W, dx, _, _, rfl, hp1, T.cl, T.a_size, wf_size _ _ _ _, _, _, rfl, rfl, (by show (0 : Int) < n; omega), ?_⟩
    have f0 := Int.emod_nonneg (v - s0) (by omega : n ≠ 0)
    have f1 := Int.emod_lt_of_pos (v - s0) (by omega : 0 < n)
    have kq := kq v rfl v0 v1
    dsimp only
    generalize (v - s0) % n = far0 at f0 f1 kq ⊢
    refine ⟨_, rfl, p, a.W, dx, _, _, rfl, hp1, T.cl, T.a_size, wf_size _ _ _ _, _, rfl, p, a.W, dx, _, _, rfl, hp1, T.cl, T.a_step, wf_step _ _ _ _, n, st, rfl, by omega, st1, ?_⟩
    have g0 : (0 : Int) < ((Int.gcd n st : Nat) : Int) := by
      have := Int.gcd_pos_of_ne_zero_left st (by omega : n ≠ 0)
      omega
    have gn : ((Int.gcd n st : Nat) : Int) ≤ n := Int.le_of_dvd (by omega) (Int.gcd_dvd_left ..)
    have lg : l * ((Int.gcd n st : Nat) : Int) = n := by
      have L2 := lap_is (s := st) n1 st1
      have e : l = n / ((Int.gcd n st : Nat) : Int) := by
        have := L.least _ (by have := L2.l1; omega) L2.back
        have := L2.least _ (by have := L.l1; omega) L.back
        omega
      rw [e]
      exact Int.ediv_mul_cancel (Int.gcd_dvd_left ..)
    have gz : st = 0 → ((Int.gcd n st : Nat) : Int) = n := fun z => by rw [z, Int.gcd_zero_right]; omega
    generalize ((Int.gcd n st : Nat) : Int) = g at g0 gn lg gz kq ⊢
    refine ⟨_, rfl, fun q dq hq hdq hne => ⟨q, dq, p, n, st, s0, l, rfl, upd_same, W1.same (fun b o e => by rw [upd_ne (ne_of_none e hq), upd_ne (ne_of_none e hdq)]; exact e), rfl, ?_⟩⟩
    have sm := madeN (C := a.Nb) (fs := nf 1 st 1 (n - st)) hq hdq hne
    have at0 : (upd (upd (upd H1 dq (.own q)) q (.ins a.Nb dq [])) q (.ins a.Nb dq (nf 1 st 1 (n - st)))) q = some (.ins a.Nb dq (nf 1 st 1 (n - st))) := upd_same
    have hr2 := sm _ _ hr1
    have qr : q ≠ r := fun e => by rw [e, hr1] at hq; cases hq
    have hqH : H q = none := by
      cases e : H q with
      | none => rfl
      | some o => rw [u1 _ _ e] at hq; cases hq
    have u2 := u1.trans sm
    generalize upd (upd (upd H1 dq (.own q)) q (.ins a.Nb dq [])) q (.ins a.Nb dq (nf 1 st 1 (n - st))) = H2 at sm at0 hr2 u2 ⊢
    have stp : g ≤ far0 → 0 < st := fun hg => by
      rcases (by omega : 0 < st ∨ st = 0) with z | z
      · exact z
      · have := gz z; omega
    refine ⟨fun k σ H' => ∃ (B far ah x bh y : Int) (ts : List Addr) (rs : List Row) (u : Option V), σ = [some (.ref p), some (.int v), some (.ref r), some (.int B), some (.int far), some (.int g), some (.ref q), u] ∧ Same H H' ∧ H' q = some (.ins a.Nb dq (nf ah x bh y)) ∧ H' r = some (.lst (ts.map V.ref)) ∧ RowsAt H' ts rs ∧ rs.length ≤ 200 ∧
        (g ≤ far → Nbr n st ah x bh y) ∧ (far < x ∨ ah = 1) ∧ 0 ≤ far ∧ far < n ∧ 0 ≤ B ∧ B ≤ far0 * G60 - far * G60 ∧ far * 2 ^ rs.length ≤ far0 ∧ (∀ rest, Chain n st g B far rest → Chain n st g 0 far0 (rs ++ rest)) ∧ k = far.toNat,
      ⟨_, 0, far0, 1, st, 1, n - st, [], [], none, rfl, u2, at0, hr2, ⟨rfl, fun i t r e => by cases e⟩, by decide, fun hg => Nbr.init (stp hg) st2, .inr rfl, f0, f1, by decide, by omega, by simp, fun rest h => h, rfl⟩, ?_⟩
    rintro k σ H' ⟨B, far, ah, x, bh, y, ts, rs, u, rfl, sm', hq', hr', ra, lr, N, hx, ff0, ff1, B0, B1, pw, ch, rfl⟩
    refine ⟨_, rfl, _, rfl, _, _, rfl, rfl, _, rfl, ?_⟩
    refine ite2 (fun h => ?_) (fun h => ?_)
    · have h : g ≤ far := by simpa using h
      have N := N h
      refine ⟨_, fun σ' H'' h => h, ?_⟩
      refine ⟨_, rfl, _, rfl, q, dq, n, st, l, g, ah, x, bh, y, far, rfl, hq', N, n2, L, lg, h, ff0, ff1, hx, fun ah' x' bh' y' N' F' => ?_⟩
      have hq3 : (upd H' q (.ins a.Nb dq (nf ah' x' bh' y'))) q = some (.ins a.Nb dq (nf ah' x' bh' y')) := upd_same
      have hr3 : (upd H' q (.ins a.Nb dq (nf ah' x' bh' y'))) r = some (.lst (ts.map V.ref)) := by rw [upd_ne (Ne.symm qr)]; exact hr'
      have sm3 : Same H (upd H' q (.ins a.Nb dq (nf ah' x' bh' y'))) := Same.old sm' hqH
      have ra3 : RowsAt (upd H' q (.ins a.Nb dq (nf ah' x' bh' y'))) ts rs := ⟨ra.1, fun i t r e1 e2 => by
        have e := ra.2 i t r e1 e2
        rw [upd_ne (fun z => by rw [z, hq'] at e; cases e)]
        exact e⟩
      generalize upd H' q (.ins a.Nb dq (nf ah' x' bh' y')) = H3 at hq3 hr3 sm3 ra3 ⊢
      have x1 := N'.x1
      obtain ⟨dah, dx_, dbh, dy⟩ := N'.bd n2
      have lo := left_ok x1 F'.xf
      have tb := div_abs (x := far) (B := G60) x1 (by omega) (by omega)
      refine ⟨_, rfl, _, rfl, q, a.Nb, dq, _, _, rfl, hq3, T.cl_Neighbours, T.a_near, nf_near _ _ _ _, _, _, rfl, rfl, ⟨x1, big_g dx_⟩, ?_⟩
      refine ⟨_, rfl, .inl ⟨rfl, _, SqL.of hr3⟩, _, rfl, _, rfl, _, rfl, q, a.Nb, dq, _, _, rfl, hq3, T.cl_Neighbours, T.a_ahead, nf_ahead _ _ _ _, _, rfl, q, a.Nb, dq, _, _, rfl, hq3, T.cl_Neighbours, T.a_near, nf_near _ _ _ _, _, rfl, by show 5 ≤ sizeLine; decide, fun t ht => ?_⟩
      have sm4 : Same H3 (upd H3 t (.tup [.int B, .int far, .int ah', .int x', .int (far / x')])) := Same.fresh ht
      have ht4 : (upd H3 t (.tup [.int B, .int far, .int ah', .int x', .int (far / x')])) t = some (.tup (Row.vals ⟨B, far, ah', x', far / x'⟩)) := upd_same
      have hq4 := sm4 _ _ hq3
      have hr4 := sm4 _ _ hr3
      have ra4 := ra3.same sm4
      have u4 := sm3.trans sm4
      dsimp only
      generalize upd H3 t (.tup [.int B, .int far, .int ah', .int x', .int (far / x')]) = H4 at sm4 ht4 hq4 hr4 ra4 u4 ⊢
      have len : rs.length < 200 := small_len (x := far) (by omega) pw (by omega)
      have lts : (ts.map V.ref).length < sizeLine := by rw [List.length_map, ra.1]; exact small1000 (by omega)
      refine ⟨r, _, _, rfl, rfl, hr4, lts, ?_⟩
      have hq5 : (upd H4 r (.lst (ts.map V.ref ++ [.ref t]))) q = some (.ins a.Nb dq (nf ah' x' bh' y')) := by rw [upd_ne qr]; exact hq4
      have hr5 : (upd H4 r (.lst (ts.map V.ref ++ [.ref t]))) r = some (.lst ((ts ++ [t]).map V.ref)) := by rw [upd_same, List.map_append]; rfl
      have ra5 : RowsAt (upd H4 r (.lst (ts.map V.ref ++ [.ref t]))) (ts ++ [t]) (rs ++ [⟨B, far, ah', x', far / x'⟩]) := by
        have z := ra4.snoc ht4
        refine ⟨z.1, fun i t r' e1 e2 => ?_⟩
        have e := z.2 i t r' e1 e2
        rw [upd_ne (fun z => by rw [z, hr4] at e; cases e)]
        exact e
      have u5 : Same H (upd H4 r (.lst (ts.map V.ref ++ [.ref t]))) := Same.old u4 hr
      generalize upd H4 r (.lst (ts.map V.ref ++ [.ref t])) = H5 at hq5 hr5 ra5 u5 ⊢
      have ahG : ah' ≤ G60 := dah.2
      have e1 : far / x' * ah' ≤ far / x' * x' * G60 := by
        have z1 : far / x' * ah' ≤ far / x' * G60 := Int.mul_le_mul_of_nonneg_left ahG (by omega)
        have z2 : far / x' * G60 ≤ far / x' * x' * G60 := by
          have : far / x' * 1 ≤ far / x' * x' := Int.mul_le_mul_of_nonneg_left x1 (by omega)
          exact Int.mul_le_mul_of_nonneg_right (by omega) (by omega)
        omega
      have e2 : 0 ≤ far / x' * ah' := Int.mul_nonneg (by omega) (by have := N'.a1; omega)
      refine ⟨_, rfl, _, rfl, _, rfl, q, a.Nb, dq, _, _, rfl, hq5, T.cl_Neighbours, T.a_ahead, nf_ahead _ _ _ _, _, _, rfl, rfl, mulB (big_g tb) (big_g dah), _, _, rfl, rfl, ?_⟩
      refine ⟨_, rfl, _, rfl, _, rfl, q, a.Nb, dq, _, _, rfl, hq5, T.cl_Neighbours, T.a_near, nf_near _ _ _ _, _, _, rfl, rfl, mulB (big_g tb) (big_g dx_), _, _, rfl, rfl, ?_⟩
      refine ⟨(far - far / x' * x').toNat, by omega, B + far / x' * ah', far - far / x' * x', ah', x', bh', y', ts ++ [t], rs ++ [⟨B, far, ah', x', far / x'⟩], _, rfl, u5, hq5, hr5, ra5, by rw [List.length_append]; show rs.length + 1 ≤ 200; omega, fun _ => N', .inl lo.2.2.1, lo.2.1, by omega, by omega, ?_, ?_, fun rest hc => ?_, rfl⟩
      · rw [Int.sub_mul]; omega
      · rw [List.length_append]
        show (far - far / x' * x') * 2 ^ (rs.length + 1) ≤ far0
        have z : (far - far / x' * x') * 2 * 2 ^ rs.length ≤ far * 2 ^ rs.length := Int.mul_le_mul_of_nonneg_right (by omega) (by
          have := Int.pow_nonneg (n := 2) (m := rs.length) (by decide : (0 : Int) ≤ 2)
          exact this)
        rw [Int.pow_succ, Int.mul_comm (2 ^ rs.length) 2, ← Int.mul_assoc]
        omega
      · rw [List.append_assoc]
        exact ch _ (.cons h F' hc)
    · have h : ¬ g ≤ far := by simpa using h
      have c := ch [] (.nil ff0 (by omega))
      rw [List.append_nil] at c
      exact ⟨_, rfl, kq r ts rs H' hr sm' hr' ra c lr⟩
end
section
variable {P : Program} {w : World} {K : PySem.W.Frag} {mg : Str → Option Value} {base : Heap} {a : Adr}
theorem farAt0 {n s c : Int} (h0 : 0 ≤ c) (h1 : c < n) : farAt n s c 0 = c := by
  unfold farAt
  rw [Int.zero_mul, Int.sub_zero, Int.emod_eq_of_lt h0 h1]
structure RowOk (n l : Int) (r : Row) : Prop where
  a1 : 1 ≤ r.a
  al : r.a < l
  x1 : 1 ≤ r.x
  xf : r.x ≤ r.f
  fn : r.f < n
  t1 : 1 ≤ r.t
  tG : r.t ≤ G60
  b0 : 0 ≤ r.b
theorem chain_ok {n s g l : Int} (L : IsLap n s l) (n2 : n ≤ G60) : ∀ {rs : List Row} {B far : Int}, Chain n s g B far rs → 0 ≤ B → far < n → ∀ r ∈ rs, RowOk n l r
  | [], _, _, _, _, _, r, h => by cases h
  | _ :: rs, B, far, c, b0, fn, r, h => by
    cases c with
    | cons c1 c2 c3 =>
      rename_i av xv
      have lo := left_ok c2.x1 c2.xf
      have a1 := c2.a1
      have m : 0 ≤ far / xv * av := Int.mul_nonneg (by omega) (by omega)
      rcases List.mem_cons.mp h with e | e
      · subst e
        have dl := Int.ediv_le_self (a := far) xv (by have := c2.x1; have := c2.xf; omega)
        refine ⟨a1, c2.lap L, c2.x1, c2.xf, fn, lo.1, ?_, b0⟩
        show far / xv ≤ G60
        omega
      · exact chain_ok L n2 c3 (by omega) (by omega) r e
def spNearest (K : PySem.W.Frag) (a : Adr) : Sp := fun vs H Q E => ∃ (p : Addr) (n st s0 l : Int) (m b : V), vs = [.ref p, m, b] ∧ WheelAt a.W H p n st s0 l ∧ IsLap n st l ∧ Known K H m ∧ Known K H b ∧
  (∀ mm v, m = .int mm → b = .int v → 1 ≤ mm → mm ≤ G60 → 0 ≤ v → v < n → ∀ (r : Int) (H' : Hp), Same H H' → NearMin n st ((v - s0) % n) mm r → Q (.int r) H') ∧
  (wholeIn m 1 G60 = false → E (.ref a.NoBeats) none H) ∧ (wholeIn m 1 G60 = true → wholeIn b 0 (n - 1) = false → E (.ref a.NoPlace) none H)
theorem ok_nearest (T : Txt K mg a) : FnOk P w K mg base (CXR P w) 4 a.nearest.f a.nearest.fd ["wheel", "many", "place"] (spNearest K a) := by
  refine T.F_nearest.okR sc_nearest (fun vs H Q E h => ?_) (fun cdv A outer s H vs Q E hr h => ?_)
  · obtain ⟨p, n, st, s0, l, m, b, rfl, _⟩ := h; rfl
  · obtain ⟨p, n, st, s0, l, m, b, rfl, W, L, km, kb, kq, ke, ke2⟩ := h
    obtain ⟨⟨dx, hp⟩, n1, n2, st1, st2, s1, s2⟩ := id W
    refine ⟨_, (@pss_cons _ _ _ _ _ (@ps_expr _ _ _ _ (pe_callS (ok_check_beats T) (hr.mono (by decide)) rfl T.m_check_beats T.F_check_beats.kp (b_check_beats T) .nil (pass_fn fun _ _ _ _ h => h) (@pa_consN _ _ _ _ _ (@pe_str _ _ _ _) (@pa_consN _ _ _ _ _ (pv 1) (@pa_consN _ _ _ _ _ (@pe_int _ _ _ _) (@pa_consN _ _ _ _ _ (pe_call0 (ok_greatest T) (hr.mono (by decide)) rfl T.m_greatest T.F_greatest.kp (b_greatest T) .nil passR) (@pa_nil _) rfl) rfl) rfl) rfl)) (by rfl)) (@pss_cons _ _ _ _ _ (@ps_set _ _ 3 _ _ _ _ sc_nearest.nd rfl (Or.inl rfl) (@pe_int _ _ _ _) (by rfl) (by first | exact .inl rfl | exact .inr rfl | assumption)) (@pss_cons _ _ _ _ _ (ps_forX rfl (@pi_list _ _ _ _ (pe_callS (ok_nearing T) (hr.mono (by decide)) rfl T.m_nearing T.F_nearing.kp (b_nearing T) .nil (pass_fn fun _ _ _ _ h => h) (@pa_consN _ _ _ _ _ (pv 0) (@pa_consN _ _ _ _ _ (pv 2) (@pa_nil _) rfl) rfl))) (pg_tup rfl (pgs_cons (pg_name (i := 4) sc_nearest.nd rfl (Or.inl rfl)) (pgs_cons (pg_name (i := 5) sc_nearest.nd rfl (Or.inl rfl)) (pgs_cons (pg_name (i := 6) sc_nearest.nd rfl (Or.inl rfl)) (pgs_cons (pg_name (i := 7) sc_nearest.nd rfl (Or.inl rfl)) (pgs_cons (pg_name (i := 8) sc_nearest.nd rfl (Or.inl rfl)) (@pgs_nil _))))))) (@pss_one _ _ _ (@ps_if _ _ _ _ _ _ _ _ (@pt_cmpR _ _ _ _ _ _ _ _ op_lt (pv 4) (pv 1) (nomark _)) (@pss_one _ _ _ (@ps_set _ _ 3 _ _ _ _ sc_nearest.nd rfl (Or.inl rfl) (@pe_op _ _ _ _ _ _ _ _ op_add (pv 4) (@pe_op _ _ _ _ _ _ _ _ op_mulA (pe_callB (call_min2 rfl) rfl T.n_min bt_min (@pa_consN _ _ _ _ _ (pv 8) (@pa_consN _ _ _ _ _ (@pe_op _ _ _ _ _ _ _ _ op_fdivB (@pe_op _ _ _ _ _ _ _ _ op_sub (@pe_op _ _ _ _ _ _ _ _ op_sub (pv 1) (@pe_int _ _ _ _)) (pv 4)) (pv 6)) (@pa_nil _) rfl) rfl)) (pv 6))) (by rfl) (by first | exact .inl rfl | exact .inr rfl | assumption))) (@pss_nil _)))) (@pss_one _ _ _ (@ps_ret _ _ _ _ (pv 3)))))), ?_⟩
    refine ⟨_, rfl, rfl, _, m, 1, G60, rfl, by decide, km, ⟨by decide, by decide⟩, ⟨by decide, by decide⟩, fun mm e m1 m2 => ?_, ke⟩
    subst e
    refine ⟨_, rfl, _, rfl, p, n, st, s0, l, b, rfl, W, L, kb, fun v e v0 v1 r ts rs H1 hrn sm1 hr1 ra ch lr => ?_, ke2 (wholeIn_of m1 m2)⟩
    subst e
    have f0 := Int.emod_nonneg (v - s0) (by omega : n ≠ 0)
    have f1 := Int.emod_lt_of_pos (v - s0) (by omega : 0 < n)
    have kq := kq mm v rfl rfl m1 m2 v0 v1
    generalize (v - s0) % n = far0 at f0 f1 ch kq
    have ok := chain_ok L n2 ch (by decide) f1
    have nm : NearMin n st far0 mm (nearF mm rs 0) := near_ok (by omega) (Int.gcd_dvd_left ..) (Int.gcd_dvd_right ..) ch rec_zero (farAt0 f0 f1) (by decide) (by omega)
    have gp := G60_pos
    have ln := L.ln
    refine ⟨r, rfl, ⟨_, SqL.of hr1⟩, ?_⟩
    refine for_list (K := K) (a := r) (xs := ts.map V.ref) (fun i σ H5 => ∃ (f : Int) (u1 u2 u3 u4 u5 : Option V), σ = [some (.ref p), some (.int mm), some (.int v), some (.int f), u1, u2, u3, u4, u5] ∧ H5 = H1 ∧ nearF mm (rs.drop i) f = nearF mm rs 0) ⟨0, none, none, none, none, none, rfl, rfl, rfl⟩ (fun i σ H5 _ ⟨_, _, _, _, _, _, _, e, _⟩ => e ▸ SqL.of hr1) ?_ ?_
    · rintro i x σ H5 hi ⟨f, u1, u2, u3, u4, u5, rfl, rfl, ef⟩
      obtain ⟨t, htm, rfl⟩ := List.mem_map.mp (List.mem_of_getElem? hi)
      have hi2 : i < ts.length := by
        have := (List.getElem?_eq_some_iff.mp hi).1
        rwa [List.length_map] at this
      have hi3 : i < rs.length := by rw [← ra.1]; exact hi2
      have e2 : ts[i]? = some t := by
        rw [List.getElem?_map] at hi
        cases e : ts[i]? with
        | none => rw [e] at hi; cases hi
        | some t' => rw [e] at hi; cases hi; rfl
      rw [List.drop_eq_getElem_cons hi3] at ef
      have e1 : rs[i]? = some rs[i] := by simp [hi3]
      have ro := ok rs[i] (List.getElem_mem hi3)
      generalize rs[i] = row at ef e1 ro
      have ht := ra.2 i t row e2 e1
      simp only [nearF] at ef
      refine ⟨t, _, rfl, SqT.of ht, rfl, _, _, rfl, _, _, rfl, _, _, rfl, _, _, rfl, _, _, rfl, rfl, ?_⟩
      refine ⟨_, rfl, _, rfl, _, _, rfl, rfl, _, rfl, ?_⟩
      have a1 := ro.a1; have al := ro.al; have t1 := ro.t1; have tG := ro.tG; have b0 := ro.b0
      refine ite2 (fun h => ?_) (fun h => ?_)
      · have h : row.b < mm := by simpa using h
        rw [if_pos h] at ef
        have db := div_abs (x := mm - 1 - row.b) (B := G60) a1 (by omega) (by omega)
        refine ⟨_, rfl, _, rfl, _, rfl, _, _, rfl, rfl, _, rfl, _, _, rfl, rfl, _, rfl, _, _, rfl, rfl, ⟨a1, big_g ⟨by omega, by omega⟩⟩, _, _, rfl, _, rfl, _, _, rfl, rfl, mulB (big_g (by split <;> constructor <;> omega)) (big_g ⟨by omega, by omega⟩), _, _, rfl, rfl, ?_⟩
        exact ⟨_, _, _, _, _, _, rfl, rfl, ef⟩
      · have h : ¬ row.b < mm := by simpa using h
        rw [if_neg h] at ef
        exact ⟨_, _, _, _, _, _, rfl, rfl, ef⟩
    · rintro σ H5 ⟨f, u1, u2, u3, u4, u5, rfl, rfl, ef⟩
      rw [List.length_map, ra.1, List.drop_of_length_le (Nat.le_refl _)] at ef
      have ef : f = nearF mm rs 0 := ef
      rw [← ef] at nm
      exact ⟨_, rfl, kq f _ sm1 nm⟩
def optV : Option Int → V
  | some r => .int r
  | none => .non
def spFirst (K : PySem.W.Frag) (a : Adr) : Sp := fun vs H Q E => ∃ (p : Addr) (n st s0 l : Int) (lo hi : V), vs = [.ref p, lo, hi] ∧ WheelAt a.W H p n st s0 l ∧ IsLap n st l ∧ Known K H lo ∧ Known K H hi ∧
  (∀ ll hh, lo = .int ll → hi = .int hh → 0 ≤ ll → ll < n → 0 ≤ hh → hh < n → ∀ (r : Option Int) (H' : Hp), Same H H' → FirstIs n st ((hh - s0) % n) ((hh - ll) % n) r → Q (optV r) H') ∧
  (wholeIn lo 0 (n - 1) = false ∨ wholeIn hi 0 (n - 1) = false → E (.ref a.NoPlace) none H)
theorem ok_first_in (T : Txt K mg a) : FnOk P w K mg base (CXR P w) 4 a.first_in.f a.first_in.fd ["wheel", "low", "high"] (spFirst K a) := by
  refine T.F_first_in.okR sc_first_in (fun vs H Q E h => ?_) (fun cdv A outer s H vs Q E hr h => ?_)
  · obtain ⟨p, n, st, s0, l, lo, hi, rfl, _⟩ := h; rfl
  · obtain ⟨p, n, st, s0, l, lo, hi, rfl, W, L, klo, khi, kq, ke⟩ := h
    obtain ⟨⟨dx, hp⟩, n1, n2, st1, st2, s1, s2⟩ := id W
    have gp := G60_pos
    have ln := L.ln
    refine ⟨_, (@pss_cons _ _ _ _ _ (@ps_expr _ _ _ _ (pe_callS (ok_check_place T) (hr.mono (by decide)) rfl T.m_check_place T.F_check_place.kp (b_check_place T) .nil (pass_fn fun _ _ _ _ h => h) (@pa_consN _ _ _ _ _ (pv 0) (@pa_consN _ _ _ _ _ (pv 1) (@pa_nil _) rfl) rfl)) (by rfl)) (@pss_cons _ _ _ _ _ (@ps_expr _ _ _ _ (pe_callS (ok_check_place T) (hr.mono (by decide)) rfl T.m_check_place T.F_check_place.kp (b_check_place T) .nil (pass_fn fun _ _ _ _ h => h) (@pa_consN _ _ _ _ _ (pv 0) (@pa_consN _ _ _ _ _ (pv 2) (@pa_nil _) rfl) rfl)) (by rfl)) (@pss_cons _ _ _ _ _ (@ps_set _ _ 3 _ _ _ _ sc_first_in.nd rfl (Or.inl rfl) (@pe_op _ _ _ _ _ _ _ _ op_mod (@pe_op _ _ _ _ _ _ _ _ op_sub (pv 2) (pv 1)) (@pe_fld _ _ _ _ _ (pv 0) rfl)) (by rfl) (by first | exact .inl rfl | exact .inr rfl | assumption)) (@pss_cons _ _ _ _ _ (@ps_if _ _ _ _ _ _ _ _ (@pt_cmpR _ _ _ _ _ _ _ _ op_le (@pe_op _ _ _ _ _ _ _ _ op_mod (@pe_op _ _ _ _ _ _ _ _ op_sub (pv 2) (@pe_fld _ _ _ _ _ (pv 0) rfl)) (@pe_fld _ _ _ _ _ (pv 0) rfl)) (pv 3) (nomark _)) (@pss_one _ _ _ (@ps_ret _ _ _ _ (@pe_int _ _ _ _))) (@pss_nil _)) (@pss_cons _ _ _ _ _ (ps_forX rfl (@pi_list _ _ _ _ (pe_callS (ok_nearing T) (hr.mono (by decide)) rfl T.m_nearing T.F_nearing.kp (b_nearing T) .nil (pass_fn fun _ _ _ _ h => h) (@pa_consN _ _ _ _ _ (pv 0) (@pa_consN _ _ _ _ _ (pv 2) (@pa_nil _) rfl) rfl))) (pg_tup rfl (pgs_cons (pg_name (i := 4) sc_first_in.nd rfl (Or.inl rfl)) (pgs_cons (pg_name (i := 5) sc_first_in.nd rfl (Or.inl rfl)) (pgs_cons (pg_name (i := 6) sc_first_in.nd rfl (Or.inl rfl)) (pgs_cons (pg_name (i := 7) sc_first_in.nd rfl (Or.inl rfl)) (pgs_cons (pg_name (i := 8) sc_first_in.nd rfl (Or.inl rfl)) (@pgs_nil _))))))) (@pss_one _ _ _ (@ps_if _ _ _ _ _ _ _ _ (@pt_cmpR _ _ _ _ _ _ _ _ op_le (@pe_op _ _ _ _ _ _ _ _ op_sub (pv 5) (@pe_op _ _ _ _ _ _ _ _ op_mulA (pv 8) (pv 7))) (pv 3) (nomark _)) (@pss_one _ _ _ (@ps_ret _ _ _ _ (@pe_op _ _ _ _ _ _ _ _ op_add (pv 4) (@pe_op _ _ _ _ _ _ _ _ op_mulA (pe_call (ok_rounded_up T) (hr.mono (by decide)) rfl T.m_rounded_up T.F_rounded_up.kp (b_rounded_up T) .nil passR (@pa_consN _ _ _ _ _ (@pe_op _ _ _ _ _ _ _ _ op_sub (pv 5) (pv 3)) (@pa_consN _ _ _ _ _ (pv 7) (@pa_nil _) rfl) rfl)) (pv 6))))) (@pss_nil _)))) (@pss_one _ _ _ (@ps_ret _ _ _ _ (@pe_non _ _ _)))))))), ?_⟩
    refine ⟨_, rfl, _, rfl, p, n, st, s0, l, lo, rfl, W, klo, fun ll el l0 l1 => ?_, fun z => ke (.inl z)⟩
    subst el
    refine ⟨_, rfl, _, rfl, p, n, st, s0, l, hi, rfl, W, khi, fun hh eh h0 h1 => ?_, fun z => ke (.inr z)⟩
    subst eh
    refine ⟨_, rfl, _, rfl, _, _, rfl, rfl, _, rfl, p, a.W, dx, _, _, rfl, hp, T.cl, T.a_size, wf_size _ _ _ _, _, _, rfl, rfl, (by show (0 : Int) < n; omega), ?_⟩
    have w0 := Int.emod_nonneg (hh - ll) (by omega : n ≠ 0)
    have w1 := Int.emod_lt_of_pos (hh - ll) (by omega : 0 < n)
    have f0 := Int.emod_nonneg (hh - s0) (by omega : n ≠ 0)
    have f1 := Int.emod_lt_of_pos (hh - s0) (by omega : 0 < n)
    have kq := kq ll hh rfl rfl l0 l1 h0 h1
    refine ⟨_, rfl, _, rfl, p, a.W, dx, _, _, rfl, hp, T.cl, T.a_start, wf_start _ _ _ _, _, _, rfl, rfl, _, rfl, p, a.W, dx, _, _, rfl, hp, T.cl, T.a_size, wf_size _ _ _ _, _, _, rfl, rfl, (by show (0 : Int) < n; omega), _, rfl, _, _, rfl, rfl, _, rfl, ?_⟩
    dsimp only
    generalize (hh - ll) % n = wd at w0 w1 kq ⊢
    refine ite2 (fun h => ?_) (fun h => ?_)
    · have h : (hh - s0) % n ≤ wd := by simpa using h
      refine kq (some 0) _ (Same.refl _) ⟨by decide, ?_, fun k k0 k1 => by omega⟩
      rw [farAt0 f0 f1]
      exact h
    · have h : ¬ (hh - s0) % n ≤ wd := by simpa using h
      refine ⟨_, rfl, _, rfl, p, n, st, s0, l, _, rfl, W, L, Known.int T _ _, fun v e v0 v1 r ts rs H1 hrn sm1 hr1 ra ch lr => ?_, fun z => ?_⟩
      case refine_2 =>
        rw [wholeIn_of h0 (by omega)] at z; cases z
      cases e
      generalize (hh - s0) % n = far0 at f0 f1 ch kq h
      have ok := chain_ok L n2 ch (by decide) f1
      have fi : FirstIs n st far0 wd (firstF wd rs) := first_ok (by omega) (Int.gcd_dvd_left ..) (Int.gcd_dvd_right ..) ch rec_zero (farAt0 f0 f1) (by decide) (by omega)
      refine ⟨r, rfl, ⟨_, SqL.of hr1⟩, ?_⟩
      refine for_list (K := K) (a := r) (xs := ts.map V.ref) (fun i σ H5 => ∃ (u1 u2 u3 u4 u5 : Option V), σ = [some (.ref p), some (.int ll), some (.int hh), some (.int wd), u1, u2, u3, u4, u5] ∧ H5 = H1 ∧ firstF wd (rs.drop i) = firstF wd rs) ⟨none, none, none, none, none, rfl, rfl, rfl⟩ (fun i σ H5 _ ⟨_, _, _, _, _, _, e, _⟩ => e ▸ SqL.of hr1) ?_ ?_
      · rintro i x σ H5 hi ⟨u1, u2, u3, u4, u5, rfl, rfl, ef⟩
        obtain ⟨t, htm, rfl⟩ := List.mem_map.mp (List.mem_of_getElem? hi)
        have hi2 : i < ts.length := by
          have := (List.getElem?_eq_some_iff.mp hi).1
          rwa [List.length_map] at this
        have hi3 : i < rs.length := by rw [← ra.1]; exact hi2
        have e2 : ts[i]? = some t := by
          rw [List.getElem?_map] at hi
          cases e : ts[i]? with
          | none => rw [e] at hi; cases hi
          | some t' => rw [e] at hi; cases hi; rfl
        rw [List.drop_eq_getElem_cons hi3] at ef
        have e1 : rs[i]? = some rs[i] := by simp [hi3]
        have ro := ok rs[i] (List.getElem_mem hi3)
        generalize rs[i] = row at ef e1 ro
        have ht := ra.2 i t row e2 e1
        simp only [firstF] at ef
        have a1 := ro.a1; have al := ro.al; have t1 := ro.t1; have tG := ro.tG; have b0 := ro.b0; have x1 := ro.x1; have xf := ro.xf; have fn := ro.fn
        refine ⟨t, _, rfl, SqT.of ht, rfl, _, _, rfl, _, _, rfl, _, _, rfl, _, _, rfl, _, _, rfl, rfl, ?_⟩
        refine ⟨_, rfl, _, rfl, _, rfl, _, _, rfl, rfl, mulB (big_g ⟨by omega, by omega⟩) (big_g ⟨by omega, by omega⟩), _, _, rfl, rfl, _, rfl, _, _, rfl, rfl, _, rfl, ?_⟩
        refine ite2 (fun h => ?_) (fun h => ?_)
        · have h : row.f - row.t * row.x ≤ wd := by simpa using h
          rw [if_pos h] at ef
          have db := div_abs (x := -(row.f - wd)) (B := G60) x1 (by omega) (by omega)
          refine ⟨_, rfl, _, rfl, _, rfl, _, _, rfl, rfl, _, rfl, row.f - wd, row.x, rfl, x1, by omega, _, rfl, _, _, rfl, rfl, mulB (big_g ⟨by omega, by omega⟩) (big_g ⟨by omega, by omega⟩), _, _, rfl, rfl, ?_⟩
          rw [← ef] at fi
          exact kq (some _) _ sm1 fi
        · have h : ¬ row.f - row.t * row.x ≤ wd := by simpa using h
          rw [if_neg h] at ef
          exact ⟨_, _, _, _, _, rfl, rfl, ef⟩
      · rintro σ H5 ⟨u1, u2, u3, u4, u5, rfl, rfl, ef⟩
        rw [List.length_map, ra.1, List.drop_of_length_le (Nat.le_refl _)] at ef
        have ef : none = firstF wd rs := ef
        rw [← ef] at fi
        exact kq none _ sm1 fi
end
def B3 : Int := G60 * G60 * G60
theorem B3_pos : 0 < B3 := by decide
theorem big3 {i : Int} (h : -B3 ≤ i ∧ i ≤ B3) : Big i := big_of h
theorem tri_big {m : Int} (h0 : 0 ≤ m) (h1 : m ≤ B3) : Big (m * (m - 1) / 2) := by
  have e1 : m * (m - 1) = m * m - m := by rw [Int.mul_sub, Int.mul_one]
  have e2 : m * m ≤ B3 * B3 := Int.mul_le_mul h1 h1 h0 (by decide)
  have e0 : 0 ≤ m * m := Int.mul_nonneg h0 h0
  have e3 : G60 * G60 * G60 * (G60 * G60 * G60) = B3 * B3 := rfl
  have e5 : B3 ≤ B3 * B3 := by decide
  have e4 := div_abs (x := m * (m - 1)) (n := 2) (B := B3 * B3) (by decide) (by omega) (by omega)
  exact big6 (by rw [e3]; exact e4)
section
variable {P : Program} {w : World} {K : PySem.W.Frag} {mg : Str → Option Value} {base : Heap} {a : Adr}
def spSlanted : Sp := fun vs H Q _ => ∃ m st s0 n : Int, vs = [.int m, .int st, .int s0, .int n] ∧ 0 ≤ m ∧ m ≤ B3 ∧ -B3 ≤ st ∧ st ≤ B3 ∧ -B3 ≤ s0 ∧ s0 ≤ B3 ∧ 1 ≤ n ∧ n ≤ B3 ∧ Q (.int (flSum st s0 n m.toNat)) H
theorem ok_slanted (T : Txt K mg a) : FnOk P w K mg base (CXR P w) 1 a.slanted.f a.slanted.fd ["many", "step", "start", "size"] spSlanted := by
  refine T.F_slanted.okN sc_slanted (fun vs H Q E h => ?_) (fun cdv A outer s H vs Q E hr h => ?_)
  · obtain ⟨m, st, s0, n, rfl, _⟩ := h; rfl
  · obtain ⟨m, st, s0, n, rfl, m0, m1, st0, st1, s00, s01, n0, n1, kq⟩ := h
    refine ⟨_, (@pss_cons _ _ _ _ _ (@ps_set _ _ 4 _ _ _ _ sc_slanted.nd rfl (Or.inl rfl) (@pe_int _ _ _ _) (by rfl) (by first | exact .inl rfl | exact .inr rfl | assumption)) (@pss_cons _ _ _ _ _ (@ps_while _ _ _ _ _ _ PassesOwn.never (@pt_cmpR _ _ _ _ _ _ _ _ op_gt (pv 0) (@pe_int _ _ _ _) (nomark _)) (@pss_cons _ _ _ _ _ (@ps_set _ _ 4 _ _ _ _ sc_slanted.nd rfl (Or.inl rfl) (@pe_op _ _ _ _ _ _ _ _ op_add (@pe_op _ _ _ _ _ _ _ _ op_add (pv 4) (@pe_op _ _ _ _ _ _ _ _ op_mulA (@pe_op _ _ _ _ _ _ _ _ op_fdivB (@pe_op _ _ _ _ _ _ _ _ op_mulA (pv 0) (@pe_op _ _ _ _ _ _ _ _ op_sub (pv 0) (@pe_int _ _ _ _))) (@pe_int _ _ _ _)) (@pe_op _ _ _ _ _ _ _ _ op_fdivB (pv 1) (pv 3)))) (@pe_op _ _ _ _ _ _ _ _ op_mulA (pv 0) (@pe_op _ _ _ _ _ _ _ _ op_fdivB (pv 2) (pv 3)))) (by rfl) (by first | exact .inl rfl | exact .inr rfl | assumption)) (@pss_cons _ _ _ _ _ (@ps_set _ _ 1 _ _ _ _ sc_slanted.nd rfl (Or.inl rfl) (@pe_op _ _ _ _ _ _ _ _ op_mod (pv 1) (pv 3)) (by rfl) (by first | exact .inl rfl | exact .inr rfl | assumption)) (@pss_cons _ _ _ _ _ (@ps_set _ _ 2 _ _ _ _ sc_slanted.nd rfl (Or.inl rfl) (@pe_op _ _ _ _ _ _ _ _ op_mod (pv 2) (pv 3)) (by rfl) (by first | exact .inl rfl | exact .inr rfl | assumption)) (@pss_cons _ _ _ _ _ (@ps_set _ _ 5 _ _ _ _ sc_slanted.nd rfl (Or.inl rfl) (@pe_op _ _ _ _ _ _ _ _ op_add (pv 2) (@pe_op _ _ _ _ _ _ _ _ op_mulA (pv 0) (pv 1))) (by rfl) (by first | exact .inl rfl | exact .inr rfl | assumption)) (@pss_cons _ _ _ _ _ (@ps_set _ _ 0 _ _ _ _ sc_slanted.nd rfl (Or.inl rfl) (@pe_op _ _ _ _ _ _ _ _ op_fdivB (pv 5) (pv 3)) (by rfl) (by first | exact .inl rfl | exact .inr rfl | assumption)) (@pss_cons _ _ _ _ _ (@ps_set _ _ 2 _ _ _ _ sc_slanted.nd rfl (Or.inl rfl) (@pe_op _ _ _ _ _ _ _ _ op_mod (pv 5) (pv 3)) (by rfl) (by first | exact .inl rfl | exact .inr rfl | assumption)) (@pss_cons _ _ _ _ _ (@ps_set _ _ 6 _ _ _ _ sc_slanted.nd rfl (Or.inl rfl) (pv 1) (by rfl) (by first | exact .inl rfl | exact .inr rfl | assumption)) (@pss_cons _ _ _ _ _ (@ps_set _ _ 1 _ _ _ _ sc_slanted.nd rfl (Or.inl rfl) (pv 3) (by rfl) (by first | exact .inl rfl | exact .inr rfl | assumption)) (@pss_one _ _ _ (@ps_set _ _ 3 _ _ _ _ sc_slanted.nd rfl (Or.inl rfl) (pv 6) (by rfl) (by first | exact .inl rfl | exact .inr rfl | assumption)))))))))))) (@pss_one _ _ _ (@ps_ret _ _ _ _ (pv 4))))), ?_⟩
    refine ⟨fun k σ H' => ∃ (m' st' s' n' t' : Int) (u v : Option V), σ = [some (.int m'), some (.int st'), some (.int s'), some (.int n'), some (.int t'), u, v] ∧ H' = H ∧ 0 ≤ m' ∧ m' ≤ B3 ∧ -B3 ≤ st' ∧ st' ≤ B3 ∧ -B3 ≤ s' ∧ s' ≤ B3 ∧ 0 ≤ n' ∧ n' ≤ B3 ∧ (0 < m' → 0 < n') ∧ t' + flSum st' s' n' m'.toNat = flSum st s0 n m.toNat ∧ k = n'.toNat,
      ⟨_, m, st, s0, n, 0, none, none, rfl, rfl, m0, m1, st0, st1, s00, s01, by omega, n1, fun _ => by omega, by omega, rfl⟩, ?_⟩
    rintro k σ H' ⟨m', st', s', n', t', u, v, rfl, rfl, a0, a1, b0, b1, c0, c1, d0, d1, hp, hs, rfl⟩
    refine ⟨_, rfl, _, _, rfl, rfl, _, rfl, ?_⟩
    refine ite2 (fun h => ?_) (fun h => ?_)
    · have h : 0 < m' := by simpa using h
      have np : 0 < n' := hp h
      have q1 := div_abs (by omega : 1 ≤ n') b0 b1
      have q2 := div_abs (by omega : 1 ≤ n') c0 c1
      have r0 := Int.emod_nonneg st' (by omega : n' ≠ 0)
      have r1 := Int.emod_lt_of_pos st' np
      have tm := turn_many (st := st') (s0 := s') np a0
      have tt := flSum_turn (st := st') (s0 := s') np a0
      have t0 := Int.emod_nonneg (s' % n' + m' * (st' % n')) (by omega : n' ≠ 0)
      have t1 := Int.emod_lt_of_pos (s' % n' + m' * (st' % n')) np
      refine ⟨_, fun σ' H'' h => h, ?_⟩
      have B0 := B3_pos
      refine ⟨_, rfl, _, rfl, _, rfl, _, _, rfl, rfl, _, _, rfl, rfl, mulB (big3 ⟨by omega, by omega⟩) (big3 ⟨by omega, by omega⟩), _, _, rfl, rfl, cdivS (by decide) (by decide), _, rfl, _, rfl, _, _, rfl, rfl, ⟨np, big3 ⟨by omega, by omega⟩⟩, _, _, rfl, rfl, mulB (tri_big a0 a1) (big3 q1), _, _, rfl, rfl, ?_⟩
      refine ⟨_, rfl, _, rfl, _, rfl, _, _, rfl, rfl, ⟨np, big3 ⟨by omega, by omega⟩⟩, _, _, rfl, rfl, mulB (big3 ⟨by omega, by omega⟩) (big3 q2), _, _, rfl, rfl, ?_⟩
      refine ⟨_, rfl, _, rfl, _, _, rfl, rfl, np, ?_⟩
      refine ⟨_, rfl, _, rfl, _, _, rfl, rfl, np, ?_⟩
      refine ⟨_, rfl, _, rfl, _, rfl, _, _, rfl, rfl, mulB (big3 ⟨by omega, by omega⟩) (big3 ⟨by omega, by omega⟩), _, _, rfl, rfl, ?_⟩
      refine ⟨_, rfl, _, rfl, _, _, rfl, rfl, ⟨np, big3 ⟨by omega, by omega⟩⟩, ?_⟩
      refine ⟨_, rfl, _, rfl, _, _, rfl, rfl, np, ?_⟩
      refine ⟨_, rfl, _, rfl, _, rfl, ?_⟩
      refine ⟨(st' % n').toNat, by omega, _, _, _, _, _, _, _, rfl, rfl, tm.1, by omega, by omega, d1, by omega, by omega, r0, by omega, fun z => ?_, ?_, rfl⟩
      · rcases (by omega : 0 < st' % n' ∨ st' % n' = 0) with e | e
        · exact e
        · rw [e, Int.mul_zero, Int.add_zero, Int.ediv_eq_zero_of_lt (Int.emod_nonneg _ (by omega)) (Int.emod_lt_of_pos _ np)] at z
          omega
      · rw [← hs, tt]; omega
    · have h : ¬ 0 < m' := by simpa using h
      have e : m' = 0 := by omega
      subst e
      refine ⟨_, rfl, ?_⟩
      have e : t' = flSum st s0 n m.toNat := by rw [← hs]; simp [flSum]
      rw [e]
      exact kq
end
section
variable {P : Program} {w : World} {K : PySem.W.Frag} {mg : Str → Option Value} {base : Heap} {a : Adr}
def spCount (K : PySem.W.Frag) (a : Adr) : Sp := fun vs H Q E => ∃ (p : Addr) (n st s0 l : Int) (m lo hi : V), vs = [.ref p, m, lo, hi] ∧ WheelAt a.W H p n st s0 l ∧ Known K H m ∧ Known K H lo ∧ Known K H hi ∧
  (∀ mm ll hh : Int, m = .int mm → lo = .int ll → hi = .int hh → 0 ≤ mm → mm ≤ G60 → 0 ≤ ll → ll < n → 0 ≤ hh → hh < n → Q (.int (cntIn st s0 n ll ((hh - ll) % n) mm.toNat)) H) ∧
  (wholeIn m 0 G60 = false → E (.ref a.NoBeats) none H) ∧ (wholeIn m 0 G60 = true → (wholeIn lo 0 (n - 1) = false ∨ wholeIn hi 0 (n - 1) = false) → E (.ref a.NoPlace) none H)
theorem ok_count_in (T : Txt K mg a) : FnOk P w K mg base (CXR P w) 3 a.count_in.f a.count_in.fd ["wheel", "many", "low", "high"] (spCount K a) := by
  refine T.F_count_in.okR sc_count_in (fun vs H Q E h => ?_) (fun cdv A outer s H vs Q E hr h => ?_)
  · obtain ⟨p, n, st, s0, l, m, lo, hi, rfl, _⟩ := h; rfl
  · obtain ⟨p, n, st, s0, l, m, lo, hi, rfl, W, km, klo, khi, kq, kb, kp⟩ := h
    obtain ⟨⟨dx, hp⟩, n1, n2, st1, st2, s1, s2⟩ := id W
    have gp := G60_pos
    have g3 : G60 + G60 + G60 ≤ B3 := by decide
    refine ⟨_, (@pss_cons _ _ _ _ _ (@ps_expr _ _ _ _ (pe_callS (ok_check_beats T) (hr.mono (by decide)) rfl T.m_check_beats T.F_check_beats.kp (b_check_beats T) .nil (pass_fn fun _ _ _ _ h => h) (@pa_consN _ _ _ _ _ (@pe_str _ _ _ _) (@pa_consN _ _ _ _ _ (pv 1) (@pa_consN _ _ _ _ _ (@pe_int _ _ _ _) (@pa_consN _ _ _ _ _ (pe_call0 (ok_greatest T) (hr.mono (by decide)) rfl T.m_greatest T.F_greatest.kp (b_greatest T) .nil passR) (@pa_nil _) rfl) rfl) rfl) rfl)) (by rfl)) (@pss_cons _ _ _ _ _ (@ps_expr _ _ _ _ (pe_callS (ok_check_place T) (hr.mono (by decide)) rfl T.m_check_place T.F_check_place.kp (b_check_place T) .nil (pass_fn fun _ _ _ _ h => h) (@pa_consN _ _ _ _ _ (pv 0) (@pa_consN _ _ _ _ _ (pv 2) (@pa_nil _) rfl) rfl)) (by rfl)) (@pss_cons _ _ _ _ _ (@ps_expr _ _ _ _ (pe_callS (ok_check_place T) (hr.mono (by decide)) rfl T.m_check_place T.F_check_place.kp (b_check_place T) .nil (pass_fn fun _ _ _ _ h => h) (@pa_consN _ _ _ _ _ (pv 0) (@pa_consN _ _ _ _ _ (pv 3) (@pa_nil _) rfl) rfl)) (by rfl)) (@pss_cons _ _ _ _ _ (@ps_set _ _ 4 _ _ _ _ sc_count_in.nd rfl (Or.inl rfl) (@pe_op _ _ _ _ _ _ _ _ op_add (@pe_op _ _ _ _ _ _ _ _ op_mod (@pe_op _ _ _ _ _ _ _ _ op_sub (pv 3) (pv 2)) (@pe_fld _ _ _ _ _ (pv 0) rfl)) (@pe_int _ _ _ _)) (by rfl) (by first | exact .inl rfl | exact .inr rfl | assumption)) (@pss_cons _ _ _ _ _ (@ps_set _ _ 5 _ _ _ _ sc_count_in.nd rfl (Or.inl rfl) (@pe_op _ _ _ _ _ _ _ _ op_sub (@pe_fld _ _ _ _ _ (pv 0) rfl) (pv 2)) (by rfl) (by first | exact .inl rfl | exact .inr rfl | assumption)) (@pss_one _ _ _ (@ps_ret _ _ _ _ (@pe_op _ _ _ _ _ _ _ _ op_sub (pe_call (ok_slanted T) (hr.mono (by decide)) rfl T.m_slanted T.F_slanted.kp (b_slanted T) .nil passR (@pa_consN _ _ _ _ _ (pv 1) (@pa_consN _ _ _ _ _ (@pe_fld _ _ _ _ _ (pv 0) rfl) (@pa_consN _ _ _ _ _ (pv 5) (@pa_consN _ _ _ _ _ (@pe_fld _ _ _ _ _ (pv 0) rfl) (@pa_nil _) rfl) rfl) rfl) rfl)) (pe_call (ok_slanted T) (hr.mono (by decide)) rfl T.m_slanted T.F_slanted.kp (b_slanted T) .nil passR (@pa_consN _ _ _ _ _ (pv 1) (@pa_consN _ _ _ _ _ (@pe_fld _ _ _ _ _ (pv 0) rfl) (@pa_consN _ _ _ _ _ (@pe_op _ _ _ _ _ _ _ _ op_sub (pv 5) (pv 4)) (@pa_consN _ _ _ _ _ (@pe_fld _ _ _ _ _ (pv 0) rfl) (@pa_nil _) rfl) rfl) rfl) rfl)))))))))), ?_⟩
    refine ⟨_, rfl, rfl, _, m, 0, G60, rfl, by decide, km, ⟨by decide, by decide⟩, ⟨by decide, by decide⟩, fun mm em m0 m1 => ?_, kb⟩
    subst em
    have wm := wholeIn_of m0 m1
    refine ⟨_, rfl, _, rfl, p, n, st, s0, l, lo, rfl, W, klo, fun ll el l0 l1 => ?_, fun z => kp wm (.inl z)⟩
    subst el
    refine ⟨_, rfl, _, rfl, p, n, st, s0, l, hi, rfl, W, khi, fun hh eh h0 h1 => ?_, fun z => kp wm (.inr z)⟩
    subst eh
    have w0 := Int.emod_nonneg (hh - ll) (by omega : n ≠ 0)
    have w1 := Int.emod_lt_of_pos (hh - ll) (by omega : 0 < n)
    refine ⟨_, rfl, _, rfl, _, _, rfl, rfl, _, rfl, p, a.W, dx, _, _, rfl, hp, T.cl, T.a_size, wf_size _ _ _ _, _, _, rfl, rfl, (by show (0 : Int) < n; omega), _, _, rfl, rfl, ?_⟩
    refine ⟨_, rfl, p, a.W, dx, _, _, rfl, hp, T.cl, T.a_start, wf_start _ _ _ _, _, rfl, _, _, rfl, rfl, ?_⟩
    refine ⟨_, rfl, _, rfl, p, a.W, dx, _, _, rfl, hp, T.cl, T.a_step, wf_step _ _ _ _, _, rfl, _, rfl, p, a.W, dx, _, _, rfl, hp, T.cl, T.a_size, wf_size _ _ _ _, mm, st, s0 - ll, n, rfl, m0, by omega, by omega, by omega, by omega, by omega, n1, by omega, ?_⟩
    refine ⟨_, rfl, _, rfl, p, a.W, dx, _, _, rfl, hp, T.cl, T.a_step, wf_step _ _ _ _, _, rfl, _, rfl, _, _, rfl, rfl, _, rfl, p, a.W, dx, _, _, rfl, hp, T.cl, T.a_size, wf_size _ _ _ _, mm, st, s0 - ll - ((hh - ll) % n + 1), n, rfl, m0, by omega, by omega, by omega, by omega, by omega, n1, by omega, ?_⟩
    refine ⟨_, _, rfl, rfl, ?_⟩
    dsimp only
    rw [cnt_fl (by omega) w0 w1]
    exact kq mm ll hh rfl rfl rfl m0 m1 l0 l1 h0 h1
end

end Gh

namespace Gh
open PySem L2
section
variable {P : Program} {w : World} {K : PySem.W.Frag} {mg : Str → Option Value} {base : Heap} {a : Adr}
/-- a cell of the script, 0 behind its end -/
def spCell (K : PySem.W.Frag) : Sp := fun vs H Q _ => ∃ (p : Addr) (k : Int) (ns : List Int), vs = [.ref p, .int k] ∧ SqL K H p (ns.map V.int) ∧ 0 ≤ k ∧ Q (.int (ns.getD k.toNat 0)) H
theorem ok__law_cell_at (T : Txt K mg a) : FnOk P w K mg base (CXR P w) 1 a._law_cell_at.f a._law_cell_at.fd ["_law_script", "_law_k"] (spCell K) := by
  refine T.F__law_cell_at.okN sc__law_cell_at (fun vs H Q E h => ?_) (fun cdv A outer s H vs Q E hr h => ?_)
  · obtain ⟨p, k, ns, rfl, _⟩ := h; rfl
  · obtain ⟨p, k, ns, rfl, hs, k0, kq⟩ := h
    refine ⟨_, (@pss_cons _ _ _ _ _ (@ps_if _ _ _ _ _ _ _ _ (@pt_cmpR _ _ _ _ _ _ _ _ op_lt (pv 1) (pe_callB call_len_seq rfl T.n_len bt_len (@pa_consN _ _ _ _ _ (pv 0) (@pa_nil _) rfl)) (nomark _)) (@pss_one _ _ _ (@ps_ret _ _ _ _ (@pe_ix _ _ _ _ _ _ _ ix_seq (pv 0) (pv 1) (fun _ _ => rfl)))) (@pss_nil _)) (@pss_one _ _ _ (@ps_ret _ _ _ _ (@pe_int _ _ _ _)))), ?_⟩
    refine ⟨_, rfl, _, rfl, p, _, rfl, .inl hs, _, _, rfl, rfl, _, rfl, ?_⟩
    refine ite2 (fun h => ?_) (fun h => ?_)
    · have h : k < ((ns.map V.int).length : Int) := by simpa using h
      rw [List.length_map] at h
      refine ⟨_, rfl, _, rfl, .inl ⟨p, _, _, _, rfl, rfl, hs, ?_, kq⟩⟩
      have e : k = ((k.toNat : Nat) : Int) := by omega
      rw [e]
      exact atI_nat (getD_ints ns _ (by omega))
    · have h : ¬ k < ((ns.map V.int).length : Int) := by simpa using h
      rw [List.length_map] at h
      have e : ns.getD k.toNat 0 = 0 := by
        rw [List.getD_eq_getElem?_getD, List.getElem?_eq_none (by omega)]
        rfl
      rw [e] at kq
      exact kq
def spIsWhole : Sp := fun vs H Q _ => ∃ v : Int, vs = [.int v] ∧ Q (.bl true) H
theorem ok__law_whole (T : Txt K mg a) : FnOk P w K mg base (CXR P w) 1 a._law_whole.f a._law_whole.fd ["_law_found"] spIsWhole := by
  refine T.F__law_whole.okN sc__law_whole (fun vs H Q E h => ?_) (fun cdv A outer s H vs Q E hr h => ?_)
  · obtain ⟨v, rfl, _⟩ := h; rfl
  · obtain ⟨v, rfl, kq⟩ := h
    refine ⟨_, (@pss_one _ _ _ (@ps_ret _ _ _ _ (@pe_and _ _ _ _ _ _ _ (pe_callB call_isi rfl T.n_isinstance bt_isinstance (@pa_consN _ _ _ _ _ (pv 0) (@pa_consN _ _ _ _ _ (pe_ty rfl T.n_int bt_int) (@pa_nil _) rfl) rfl)) (@pe_one _ _ _ _ _ (@pe_not _ _ _ _ (pe_callB call_isi rfl T.n_isinstance bt_isinstance (@pa_consN _ _ _ _ _ (pv 0) (@pa_consN _ _ _ _ _ (pe_ty rfl T.n_bool bt_bool) (@pa_nil _) rfl) rfl))))))), ?_⟩
    refine ⟨_, rfl, _, _, _, _, _, rfl, .int v, rfl, T.ii, _, rfl, iteT ?_⟩
    exact ⟨_, rfl, _, _, _, _, _, rfl, .int v, rfl, T.ib, _, rfl, kq⟩
end
section
variable {P : Program} {w : World} {K : PySem.W.Frag} {mg : Str → Option Value} {base : Heap} {a : Adr}
def spDivisor : Sp := fun vs H Q _ => ∃ p q : Int, vs = [.int p, .int q] ∧ 0 ≤ p ∧ 0 ≤ q ∧ Q (.int (Int.gcd p q : Nat)) H
theorem ok__law_divisor (T : Txt K mg a) : FnOk P w K mg base (CXR P w) 1 a._law_divisor.f a._law_divisor.fd ["_law_one", "_law_other"] spDivisor := by
  refine T.F__law_divisor.okN sc__law_divisor (fun vs H Q E h => ?_) (fun cdv A outer s H vs Q E hr h => ?_)
  · obtain ⟨p, q, rfl, _⟩ := h; rfl
  · obtain ⟨p, q, rfl, hp, hq, k⟩ := h
    refine ⟨_, (@pss_cons _ _ _ _ _ (@ps_while _ _ _ _ _ _ PassesOwn.never (@pt_cmpR _ _ _ _ _ _ _ _ op_gt (pv 1) (@pe_int _ _ _ _) (nomark _)) (@pss_cons _ _ _ _ _ (@ps_set _ _ 2 _ _ _ _ sc__law_divisor.nd rfl (Or.inl rfl) (@pe_op _ _ _ _ _ _ _ _ op_mod (pv 0) (pv 1)) (by rfl) (by first | exact .inl rfl | exact .inr rfl | assumption)) (@pss_cons _ _ _ _ _ (@ps_set _ _ 0 _ _ _ _ sc__law_divisor.nd rfl (Or.inl rfl) (pv 1) (by rfl) (by first | exact .inl rfl | exact .inr rfl | assumption)) (@pss_one _ _ _ (@ps_set _ _ 1 _ _ _ _ sc__law_divisor.nd rfl (Or.inl rfl) (pv 2) (by rfl) (by first | exact .inl rfl | exact .inr rfl | assumption)))))) (@pss_one _ _ _ (@ps_ret _ _ _ _ (pv 0)))), ?_⟩
    refine ⟨fun n σ H' => ∃ (p' q' : Int) (r : Option V), σ = [some (.int p'), some (.int q'), r] ∧ H' = H ∧ 0 ≤ p' ∧ 0 ≤ q' ∧ Int.gcd p' q' = Int.gcd p q ∧ n = q'.toNat, ⟨_, p, q, none, rfl, rfl, hp, hq, rfl, rfl⟩, ?_⟩
    rintro n σ H' ⟨p', q', r, rfl, rfl, hp', hq', hg, rfl⟩
    refine ⟨_, rfl, _, _, rfl, rfl, _, rfl, ?_⟩
    by_cases z : q' = 0
    · subst z
      refine iteF ⟨_, rfl, ?_⟩
      have e : p' = ((Int.gcd p q : Nat) : Int) := by rw [← hg, Int.gcd_zero_right]; omega
      rw [e]
      exact k
    · refine iteP (decide_eq_true (by omega)) ⟨_, fun σ' H'' h => h, ?_⟩
      refine ⟨_, rfl, _, rfl, _, _, rfl, rfl, (by show (0 : Int) < q'; omega), _, rfl, _, rfl, ?_⟩
      have lt := Int.emod_lt_of_pos p' (by omega : 0 < q')
      have nn := Int.emod_nonneg p' (by omega : q' ≠ 0)
      exact ⟨_, by omega, _, _, _, rfl, rfl, hq', nn, (gcd_step hq' hp').trans hg, rfl⟩
end
theorem pow6 : (10 : Int) ^ (6 : Int).toNat = 1000000 := by decide
def G57 : Int := 1000000000000000000000000000000000000000000000000000000000
theorem pow57 : (10 : Int) ^ (57 : Int).toNat = G57 := by decide
section
variable {P : Program} {w : World} {K : PySem.W.Frag} {mg : Str → Option Value} {base : Heap} {a : Adr}
theorem lapOf_is {n st : Int} (n1 : 1 ≤ n) : IsLap n (st % n) (lapOf n st) := lap_is n1 (Int.emod_nonneg _ (by omega))
def Bd' (x : Int) : Prop := -G60 ≤ x ∧ x ≤ G60
def spWheel (K : PySem.W.Frag) : Sp := fun vs H Q _ => ∃ (p : Addr) (ns : List Int), vs = [.ref p] ∧ SqL K H p (ns.map V.int) ∧
  ∀ (q : Addr) (n st s0 : Int) (H' : Hp), Same H H' → H' q = some (.lst [.int n, .int st, .int s0]) → 1 ≤ n → n ≤ G60 → -G60 ≤ st → st ≤ G60 → -G60 ≤ s0 → s0 ≤ G60 → Q (.ref q) H'
theorem ok__law_wheel (T : Txt K mg a) : FnOk P w K mg base (CXR P w) 2 a._law_wheel.f a._law_wheel.fd ["_law_script"] (spWheel K) := by
  refine T.F__law_wheel.okN sc__law_wheel (fun vs H Q E h => ?_) (fun cdv A outer s H vs Q E hr h => ?_)
  · obtain ⟨p, ns, rfl, _⟩ := h; rfl
  · obtain ⟨p, ns, rfl, hS, kq⟩ := h
    refine ⟨_, (@pss_cons _ _ _ _ _ (@ps_set _ _ 1 _ _ _ _ sc__law_wheel.nd rfl (Or.inl rfl) (pe_call (ok__law_cell_at T) (hr.mono (by decide)) rfl T.m__law_cell_at T.F__law_cell_at.kp (b__law_cell_at T) .nil passR (@pa_consN _ _ _ _ _ (pv 0) (@pa_consN _ _ _ _ _ (@pe_int _ _ _ _) (@pa_nil _) rfl) rfl)) (by rfl) (by first | exact .inl rfl | exact .inr rfl | assumption)) (@pss_cons _ _ _ _ _ (@ps_set _ _ 2 _ _ _ _ sc__law_wheel.nd rfl (Or.inl rfl) (@pe_int _ _ _ _) (by rfl) (by first | exact .inl rfl | exact .inr rfl | assumption)) (@pss_cut _ _ _ _ _ (@ps_if _ _ _ _ _ _ _ _ (@pt_cmpR _ _ _ _ _ _ _ _ op_eq (@pe_op _ _ _ _ _ _ _ _ op_mod (pe_call (ok__law_cell_at T) (hr.mono (by decide)) rfl T.m__law_cell_at T.F__law_cell_at.kp (b__law_cell_at T) .nil passR (@pa_consN _ _ _ _ _ (pv 0) (@pa_consN _ _ _ _ _ (@pe_int _ _ _ _) (@pa_nil _) rfl) rfl)) (@pe_int _ _ _ _)) (@pe_int _ _ _ _) (nomark _)) (@pss_one _ _ _ (@ps_set _ _ 2 _ _ _ _ sc__law_wheel.nd rfl (Or.inl rfl) (@pe_op _ _ _ _ _ _ _ _ op_add (@pe_int _ _ _ _) (@pe_op _ _ _ _ _ _ _ _ op_mod (@pe_op _ _ _ _ _ _ _ _ op_fdivB (pe_call (ok__law_cell_at T) (hr.mono (by decide)) rfl T.m__law_cell_at T.F__law_cell_at.kp (b__law_cell_at T) .nil passR (@pa_consN _ _ _ _ _ (pv 0) (@pa_consN _ _ _ _ _ (@pe_int _ _ _ _) (@pa_nil _) rfl) rfl)) (@pe_int _ _ _ _)) (@pe_int _ _ _ _))) (by rfl) (by first | exact .inl rfl | exact .inr rfl | assumption))) (@pss_nil _)) (@pss_cons _ _ _ _ _ (@ps_set _ _ 3 _ _ _ _ sc__law_wheel.nd rfl (Or.inl rfl) (@pe_op _ _ _ _ _ _ _ _ op_add (@pe_int _ _ _ _) (@pe_op _ _ _ _ _ _ _ _ op_mod (@pe_op _ _ _ _ _ _ _ _ op_fdivB (pv 1) (@pe_int _ _ _ _)) (@pe_int _ _ _ _))) (by rfl) (by first | exact .inl rfl | exact .inr rfl | assumption)) (@pss_cut _ _ _ _ _ (@ps_if _ _ _ _ _ _ _ _ (@pt_cmpR _ _ _ _ _ _ _ _ op_gt (@pe_op _ _ _ _ _ _ _ _ op_mod (pv 1) (@pe_int _ _ _ _)) (@pe_int _ _ _ _) (nomark _)) (@pss_one _ _ _ (@ps_set _ _ 3 _ _ _ _ sc__law_wheel.nd rfl (Or.inl rfl) (@pe_op _ _ _ _ _ _ _ _ op_add (@pe_int _ _ _ _) (@pe_op _ _ _ _ _ _ _ _ op_mod (@pe_op _ _ _ _ _ _ _ _ op_fdivB (pv 1) (@pe_int _ _ _ _)) (@pe_ix _ _ _ _ _ _ _ ix_seq (@pe_lst _ _ _ _ (@pa_consN _ _ _ _ _ (@pe_op _ _ _ _ _ _ _ _ op_pow (@pe_int _ _ _ _) (@pe_int _ _ _ _)) (@pa_consN _ _ _ _ _ (@pe_op _ _ _ _ _ _ _ _ op_pow (@pe_int _ _ _ _) (@pe_int _ _ _ _)) (@pa_consN _ _ _ _ _ (@pe_op _ _ _ _ _ _ _ _ op_pow (@pe_int _ _ _ _) (@pe_int _ _ _ _)) (@pa_nil _) rfl) rfl) rfl)) (@pe_op _ _ _ _ _ _ _ _ op_sub (@pe_op _ _ _ _ _ _ _ _ op_mod (pv 1) (@pe_int _ _ _ _)) (@pe_int _ _ _ _)) (fun _ _ => rfl)))) (by rfl) (by first | exact .inl rfl | exact .inr rfl | assumption))) (@pss_nil _)) (@pss_cons _ _ _ _ _ (@ps_set _ _ 4 _ _ _ _ sc__law_wheel.nd rfl (Or.inl rfl) (@pe_op _ _ _ _ _ _ _ _ op_sub (@pe_op _ _ _ _ _ _ _ _ op_mod (pe_call (ok__law_cell_at T) (hr.mono (by decide)) rfl T.m__law_cell_at T.F__law_cell_at.kp (b__law_cell_at T) .nil passR (@pa_consN _ _ _ _ _ (pv 0) (@pa_consN _ _ _ _ _ (@pe_int _ _ _ _) (@pa_nil _) rfl) rfl)) (@pe_op _ _ _ _ _ _ _ _ op_add (@pe_op _ _ _ _ _ _ _ _ op_mulA (@pe_int _ _ _ _) (@pe_op _ _ _ _ _ _ _ _ op_pow (@pe_int _ _ _ _) (@pe_int _ _ _ _))) (@pe_int _ _ _ _))) (@pe_op _ _ _ _ _ _ _ _ op_pow (@pe_int _ _ _ _) (@pe_int _ _ _ _))) (by rfl) (by first | exact .inl rfl | exact .inr rfl | assumption)) (@pss_cons _ _ _ _ _ (@ps_set _ _ 5 _ _ _ _ sc__law_wheel.nd rfl (Or.inl rfl) (@pe_op _ _ _ _ _ _ _ _ op_sub (@pe_op _ _ _ _ _ _ _ _ op_mod (pe_call (ok__law_cell_at T) (hr.mono (by decide)) rfl T.m__law_cell_at T.F__law_cell_at.kp (b__law_cell_at T) .nil passR (@pa_consN _ _ _ _ _ (pv 0) (@pa_consN _ _ _ _ _ (@pe_int _ _ _ _) (@pa_nil _) rfl) rfl)) (@pe_op _ _ _ _ _ _ _ _ op_add (@pe_op _ _ _ _ _ _ _ _ op_mulA (@pe_int _ _ _ _) (@pe_op _ _ _ _ _ _ _ _ op_pow (@pe_int _ _ _ _) (@pe_int _ _ _ _))) (@pe_int _ _ _ _))) (@pe_op _ _ _ _ _ _ _ _ op_pow (@pe_int _ _ _ _) (@pe_int _ _ _ _))) (by rfl) (by first | exact .inl rfl | exact .inr rfl | assumption)) (@pss_one _ _ _ (@ps_ret _ _ _ _ (@pe_lst _ _ _ _ (@pa_consN _ _ _ _ _ (@pe_op _ _ _ _ _ _ _ _ op_mulA (pv 3) (pv 2)) (@pa_consN _ _ _ _ _ (@pe_op _ _ _ _ _ _ _ _ op_mulA (pv 4) (pv 2)) (@pa_consN _ _ _ _ _ (pv 5) (@pa_nil _) rfl) rfl) rfl))))))))))), ?_⟩
    refine ⟨_, rfl, p, 0, ns, rfl, hS, by decide, ?_⟩
    generalize ns.getD (0 : Int).toNat 0 = c
    refine ⟨fun σ' H' => ∃ t : Int, σ' = [some (.ref p), some (.int c), some (.int t), none, none, none] ∧ H' = H ∧ 1 ≤ t ∧ t ≤ 1000, ?_, ?_⟩
    · refine ⟨_, rfl, p, 3, ns, rfl, hS, by decide, _, _, rfl, rfl, (by show (0 : Int) < 3; decide), rfl, _, rfl, ?_⟩
      refine ite2 (fun _ => ?_) (fun _ => ?_)
      · refine ⟨_, rfl, p, 3, ns, rfl, hS, by decide, _, _, rfl, rfl, cdivS (by decide) (by decide), _, _, rfl, rfl, (by show (0 : Int) < 1000; decide), _, _, rfl, rfl, ?_⟩
        exact ⟨_, rfl, rfl, by omega, by omega⟩
      · exact ⟨1, rfl, rfl, by omega, by omega⟩
    · rintro σ' H' ⟨t, rfl, rfl, t1, t2⟩
      refine ⟨_, rfl, _, _, rfl, rfl, cdivS (by decide) (by decide), _, _, rfl, rfl, (by show (0 : Int) < 39; decide), _, _, rfl, rfl, ?_⟩
      refine ⟨fun σ' H2 => ∃ n : Int, σ' = [some (.ref p), some (.int c), some (.int t), some (.int n), none, none] ∧ Same H' H2 ∧ 1 ≤ n ∧ n ≤ G57, ?_, ?_⟩
      · refine ⟨_, rfl, _, _, rfl, rfl, (by show (0 : Int) < 4; decide), _, _, rfl, rfl, _, rfl, ?_⟩
        refine ite2 (fun h => ?_) (fun h => ?_)
        · have h : 0 < c % 4 := by simpa using h
          refine ⟨_, rfl, _, _, rfl, rfl, cdivS (by decide) (by decide), _, _, rfl, rfl, pw_ok _ (by decide) (by decide), _, _, rfl, rfl, pw_ok _ (by decide) (by decide), _, _, rfl, rfl, pw_ok _ (by decide) (by decide), by decide, fun pL hL => ?_⟩
          obtain ⟨M, hM, M1, M2⟩ : ∃ M : Int, atI [V.int ((10 : Int) ^ (6 : Int).toNat), .int ((10 : Int) ^ (18 : Int).toNat), .int ((10 : Int) ^ (57 : Int).toNat)] (c % 4 - 1) = some (.int M) ∧ 1 ≤ M ∧ M ≤ G57 := by
            rw [pow6, pow18, pow57]
            rcases (by omega : c % 4 - 1 = 0 ∨ c % 4 - 1 = 1 ∨ c % 4 - 1 = 2) with e | e | e <;> rw [e]
            · exact ⟨_, rfl, by decide, by decide⟩
            · exact ⟨_, rfl, by decide, by decide⟩
            · exact ⟨_, rfl, by decide, by decide⟩
          refine ⟨_, rfl, _, _, rfl, rfl, (by show (0 : Int) < 4; decide), _, _, rfl, rfl, .inl ⟨pL, _, _, _, rfl, rfl, SqL.of upd_same, hM, ?_⟩⟩
          refine ⟨_, _, rfl, rfl, (by show (0 : Int) < M; omega), _, _, rfl, rfl, ?_⟩
          have q1 := Int.emod_nonneg (c / 4) (by omega : M ≠ 0)
          have q2 := Int.emod_lt_of_pos (c / 4) (by omega : 0 < M)
          exact ⟨_, rfl, Same.fresh hL, by omega, by omega⟩
        · have g : (41 : Int) ≤ G57 := by decide
          exact ⟨_, rfl, Same.refl _, by omega, by omega⟩
      · rintro σ2 H2 ⟨n, rfl, sm2, n1, n2⟩
        have hS2 := sm2.seq hS
        refine ⟨_, rfl, p, 1, ns, rfl, hS2, by decide, _, _, rfl, rfl, pw_ok _ (by decide) (by decide), _, _, rfl, rfl, mulB (big_g ⟨by decide, by decide⟩) (big_g (by rw [pow57]; exact ⟨by decide, by decide⟩)), _, _, rfl, rfl, _, _, rfl, rfl, (by show (0 : Int) < 2 * 10 ^ (57 : Int).toNat + 1; decide), _, _, rfl, rfl, pw_ok _ (by decide) (by decide), _, _, rfl, rfl, ?_⟩
        dsimp only
        rw [pow57]
        have u0 := Int.emod_nonneg (ns.getD (1 : Int).toNat 0) (show 2 * G57 + 1 ≠ 0 by decide)
        have u1 := Int.emod_lt_of_pos (ns.getD (1 : Int).toNat 0) (show 0 < 2 * G57 + 1 by decide)
        generalize ns.getD (1 : Int).toNat 0 % (2 * G57 + 1) = u at u0 u1 ⊢
        refine ⟨_, rfl, p, 2, ns, rfl, hS2, by decide, _, _, rfl, rfl, pw_ok _ (by decide) (by decide), _, _, rfl, rfl, mulB (big_g ⟨by decide, by decide⟩) (big_g (by rw [pow60]; exact ⟨by decide, by decide⟩)), _, _, rfl, rfl, _, _, rfl, rfl, (by show (0 : Int) < 2 * 10 ^ (60 : Int).toNat + 1; decide), _, _, rfl, rfl, pw_ok _ (by decide) (by decide), _, _, rfl, rfl, ?_⟩
        dsimp only
        rw [pow60]
        have v0 := Int.emod_nonneg (ns.getD (2 : Int).toNat 0) (show 2 * G60 + 1 ≠ 0 by decide)
        have v1 := Int.emod_lt_of_pos (ns.getD (2 : Int).toNat 0) (show 0 < 2 * G60 + 1 by decide)
        generalize ns.getD (2 : Int).toNat 0 % (2 * G60 + 1) = v at v0 v1 ⊢
        have g57 : G57 * 1000 = G60 := by decide
        have g0 : 0 < G57 := by decide
        have gl : G57 ≤ G60 := by decide
        have nt1 : 1 * 1 ≤ n * t := Int.mul_le_mul n1 t1 (by decide) (by omega)
        have nt2 : n * t ≤ G57 * 1000 := Int.mul_le_mul n2 t2 (by omega) (by omega)
        have st1 : (u - G57) * t ≤ G57 * 1000 := by
          have e1 : (u - G57) * t ≤ G57 * t := Int.mul_le_mul_of_nonneg_right (by omega) (by omega)
          have e2 : G57 * t ≤ G57 * 1000 := Int.mul_le_mul_of_nonneg_left t2 (by omega)
          omega
        have st2 : -(G57 * 1000) ≤ (u - G57) * t := by
          have e1 : (-G57) * t ≤ (u - G57) * t := Int.mul_le_mul_of_nonneg_right (by omega) (by omega)
          have e2 : G57 * t ≤ G57 * 1000 := Int.mul_le_mul_of_nonneg_left t2 (by omega)
          rw [Int.neg_mul] at e1
          omega
        have k1 : (1000 : Int) ≤ G60 := by decide
        refine ⟨_, rfl, _, rfl, _, _, rfl, rfl, mulB (big_g ⟨by omega, by omega⟩) (big_g ⟨by omega, by omega⟩), _, rfl, _, rfl, _, _, rfl, rfl, mulB (big_g ⟨by omega, by omega⟩) (big_g ⟨by omega, by omega⟩), _, rfl, ?_⟩
        refine ⟨by show 3 ≤ sizeLine; decide, fun q hq => ?_⟩
        exact kq q _ _ _ _ (sm2.trans (Same.fresh hq)) upd_same (by omega) (by omega) (by omega) (by omega) (by omega) (by omega)
def spMost (K : PySem.W.Frag) : Sp := fun vs H Q _ => ∃ (q : Addr) (l : Int) (x y z u : Int), vs = [.int l, .ref q] ∧ SqL K H q [.int x, .int y, .int z, .int u] ∧ ∀ r, (r = x ∨ r = y ∨ r = z ∨ r = u) → (40 < l → r = y ∨ r = z ∨ r = u) → Q (.int r) H
theorem ok__law_most (T : Txt K mg a) : FnOk P w K mg base (CXR P w) 1 a._law_most.f a._law_most.fd ["_law_lap", "_law_some"] (spMost K) := by
  refine T.F__law_most.okN sc__law_most (fun vs H Q E h => ?_) (fun cdv A outer s H vs Q E hr h => ?_)
  · obtain ⟨q, l, x, y, z, u, rfl, _⟩ := h; rfl
  · obtain ⟨q, l, x, y, z, u, rfl, hq, kq⟩ := h
    refine ⟨_, (@pss_cons _ _ _ _ _ (@ps_if _ _ _ _ _ _ _ _ (@pt_cmpR _ _ _ _ _ _ _ _ op_le (pv 0) (@pe_int _ _ _ _) (nomark _)) (@pss_one _ _ _ (@ps_ret _ _ _ _ (@pe_ix _ _ _ _ _ _ _ ix_seq (pv 1) (@pe_int _ _ _ _) (fun _ _ => rfl)))) (@pss_nil _)) (@pss_cons _ _ _ _ _ (@ps_if _ _ _ _ _ _ _ _ (@pt_cmpR _ _ _ _ _ _ _ _ op_le (pv 0) (@pe_op _ _ _ _ _ _ _ _ op_pow (@pe_int _ _ _ _) (@pe_int _ _ _ _)) (nomark _)) (@pss_one _ _ _ (@ps_ret _ _ _ _ (@pe_ix _ _ _ _ _ _ _ ix_seq (pv 1) (@pe_int _ _ _ _) (fun _ _ => rfl)))) (@pss_nil _)) (@pss_cons _ _ _ _ _ (@ps_if _ _ _ _ _ _ _ _ (@pt_cmpR _ _ _ _ _ _ _ _ op_le (pv 0) (@pe_op _ _ _ _ _ _ _ _ op_pow (@pe_int _ _ _ _) (@pe_int _ _ _ _)) (nomark _)) (@pss_one _ _ _ (@ps_ret _ _ _ _ (@pe_ix _ _ _ _ _ _ _ ix_seq (pv 1) (@pe_int _ _ _ _) (fun _ _ => rfl)))) (@pss_nil _)) (@pss_one _ _ _ (@ps_ret _ _ _ _ (@pe_ix _ _ _ _ _ _ _ ix_seq (pv 1) (@pe_int _ _ _ _) (fun _ _ => rfl))))))), ?_⟩
    refine ⟨_, rfl, _, _, rfl, rfl, _, rfl, ?_⟩
    refine ite2 (fun h => ?_) (fun h => ?_)
    · have h : l ≤ 40 := by simpa using h
      exact ⟨_, rfl, .inl ⟨q, _, _, _, rfl, rfl, hq, rfl, kq _ (.inl rfl) (by omega)⟩⟩
    · refine ⟨_, rfl, _, _, rfl, rfl, pw_ok _ (by decide) (by decide), _, _, rfl, rfl, _, rfl, ?_⟩
      refine ite2 (fun _ => ?_) (fun _ => ?_)
      · exact ⟨_, rfl, .inl ⟨q, _, _, _, rfl, rfl, hq, rfl, kq _ (.inr (.inl rfl)) (fun _ => .inl rfl)⟩⟩
      · refine ⟨_, rfl, _, _, rfl, rfl, pw_ok _ (by decide) (by decide), _, _, rfl, rfl, _, rfl, ?_⟩
        refine ite2 (fun _ => ?_) (fun _ => ?_)
        · exact ⟨_, rfl, .inl ⟨q, _, _, _, rfl, rfl, hq, rfl, kq _ (.inr (.inr (.inl rfl))) (fun _ => .inr (.inl rfl))⟩⟩
        · exact ⟨_, rfl, .inl ⟨q, _, _, _, rfl, rfl, hq, rfl, kq _ (.inr (.inr (.inr rfl))) (fun _ => .inr (.inr rfl))⟩⟩
/-- the lap by the law's own divisor -/
theorem lap_div {n st : Int} (n1 : 1 ≤ n) (n2 : n ≤ G60) : 0 ≤ st % n ∧ ((0 : Int) < ((Int.gcd n (st % n) : Nat) : Int) ∧ Big ((Int.gcd n (st % n) : Nat) : Int)) := by
  have gb : (0 : Int) < ((Int.gcd n (st % n) : Nat) : Int) ∧ ((Int.gcd n (st % n) : Nat) : Int) ≤ n := by
    constructor
    · have := Int.gcd_pos_of_ne_zero_left (st % n) (by omega : n ≠ 0)
      omega
    · exact Int.le_of_dvd (by omega) (Int.gcd_dvd_left ..)
  exact ⟨Int.emod_nonneg st (by omega), gb.1, big_g ⟨by have := G60_pos; omega, by omega⟩⟩
end
section
variable {P : Program} {w : World} {K : PySem.W.Frag} {mg : Str → Option Value} {base : Heap} {a : Adr}
def spFar (K : PySem.W.Frag) : Sp := fun vs H Q _ => ∃ (q : Addr) (n st s0 b v : Int), vs = [.ref q, .int b, .int v] ∧ SqL K H q [.int n, .int st, .int s0] ∧ 1 ≤ n ∧ Bd' st ∧ 0 ≤ b ∧ b ≤ G60 ∧ Q (.int (farAt n (st % n) ((v - s0 % n) % n) b)) H
theorem ok__law_far (T : Txt K mg a) : FnOk P w K mg base (CXR P w) 1 a._law_far.f a._law_far.fd ["_law_numbers", "_law_beat", "_law_place"] (spFar K) := by
  refine T.F__law_far.okN sc__law_far (fun vs H Q E h => ?_) (fun cdv A outer s H vs Q E hr h => ?_)
  · obtain ⟨q, n, st, s0, b, v, rfl, _⟩ := h; rfl
  · obtain ⟨q, n, st, s0, b, v, rfl, hq, n1, bst, b0, b1, kq⟩ := h
    refine ⟨_, (@pss_cons _ _ _ _ _ (ps_asg (pv 0) (pg_tupL rfl (pgs_cons (pg_name (i := 3) sc__law_far.nd rfl (Or.inl rfl)) (pgs_cons (pg_name (i := 4) sc__law_far.nd rfl (Or.inl rfl)) (pgs_cons (pg_name (i := 5) sc__law_far.nd rfl (Or.inl rfl)) (@pgs_nil _)))))) (@pss_one _ _ _ (@ps_ret _ _ _ _ (@pe_op _ _ _ _ _ _ _ _ op_mod (@pe_op _ _ _ _ _ _ _ _ op_sub (@pe_op _ _ _ _ _ _ _ _ op_sub (pv 2) (pv 5)) (@pe_op _ _ _ _ _ _ _ _ op_mulA (pv 1) (pv 4))) (pv 3))))), ?_⟩
    refine ⟨_, rfl, q, _, rfl, hq, rfl, _, _, rfl, _, _, rfl, _, _, rfl, rfl, ?_⟩
    refine ⟨_, rfl, _, rfl, _, _, rfl, rfl, _, rfl, _, rfl, _, _, rfl, rfl, mulB (big_g ⟨by have := G60_pos; omega, b1⟩) (big_g bst), _, _, rfl, rfl, _, rfl, _, _, rfl, rfl, (by show (0 : Int) < n; omega), ?_⟩
    dsimp only
    rw [far_raw]
    exact kq
end

end Gh

namespace Gh
open PySem L2
section
variable {P : Program} {w : World} {K : PySem.W.Frag} {mg : Str → Option Value} {base : Heap} {a : Adr}
def spFirstC (a : Adr) : Sp := fun vs H Q _ => ∃ (p : Addr) (n st s0 l m lo hi c : Int), vs = [.ref p, .int m, .int lo, .int hi, .int c] ∧ WheelAt a.W H p n st s0 l ∧ IsLap n st l ∧ 1 ≤ m ∧ m ≤ G60 ∧ 0 ≤ lo ∧ lo < n ∧ 0 ≤ hi ∧ hi < n ∧ cntIn st s0 n lo ((hi - lo) % n) m.toNat = c ∧ ∀ H', Same H H' → Q (.bl true) H'
theorem ok__law_first (T : Txt K mg a) : FnOk P w K mg base (CXR P w) 5 a._law_first.f a._law_first.fd ["_law_wheel_here", "_law_many", "_law_low", "_law_high", "_law_count"] (spFirstC a) := by
  refine T.F__law_first.okN sc__law_first (fun vs H Q E h => ?_) (fun cdv A outer s H vs Q E hr h => ?_)
  · obtain ⟨p, n, st, s0, l, m, lo, hi, c, rfl, _⟩ := h; rfl
  · obtain ⟨p, n, st, s0, l, m, lo, hi, c, rfl, W, L, m1, m2, lo0, lo1, hi0, hi1, ec, kq⟩ := h
    have n1 := W.n1; have n2 := W.n2; have ln := L.ln; have gp := G60_pos
    have ki := fun (H : Hp) (v : Int) => Known.int T H v
    have noP : wholeIn (.int lo) 0 (n - 1) = false ∨ wholeIn (.int hi) 0 (n - 1) = false → False := fun z => by
      rw [wholeIn_of lo0 (by omega), wholeIn_of hi0 (by omega)] at z
      rcases z with z | z <;> cases z
    have noB : ∀ v : Int, 0 ≤ v → v ≤ G60 → wholeIn (.int v) 0 G60 = false → False := fun v v0 v1 z => by rw [wholeIn_of v0 v1] at z; cases z
    refine ⟨_, (@pss_cons _ _ _ _ _ (@ps_set _ _ 5 _ _ _ _ sc__law_first.nd rfl (Or.inl rfl) (pe_call (ok_first_in T) (hr.mono (by decide)) rfl T.m_first_in T.F_first_in.kp (b_first_in T) .nil passR (@pa_consN _ _ _ _ _ (pv 0) (@pa_consN _ _ _ _ _ (pv 2) (@pa_consN _ _ _ _ _ (pv 3) (@pa_nil _) rfl) rfl) rfl)) (by rfl) (by first | exact .inl rfl | exact .inr rfl | assumption)) (@pss_cons _ _ _ _ _ (@ps_if _ _ _ _ _ _ _ _ (@pt_cmpR _ _ _ _ _ _ _ _ op_isN (pv 5) (@pe_non _ _ _) (nomark _)) (@pss_one _ _ _ (@ps_ret _ _ _ _ (@pe_cmpR _ _ _ _ _ _ _ _ op_eq (pv 4) (@pe_int _ _ _ _) (nomark _)))) (@pss_nil _)) (@pss_cons _ _ _ _ _ (@ps_if _ _ _ _ _ _ _ _ (@PW.pt _ _ _ (@pw_or _ _ _ _ _ _ _ (@pt_not _ _ _ _ (@pt_val _ _ _ (pe_call (ok__law_whole T) (hr.mono (by decide)) rfl T.m__law_whole T.F__law_whole.kp (b__law_whole T) .nil passR (@pa_consN _ _ _ _ _ (pv 5) (@pa_nil _) rfl)) (by intro _; rfl))) (@pw_or _ _ _ _ _ _ _ (@pt_cmpR _ _ _ _ _ _ _ _ op_lt (pv 5) (@pe_int _ _ _ _) (nomark _)) (@pw_or1 _ _ _ _ (@pt_cmpR _ _ _ _ _ _ _ _ op_ne (@pe_cmpR _ _ _ _ _ _ _ _ op_lt (pv 5) (pv 1) (nomark _)) (@pe_cmpR _ _ _ _ _ _ _ _ op_gt (pv 4) (@pe_int _ _ _ _) (nomark _)) (nomark _)))))) (@pss_one _ _ _ (@ps_ret _ _ _ _ (@pe_bl _ _ _ _))) (@pss_nil _)) (@pss_one _ _ _ (@ps_ret _ _ _ _ (@pe_and _ _ _ _ _ _ _ (@pe_cmpR _ _ _ _ _ _ _ _ op_eq (pe_call (ok_count_in T) (hr.mono (by decide)) rfl T.m_count_in T.F_count_in.kp (b_count_in T) .nil passR (@pa_consN _ _ _ _ _ (pv 0) (@pa_consN _ _ _ _ _ (pv 5) (@pa_consN _ _ _ _ _ (pv 2) (@pa_consN _ _ _ _ _ (pv 3) (@pa_nil _) rfl) rfl) rfl) rfl)) (@pe_int _ _ _ _) (nomark _)) (@pe_one _ _ _ _ _ (@pe_cmpR _ _ _ _ _ _ _ _ op_eq (pe_call (ok_count_in T) (hr.mono (by decide)) rfl T.m_count_in T.F_count_in.kp (b_count_in T) .nil passR (@pa_consN _ _ _ _ _ (pv 0) (@pa_consN _ _ _ _ _ (@pe_op _ _ _ _ _ _ _ _ op_add (pv 5) (@pe_int _ _ _ _)) (@pa_consN _ _ _ _ _ (pv 2) (@pa_consN _ _ _ _ _ (pv 3) (@pa_nil _) rfl) rfl) rfl) rfl)) (@pe_int _ _ _ _) (nomark _))))))))), ?_⟩
    refine ⟨_, rfl, _, rfl, _, rfl, p, n, st, s0, l, _, _, rfl, W, L, ki _ _, ki _ _, fun ll hh e1 e2 _ _ _ _ r H1 sm1 fi => ?_, fun z => (noP z).elim⟩
    cases e1; cases e2
    have W1 := W.same sm1
    cases r with
    | none =>
      refine ⟨_, rfl, rfl, _, rfl, iteP (eqT rfl) ?_⟩
      have z : c = 0 := by rw [← ec]; exact cnt_none (by omega) _ fun k k0 _ => fi k k0
      exact ⟨_, rfl, rfl, blT (Q := Q) (by rw [z]) (kq _ sm1)⟩
    | some k =>
      have kl := fi.lap L
      have cf := cnt_first (by omega : 0 < n) fi
      have fc := first_cnt (m := m) (by omega : 0 < n) m1 fi
      rw [ec] at fc
      obtain ⟨k0, k1, k2⟩ := id fi
      refine ⟨_, rfl, rfl, _, rfl, iteN (by rfl) ?_⟩
      refine ⟨_, rfl, _, rfl, _, rfl, iteF ?_⟩
      refine ⟨_, rfl, _, _, rfl, rfl, _, rfl, iteN (decide_eq_false (by omega)) ?_⟩
      refine ⟨_, rfl, _, rfl, _, _, rfl, rfl, _, rfl, _, _, rfl, rfl, rfl, _, rfl, iteN (neF (congrArg V.bl fc)) ?_⟩
      refine ⟨_, rfl, _, rfl, _, rfl, _, rfl, p, n, _, _, l, _, _, _, rfl, W1, ki _ _, ki _ _, ki _ _, fun mm ll hh e1 e2 e3 _ _ _ _ _ _ => ?_, fun z => (noB k k0 (by omega) z).elim, fun _ z => (noP z).elim⟩
      cases e1; cases e2; cases e3
      rw [cf.1]
      refine ⟨rfl, ?_⟩
      refine ⟨_, rfl, iteP (eqT rfl) ?_⟩
      refine ⟨_, rfl, _, rfl, _, _, rfl, rfl, _, rfl, _, rfl, p, n, _, _, l, _, _, _, rfl, W1, ki _ _, ki _ _, ki _ _, fun mm ll hh e1 e2 e3 _ _ _ _ _ _ => ?_, fun z => (noB (k + 1) (by omega) (by omega) z).elim, fun _ z => (noP z).elim⟩
      cases e1; cases e2; cases e3
      rw [cf.2]
      exact ⟨rfl, blT (Q := Q) rfl (kq _ sm1)⟩
def spNearC (K : PySem.W.Frag) (a : Adr) : Sp := fun vs H Q _ => ∃ (p q : Addr) (n st s0 l m lo hi c : Int), vs = [.ref p, .ref q, .int m, .int lo, .int hi, .int c] ∧ WheelAt a.W H p n (st % n) (s0 % n) l ∧ IsLap n (st % n) l ∧ SqL K H q [.int n, .int st, .int s0] ∧ Bd' st ∧ 1 ≤ m ∧ m ≤ G60 ∧ 0 ≤ lo ∧ lo < n ∧ 0 ≤ hi ∧ hi < n ∧ cntIn (st % n) (s0 % n) n lo ((hi - lo) % n) m.toNat = c ∧ ∀ H', Same H H' → Q (.bl true) H'
theorem ok__law_near (T : Txt K mg a) : FnOk P w K mg base (CXR P w) 5 a._law_near.f a._law_near.fd ["_law_wheel_here", "_law_numbers", "_law_many", "_law_low", "_law_high", "_law_count"] (spNearC K a) := by
  refine T.F__law_near.okN sc__law_near (fun vs H Q E h => ?_) (fun cdv A outer s H vs Q E hr h => ?_)
  · obtain ⟨p, q, n, st, s0, l, m, lo, hi, c, rfl, _⟩ := h; rfl
  · obtain ⟨p, q, n, st, s0, l, m, lo, hi, c, rfl, W, L, hq, bst, m1, m2, lo0, lo1, hi0, hi1, ec, kq⟩ := h
    have n1 := W.n1; have n2 := W.n2; have ln := L.ln; have gp := G60_pos
    have ki := fun (H : Hp) (v : Int) => Known.int T H v
    have noB : ∀ v : Int, 0 ≤ v → v ≤ G60 → wholeIn (.int v) 0 G60 = false → False := fun v v0 v1 z => by rw [wholeIn_of v0 v1] at z; cases z
    have noV : ∀ v : Int, 0 ≤ v → v < n → wholeIn (.int v) 0 (n - 1) = false → False := fun v v0 v1 z => by rw [wholeIn_of v0 (by omega)] at z; cases z
    refine ⟨_, (@pss_cons _ _ _ _ _ (@ps_set _ _ 6 _ _ _ _ sc__law_near.nd rfl (Or.inl rfl) (@pe_ix _ _ _ _ _ _ _ ix_seq (pv 1) (@pe_int _ _ _ _) (fun _ _ => rfl)) (by rfl) (by first | exact .inl rfl | exact .inr rfl | assumption)) (@pss_cons _ _ _ _ _ (@ps_set _ _ 7 _ _ _ _ sc__law_near.nd rfl (Or.inl rfl) (pe_call (ok_nearest T) (hr.mono (by decide)) rfl T.m_nearest T.F_nearest.kp (b_nearest T) .nil passR (@pa_consN _ _ _ _ _ (pv 0) (@pa_consN _ _ _ _ _ (pv 2) (@pa_consN _ _ _ _ _ (pv 4) (@pa_nil _) rfl) rfl) rfl)) (by rfl) (by first | exact .inl rfl | exact .inr rfl | assumption)) (@pss_cons _ _ _ _ _ (@ps_if _ _ _ _ _ _ _ _ (@PW.pt _ _ _ (@pw_or _ _ _ _ _ _ _ (@pt_not _ _ _ _ (@pt_val _ _ _ (pe_call (ok__law_whole T) (hr.mono (by decide)) rfl T.m__law_whole T.F__law_whole.kp (b__law_whole T) .nil passR (@pa_consN _ _ _ _ _ (pv 7) (@pa_nil _) rfl)) (by intro _; rfl))) (@pw_or _ _ _ _ _ _ _ (@pt_cmpR _ _ _ _ _ _ _ _ op_lt (pv 7) (@pe_int _ _ _ _) (nomark _)) (@pw_or1 _ _ _ _ (@pt_cmpR _ _ _ _ _ _ _ _ op_ge (pv 7) (pv 2) (nomark _)))))) (@pss_one _ _ _ (@ps_ret _ _ _ _ (@pe_bl _ _ _ _))) (@pss_nil _)) (@pss_cons _ _ _ _ _ (@ps_set _ _ 8 _ _ _ _ sc__law_near.nd rfl (Or.inl rfl) (pe_call (ok__law_far T) (hr.mono (by decide)) rfl T.m__law_far T.F__law_far.kp (b__law_far T) .nil passR (@pa_consN _ _ _ _ _ (pv 1) (@pa_consN _ _ _ _ _ (pv 7) (@pa_consN _ _ _ _ _ (pv 4) (@pa_nil _) rfl) rfl) rfl)) (by rfl) (by first | exact .inl rfl | exact .inr rfl | assumption)) (@pss_cons _ _ _ _ _ (@ps_if _ _ _ _ _ _ _ _ (@pt_cmpR _ _ _ _ _ _ _ _ op_ne (@pe_cmpR _ _ _ _ _ _ _ _ op_le (pv 8) (@pe_op _ _ _ _ _ _ _ _ op_mod (@pe_op _ _ _ _ _ _ _ _ op_sub (pv 4) (pv 3)) (pv 6)) (nomark _)) (@pe_cmpR _ _ _ _ _ _ _ _ op_gt (pv 5) (@pe_int _ _ _ _) (nomark _)) (nomark _)) (@pss_one _ _ _ (@ps_ret _ _ _ _ (@pe_bl _ _ _ _))) (@pss_nil _)) (@pss_cons _ _ _ _ _ (@ps_if _ _ _ _ _ _ _ _ (@PW.pt _ _ _ (@pw_and _ _ _ _ _ _ _ (@pt_cmpR _ _ _ _ _ _ _ _ op_gt (pv 8) (@pe_int _ _ _ _) (nomark _)) (@pw_and1 _ _ _ _ (@pt_cmpR _ _ _ _ _ _ _ _ op_ne (pe_call (ok_count_in T) (hr.mono (by decide)) rfl T.m_count_in T.F_count_in.kp (b_count_in T) .nil passR (@pa_consN _ _ _ _ _ (pv 0) (@pa_consN _ _ _ _ _ (pv 2) (@pa_consN _ _ _ _ _ (@pe_op _ _ _ _ _ _ _ _ op_mod (@pe_op _ _ _ _ _ _ _ _ op_add (@pe_op _ _ _ _ _ _ _ _ op_sub (pv 4) (pv 8)) (@pe_int _ _ _ _)) (pv 6)) (@pa_consN _ _ _ _ _ (pv 4) (@pa_nil _) rfl) rfl) rfl) rfl)) (@pe_int _ _ _ _) (nomark _))))) (@pss_one _ _ _ (@ps_ret _ _ _ _ (@pe_bl _ _ _ _))) (@pss_nil _)) (@pss_cons _ _ _ _ _ (@ps_set _ _ 9 _ _ _ _ sc__law_near.nd rfl (Or.inl rfl) (@pe_op _ _ _ _ _ _ _ _ op_mod (@pe_op _ _ _ _ _ _ _ _ op_sub (pv 4) (pv 8)) (pv 6)) (by rfl) (by first | exact .inl rfl | exact .inr rfl | assumption)) (@pss_one _ _ _ (@ps_ret _ _ _ _ (@pe_cmpR _ _ _ _ _ _ _ _ op_eq (pe_call (ok_first_in T) (hr.mono (by decide)) rfl T.m_first_in T.F_first_in.kp (b_first_in T) .nil passR (@pa_consN _ _ _ _ _ (pv 0) (@pa_consN _ _ _ _ _ (pv 9) (@pa_consN _ _ _ _ _ (pv 9) (@pa_nil _) rfl) rfl) rfl)) (pv 7) (nomark _))))))))))), ?_⟩
    refine ⟨_, rfl, .inl ⟨q, _, _, _, rfl, rfl, hq, rfl, ?_⟩⟩
    refine ⟨_, rfl, _, rfl, _, rfl, p, n, _, _, l, _, _, rfl, W, L, ki _ _, ki _ _, fun mm v e1 e2 _ _ _ _ r H1 sm1 nm => ?_, fun z => ?_, fun _ z => (noV hi hi0 hi1 z).elim⟩
    case refine_2 =>
      have z : wholeIn (.int m) 1 G60 = false := z
      rw [wholeIn_of m1 m2] at z; cases z
    cases e1; cases e2
    have r0 := nm.r0
    have rm := nm.rm
    have hq1 := sm1.seq hq
    have W1 := W.same sm1
    refine ⟨_, rfl, _, rfl, _, rfl, iteF ?_⟩
    refine ⟨_, rfl, _, _, rfl, rfl, _, rfl, iteN (decide_eq_false (by omega)) ?_⟩
    refine ⟨_, rfl, _, rfl, _, _, rfl, rfl, _, rfl, iteN (decide_eq_false (by omega)) ?_⟩
    refine ⟨_, rfl, _, rfl, _, rfl, q, n, st, s0, r, hi, rfl, hq1, n1, bst, r0, by omega, ?_⟩
    have nc := near_cnt (lo := lo) (by omega : 0 < n) nm
    rw [ec] at nc
    have nn := fun f => near_none (f := f) (by omega : 0 < n) nm
    have nf := fun f r' => near_first (f := f) (r' := r') (by omega : 0 < n) nm
    have f0 : 0 ≤ farAt n (st % n) ((hi - s0 % n) % n) r := Int.emod_nonneg _ (by omega)
    have f1 : farAt n (st % n) ((hi - s0 % n) % n) r < n := Int.emod_lt_of_pos _ (by omega)
    generalize hf : farAt n (st % n) ((hi - s0 % n) % n) r = f at nc f0 f1 ⊢
    refine ⟨_, rfl, _, rfl, _, rfl, _, _, rfl, rfl, _, rfl, _, _, rfl, rfl, (by show (0 : Int) < n; omega), _, _, rfl, rfl, _, rfl, _, _, rfl, rfl, rfl, _, rfl, iteN (neF (by dsimp only; rw [nc])) ?_⟩
    have sp0 := Int.emod_nonneg (hi - f) (by omega : n ≠ 0)
    have sp1 := Int.emod_lt_of_pos (hi - f) (by omega : 0 < n)
    refine ⟨_, rfl, _, _, rfl, rfl, _, rfl, ?_⟩
    refine ite2 (fun h => ?_) (fun h => ?_)
    · have h : 0 < f := by simpa using h
      have q0 := Int.emod_nonneg (hi - f + 1) (by omega : n ≠ 0)
      have q1 := Int.emod_lt_of_pos (hi - f + 1) (by omega : 0 < n)
      refine ⟨_, rfl, _, rfl, _, rfl, _, rfl, _, _, rfl, rfl, _, _, rfl, rfl, _, rfl, _, _, rfl, rfl, (by show (0 : Int) < n; omega), _, rfl, p, n, _, _, l, _, _, _, rfl, W1, ki _ _, ki _ _, ki _ _, fun mm ll hh e1 e2 e3 _ _ _ _ _ _ => ?_, fun z => (noB m (by omega) m2 z).elim, fun _ z => ?_⟩
      case refine_2 =>
        rcases z with z | z
        · exact (noV _ q0 q1 z).elim
        · exact (noV _ hi0 hi1 z).elim
      cases e1; cases e2; cases e3
      rw [nn f hf h]
      refine ⟨rfl, _, rfl, iteN (neF rfl) ?_⟩
      refine ⟨_, rfl, _, rfl, _, _, rfl, rfl, _, rfl, _, _, rfl, rfl, (by show (0 : Int) < n; omega), ?_⟩
      refine ⟨_, rfl, _, rfl, _, rfl, p, n, _, _, l, _, _, rfl, W1, L, ki _ _, ki _ _, fun ll hh e1 e2 _ _ _ _ r' H2 sm2 fi => ?_, fun z => ?_⟩
      case refine_2 =>
        rcases z with z | z <;> exact (noV _ sp0 sp1 z).elim
      cases e1; cases e2
      have e := nf f r' hf fi
      subst e
      exact ⟨_, rfl, rfl, blT (Q := Q) rfl (kq _ (sm1.trans sm2))⟩
    · refine ⟨_, rfl, _, rfl, _, _, rfl, rfl, _, rfl, _, _, rfl, rfl, (by show (0 : Int) < n; omega), ?_⟩
      refine ⟨_, rfl, _, rfl, _, rfl, p, n, _, _, l, _, _, rfl, W1, L, ki _ _, ki _ _, fun ll hh e1 e2 _ _ _ _ r' H2 sm2 fi => ?_, fun z => ?_⟩
      case refine_2 =>
        rcases z with z | z <;> exact (noV _ sp0 sp1 z).elim
      cases e1; cases e2
      have e := nf f r' hf fi
      subst e
      exact ⟨_, rfl, rfl, blT (Q := Q) rfl (kq _ (sm1.trans sm2))⟩
theorem asc_strict {ns : List Int} (h : ns.Pairwise (· ≤ ·)) (nd : ns.Nodup) : ns.Pairwise (· < ·) := by
  refine List.Pairwise.imp₂ (fun a b h1 h2 => ?_) h nd
  exact Int.lt_iff_le_and_ne.mpr ⟨h1, h2⟩
def spLaw (K : PySem.W.Frag) : Sp := fun vs H Q _ => ∃ (p : Addr) (ns : List Int), vs = [.ref p] ∧ SqL K H p (ns.map V.int) ∧ ns.length ≤ 63 ∧ (∀ x ∈ ns, Builtin.Int.intBits x ≤ 2 ^ 20) ∧ ∀ H', Q (.bl true) H'
theorem ok_law (T : Txt K mg a) : FnOk P w K mg base (CXR P w) 6 a.law.f a.law.fd ["_law_script"] (spLaw K) := by
  refine T.F_law.okN sc_law (fun vs H Q E h => ?_) (fun cdv A outer s H vs Q E hr h => ?_)
  · obtain ⟨p, ns, rfl, _⟩ := h; rfl
  · obtain ⟨p, ns, rfl, hS, hlen, hbits, kq⟩ := h
    refine ⟨_, (@pss_cons _ _ _ _ _ (ps_asg (pe_call (ok__law_wheel T) (hr.mono (by decide)) rfl T.m__law_wheel T.F__law_wheel.kp (b__law_wheel T) .nil passR (@pa_consN _ _ _ _ _ (pv 0) (@pa_nil _) rfl)) (pg_tupL rfl (pgs_cons (pg_name (i := 1) sc_law.nd rfl (Or.inr rfl)) (pgs_cons (pg_name (i := 2) sc_law.nd rfl (Or.inl rfl)) (pgs_cons (pg_name (i := 3) sc_law.nd rfl (Or.inl rfl)) (@pgs_nil _)))))) (@pss_cons _ _ _ _ _ (@ps_set _ _ 4 _ _ _ _ sc_law.nd rfl (Or.inl rfl) (@pe_op _ _ _ _ _ _ _ _ op_fdivB (pv 1) (pe_call (ok__law_divisor T) (hr.mono (by decide)) rfl T.m__law_divisor T.F__law_divisor.kp (b__law_divisor T) .nil passR (@pa_consN _ _ _ _ _ (pv 1) (@pa_consN _ _ _ _ _ (@pe_op _ _ _ _ _ _ _ _ op_mod (pv 2) (pv 1)) (@pa_nil _) rfl) rfl))) (by rfl) (by first | exact .inl rfl | exact .inr rfl | assumption)) (@pss_cons _ _ _ _ _ (@ps_set _ _ 5 _ _ _ _ sc_law.nd rfl (Or.inl rfl) (pe_make T.mk_Wheel (ok_Wheel___init__ T) (hr.mono (by decide)) rfl T.m_Wheel (b_Wheel___init__ T) .nil passR (@pa_consN _ _ _ _ _ (pv 1) (@pa_consN _ _ _ _ _ (pv 2) (@pa_consN _ _ _ _ _ (pv 3) (@pa_nil _) rfl) rfl) rfl)) (by rfl) (by first | exact .inl rfl | exact .inr rfl | assumption)) (@pss_cons _ _ _ _ _ (@ps_set _ _ 6 _ _ _ _ sc_law.nd rfl (Or.inl rfl) (@pe_lst _ _ _ _ (@pa_consN _ _ _ _ _ (pv 1) (@pa_consN _ _ _ _ _ (pv 2) (@pa_consN _ _ _ _ _ (pv 3) (@pa_nil _) rfl) rfl) rfl)) (by rfl) (by first | exact .inl rfl | exact .inr rfl | assumption)) (@pss_cons _ _ _ _ _ (@ps_set _ _ 7 _ _ _ _ sc_law.nd rfl (Or.inl rfl) (@pe_op _ _ _ _ _ _ _ _ op_add (@pe_int _ _ _ _) (@pe_op _ _ _ _ _ _ _ _ op_mod (pe_call (ok__law_cell_at T) (hr.mono (by decide)) rfl T.m__law_cell_at T.F__law_cell_at.kp (b__law_cell_at T) .nil passR (@pa_consN _ _ _ _ _ (pv 0) (@pa_consN _ _ _ _ _ (@pe_int _ _ _ _) (@pa_nil _) rfl) rfl)) (@pe_ix _ _ _ _ _ _ _ ix_seq (@pe_lst _ _ _ _ (@pa_consN _ _ _ _ _ (@pe_op _ _ _ _ _ _ _ _ op_pow (@pe_int _ _ _ _) (@pe_int _ _ _ _)) (@pa_consN _ _ _ _ _ (pe_callB (call_min2 rfl) rfl T.n_min bt_min (@pa_consN _ _ _ _ _ (@pe_op _ _ _ _ _ _ _ _ op_pow (@pe_int _ _ _ _) (@pe_int _ _ _ _)) (@pa_consN _ _ _ _ _ (@pe_op _ _ _ _ _ _ _ _ op_mulA (@pe_int _ _ _ _) (pv 4)) (@pa_nil _) rfl) rfl)) (@pa_nil _) rfl) rfl)) (@pe_op _ _ _ _ _ _ _ _ op_mod (pe_call (ok__law_cell_at T) (hr.mono (by decide)) rfl T.m__law_cell_at T.F__law_cell_at.kp (b__law_cell_at T) .nil passR (@pa_consN _ _ _ _ _ (pv 0) (@pa_consN _ _ _ _ _ (@pe_int _ _ _ _) (@pa_nil _) rfl) rfl)) (@pe_int _ _ _ _)) (fun _ _ => rfl)))) (by rfl) (by first | exact .inl rfl | exact .inr rfl | assumption)) (@pss_cons _ _ _ _ _ (@ps_set _ _ 8 _ _ _ _ sc_law.nd rfl (Or.inl rfl) (pe_callB (call_sorted_set rfl) rfl T.n_sorted bt_sorted (@pa_consN _ _ _ _ _ (pe_callTy (call_set_rule rfl) rfl T.n_set bt_set (@pa_consN _ _ _ _ _ (pe_lc rfl (compCells (N := ["_law_script", "_law_size", "_law_step", "_law_start", "_law_lap", "_law_wheel_here", "_law_numbers", "_law_many", "_law_places", "_law_total", "_law_k", "_law_low", "_law_high", "_law_count"]) (n := s.heap.objs.size + 1) (names := (defScope st_law).names) rfl rfl rfl rfl (by decide +kernel)) (@pi_list _ _ _ _ (@pe_slice _ _ _ _ _ _ _ _ _ _ sl_list (pv 0) (@po_some _ _ _ (@pe_int _ _ _ _)) (@po_some _ _ _ (@pe_op _ _ _ _ _ _ _ _ op_add (@pe_int _ _ _ _) (pe_call (ok__law_most T) (hr.mono (by decide)) rfl T.m__law_most T.F__law_most.kp (b__law_most T) .nil passR (@pa_consN _ _ _ _ _ (pv 4) (@pa_consN _ _ _ _ _ (@pe_lst _ _ _ _ (@pa_consN _ _ _ _ _ (@pe_int _ _ _ _) (@pa_consN _ _ _ _ _ (@pe_int _ _ _ _) (@pa_consN _ _ _ _ _ (@pe_int _ _ _ _) (@pa_consN _ _ _ _ _ (@pe_int _ _ _ _) (@pa_nil _) rfl) rfl) rfl) rfl)) (@pa_nil _) rfl) rfl)))))) (fun _ _ _ _ => (@pts_nil _)) (fun _ _ _ _ => (@pe_op _ _ _ _ _ _ _ _ op_mod (pv 0) (pv 2)))) (@pa_nil _) rfl)) (@pa_nil _) rfl)) (by rfl) (by first | exact .inl rfl | exact .inr rfl | assumption)) (@pss_cut _ _ _ _ _ (@ps_if _ _ _ _ _ _ _ _ (@pt_cmpR _ _ _ _ _ _ _ _ (op_eqL (hu_of hr)) (pv 8) (@pe_lst _ _ _ _ (@pa_nil _)) (nomark _)) (@pss_one _ _ _ (@ps_set _ _ 8 _ _ _ _ sc_law.nd rfl (Or.inl rfl) (@pe_lst _ _ _ _ (@pa_consN _ _ _ _ _ (@pe_int _ _ _ _) (@pa_nil _) rfl)) (by rfl) (by first | exact .inl rfl | exact .inr rfl | assumption))) (@pss_nil _)) (@pss_cons _ _ _ _ _ (@ps_set _ _ 9 _ _ _ _ sc_law.nd rfl (Or.inl rfl) (@pe_int _ _ _ _) (by rfl) (by first | exact .inl rfl | exact .inr rfl | assumption)) (@pss_cons _ _ _ _ _ (ps_for PassesOwn.never rfl (pi_range1 rfl T.n_range (@pa_consN _ _ _ _ _ (pe_callB call_len_seq rfl T.n_len bt_len (@pa_consN _ _ _ _ _ (pv 8) (@pa_nil _) rfl)) (@pa_nil _) rfl)) (pg_name (i := 10) sc_law.nd rfl (Or.inl rfl)) (@pss_cons _ _ _ _ _ (@ps_set _ _ 11 _ _ _ _ sc_law.nd rfl (Or.inl rfl) (@pe_ix _ _ _ _ _ _ _ ix_seq (pv 8) (pv 10) (fun _ _ => rfl)) (by rfl) (by first | exact .inl rfl | exact .inr rfl | assumption)) (@pss_cons _ _ _ _ _ (@ps_set _ _ 12 _ _ _ _ sc_law.nd rfl (Or.inl rfl) (@pe_op _ _ _ _ _ _ _ _ op_mod (@pe_op _ _ _ _ _ _ _ _ op_sub (@pe_ix _ _ _ _ _ _ _ ix_seq (pv 8) (@pe_op _ _ _ _ _ _ _ _ op_mod (@pe_op _ _ _ _ _ _ _ _ op_add (pv 10) (@pe_int _ _ _ _)) (pe_callB call_len_seq rfl T.n_len bt_len (@pa_consN _ _ _ _ _ (pv 8) (@pa_nil _) rfl))) (fun _ _ => rfl)) (@pe_int _ _ _ _)) (pv 1)) (by rfl) (by first | exact .inl rfl | exact .inr rfl | assumption)) (@pss_cons _ _ _ _ _ (@ps_set _ _ 13 _ _ _ _ sc_law.nd rfl (Or.inl rfl) (pe_call (ok_count_in T) (hr.mono (by decide)) rfl T.m_count_in T.F_count_in.kp (b_count_in T) .nil passR (@pa_consN _ _ _ _ _ (pv 5) (@pa_consN _ _ _ _ _ (pv 7) (@pa_consN _ _ _ _ _ (pv 11) (@pa_consN _ _ _ _ _ (pv 12) (@pa_nil _) rfl) rfl) rfl) rfl)) (by rfl) (by first | exact .inl rfl | exact .inr rfl | assumption)) (@pss_cons _ _ _ _ _ (@ps_if _ _ _ _ _ _ _ _ (@PW.pt _ _ _ (@pw_or _ _ _ _ _ _ _ (@pt_not _ _ _ _ (@pt_val _ _ _ (pe_call (ok__law_whole T) (hr.mono (by decide)) rfl T.m__law_whole T.F__law_whole.kp (b__law_whole T) .nil passR (@pa_consN _ _ _ _ _ (pv 13) (@pa_nil _) rfl)) (by intro _; rfl))) (@pw_or1 _ _ _ _ (@pt_cmpR _ _ _ _ _ _ _ _ op_lt (pv 13) (@pe_int _ _ _ _) (nomark _))))) (@pss_one _ _ _ (@ps_ret _ _ _ _ (@pe_bl _ _ _ _))) (@pss_nil _)) (@pss_cons _ _ _ _ _ (@ps_set _ _ 9 _ _ _ _ sc_law.nd rfl (Or.inl rfl) (@pe_op _ _ _ _ _ _ _ _ op_add (pv 9) (pv 13)) (by rfl) (by first | exact .inl rfl | exact .inr rfl | assumption)) (@pss_one _ _ _ (@ps_if _ _ _ _ _ _ _ _ (@PW.pt _ _ _ (@pw_or _ _ _ _ _ _ _ (@pt_not _ _ _ _ (@pt_val _ _ _ (pe_call (ok__law_first T) (hr.mono (by decide)) rfl T.m__law_first T.F__law_first.kp (b__law_first T) .nil passR (@pa_consN _ _ _ _ _ (pv 5) (@pa_consN _ _ _ _ _ (pv 7) (@pa_consN _ _ _ _ _ (pv 11) (@pa_consN _ _ _ _ _ (pv 12) (@pa_consN _ _ _ _ _ (pv 13) (@pa_nil _) rfl) rfl) rfl) rfl) rfl)) (by intro _; rfl))) (@pw_or1 _ _ _ _ (@pt_not _ _ _ _ (@pt_val _ _ _ (pe_call (ok__law_near T) (hr.mono (by decide)) rfl T.m__law_near T.F__law_near.kp (b__law_near T) .nil passR (@pa_consN _ _ _ _ _ (pv 5) (@pa_consN _ _ _ _ _ (pv 6) (@pa_consN _ _ _ _ _ (pv 7) (@pa_consN _ _ _ _ _ (pv 11) (@pa_consN _ _ _ _ _ (pv 12) (@pa_consN _ _ _ _ _ (pv 13) (@pa_nil _) rfl) rfl) rfl) rfl) rfl) rfl)) (by intro _; rfl)))))) (@pss_one _ _ _ (@ps_ret _ _ _ _ (@pe_bl _ _ _ _))) (@pss_nil _))))))))) (@pss_one _ _ _ (@ps_ret _ _ _ _ (@pe_cmpR _ _ _ _ _ _ _ _ op_eq (pv 9) (pv 7) (nomark _))))))))))))), ?_⟩
    refine ⟨_, rfl, p, ns, rfl, hS, fun q0 n st s0 H1 sm1 hq0 n1 n2 st1 st2 s01 s02 => ⟨q0, _, rfl, SqL.of hq0, rfl, _, _, rfl, _, _, rfl, _, _, rfl, rfl, ?_⟩⟩
    have ld := lap_div (st := st) n1 n2
    refine ⟨_, rfl, _, rfl, _, rfl, _, rfl, _, _, rfl, rfl, (by show (0 : Int) < n; omega), n, st % n, rfl, by omega, ld.1, _, _, rfl, rfl, ld.2, ?_⟩
    have lapE : n / ((Int.gcd n (st % n) : Nat) : Int) = lapOf n st := rfl
    dsimp only
    rw [lapE]
    have L := lapOf_is (st := st) n1
    generalize hlap : lapOf n st = l at L
    refine ⟨_, rfl, _, rfl, _, rfl, fun x dx hx hdx hne => ⟨x, dx, _, _, _, rfl, upd_same, Known.int T _ _, Known.int T _ _, Known.int T _ _, fun _ n' st' s' e1 e2 e3 _ _ => ⟨rfl, ?_⟩, fun z => ?_⟩⟩
    case refine_2 =>
      rw [okW_of n1 n2 st1 st2 s01 s02] at z
      cases z
    cases e1; cases e2; cases e3
    obtain ⟨sm2, W⟩ := made (W := a.W) (st := st) (s0 := s0) hx hdx hne n1 n2
    rw [hlap] at sm2 W ⊢
    have sm12 := sm1.trans sm2
    generalize upd (upd (upd H1 dx (.own x)) x (.ins a.W dx [])) x (.ins a.W dx (wf n (st % n) (s0 % n) l)) = H2 at sm2 W sm12 ⊢
    refine ⟨_, rfl, _, rfl, _, rfl, by show 3 ≤ sizeLine; decide, fun q hq => ?_⟩
    have sm3 : Same H2 (upd H2 q (.lst [.int n, .int st, .int s0])) := Same.fresh hq
    have hq3 : (upd H2 q (.lst [.int n, .int st, .int s0])) q = some (.lst [.int n, .int st, .int s0]) := upd_same
    have W3 := W.same sm3
    have sm13 := sm12.trans sm3
    generalize upd H2 q (.lst [.int n, .int st, .int s0]) = H3 at sm3 hq3 W3 sm13 ⊢
    have l1 := L.l1
    have ln := L.ln
    have gp := G60_pos
    have hS3 := sm13.seq hS
    refine ⟨_, rfl, p, 4, ns, rfl, hS3, by decide, _, _, rfl, rfl, pw_ok _ (by decide) (by decide), _, _, rfl, rfl, pw_ok _ (by decide) (by decide), _, rfl, _, _, rfl, rfl, mulB (big_g ⟨by decide, by decide⟩) (big_g ⟨by omega, by omega⟩), _, _, rfl, by show 2 ≤ sizeLine; decide, fun pL hL => ?_⟩
    have sm4 : Same H3 (upd H3 pL (.lst [V.int ((10 : Int) ^ (60 : Int).toNat), .int (if 2 * l < (10 : Int) ^ (60 : Int).toNat then 2 * l else (10 : Int) ^ (60 : Int).toNat)])) := Same.fresh hL
    have hS4 := sm4.seq hS3
    have W4 := W3.same sm4
    have sm14 := sm13.trans sm4
    have hq4 := sm4 _ _ hq3
    have hL4 : (upd H3 pL (.lst [V.int ((10 : Int) ^ (60 : Int).toNat), .int (if 2 * l < (10 : Int) ^ (60 : Int).toNat then 2 * l else (10 : Int) ^ (60 : Int).toNat)])) pL = some (.lst [V.int ((10 : Int) ^ (60 : Int).toNat), .int (if 2 * l < (10 : Int) ^ (60 : Int).toNat then 2 * l else (10 : Int) ^ (60 : Int).toNat)]) := upd_same
    generalize upd H3 pL (.lst [V.int ((10 : Int) ^ (60 : Int).toNat), .int (if 2 * l < (10 : Int) ^ (60 : Int).toNat then 2 * l else (10 : Int) ^ (60 : Int).toNat)]) = H4 at sm4 hS4 W4 sm14 hq4 hL4 ⊢
    obtain ⟨M, hM, M1, M2⟩ : ∃ M : Int, atI [V.int ((10 : Int) ^ (60 : Int).toNat), .int (if 2 * l < (10 : Int) ^ (60 : Int).toNat then 2 * l else (10 : Int) ^ (60 : Int).toNat)] (ns.getD (5 : Int).toNat 0 % 2) = some (.int M) ∧ 1 ≤ M ∧ M ≤ G60 := by
      rw [pow60]
      rcases (by omega : ns.getD (5 : Int).toNat 0 % 2 = 0 ∨ ns.getD (5 : Int).toNat 0 % 2 = 1) with e | e <;> rw [e]
      · exact ⟨_, rfl, by decide, by omega⟩
      · refine ⟨_, rfl, ?_, ?_⟩
        · split <;> omega
        · split <;> omega
    refine ⟨_, rfl, p, 5, ns, rfl, hS4, by decide, _, _, rfl, rfl, (by show (0 : Int) < 2; decide), .inl ⟨pL, _, _, _, rfl, rfl, SqL.of hL4, hM, _, _, rfl, rfl, (by show (0 : Int) < M; omega), _, _, rfl, rfl, ?_⟩⟩
    have m0 := Int.emod_nonneg (ns.getD (4 : Int).toNat 0) (by omega : M ≠ 0)
    have mM := Int.emod_lt_of_pos (ns.getD (4 : Int).toNat 0) (by omega : 0 < M)
    dsimp only
    obtain ⟨m, hm, m1, m2⟩ : ∃ m : Int, 1 + ns.getD (4 : Int).toNat 0 % M = m ∧ 1 ≤ m ∧ m ≤ G60 := ⟨_, rfl, by omega, by omega⟩
    rw [hm]
    -- the places
    refine ⟨_, rfl, _, rfl, _, rfl, by show 4 ≤ sizeLine; decide, fun pm hpm => ⟨pm, l, 30, 10, 5, 3, rfl, SqL.of upd_same, fun r hr' _ => ?_⟩⟩
    have r0 : 0 ≤ r ∧ r ≤ 30 := by omega
    have sm5 : Same H4 (upd H4 pm (.lst [.int 30, .int 10, .int 5, .int 3])) := Same.fresh hpm
    have W5 := W4.same sm5
    have sm15 := sm14.trans sm5
    have hq5 := sm5 _ _ hq4
    generalize upd H4 pm (.lst [.int 30, .int 10, .int 5, .int 3]) = H5 at sm5 W5 sm15 hq5 ⊢
    refine ⟨_, _, rfl, rfl, _, rfl, p, _, rfl, sm15.seq hS, fun c hc => ?_⟩
    obtain ⟨cs, hcs, lcs, _⟩ := cut_ints ns 6 (6 + r) (by decide) (by omega)
    have lcs : cs.length ≤ 30 := by omega
    have sm6 : Same H5 (upd H5 c (.lst (cutV (ns.map V.int) (some 6) (some (6 + r))))) := Same.fresh hc
    rw [hcs] at sm6
    have hC : (upd H5 c (.lst (cs.map V.int))) c = some (.lst (cs.map V.int)) := upd_same
    dsimp only
    rw [hcs]
    have W6 := W5.same sm6
    have sm16 := sm15.trans sm6
    have hq6 := sm6 _ _ hq5
    generalize upd H5 c (.lst (cs.map V.int)) = H6 at sm6 W6 sm16 hq6 hC ⊢
    refine ⟨c, rfl, ⟨_, SqL.of hC⟩, fun D hD => ?_⟩
    refine lc_listI (fun i => .int (cs.getD i 0 % n)) (SqL.of hC) (by rw [List.length_map]; omega) (fun i v e H' Q' sm' hQ' => ?_) hD ?_
    · rw [List.getElem?_map] at e
      obtain ⟨y, ey, rfl⟩ := Option.map_eq_some_iff.mp e
      have eg : cs.getD i 0 = y := by simp [List.getD, ey]
      rw [eg] at hQ'
      exact ⟨_, rfl, _, rfl, _, _, rfl, rfl, (by show (0 : Int) < n; omega), hQ'⟩
    rw [List.length_map]
    have el : (List.range cs.length).map (fun i => V.int (cs.getD i 0 % n)) = (cs.map fun y => y % n).map V.int := by
      apply List.ext_getElem
      · simp
      · intro i h1 h2
        have : i < cs.length := by simpa using h1
        simp [List.getD, this]
    rw [el]
    have sm7 : Same H6 (upd H6 D (.lst ((cs.map fun y => y % n).map V.int))) := Same.fresh hD
    have hD7 : (upd H6 D (.lst ((cs.map fun y => y % n).map V.int))) D = some (.lst ((cs.map fun y => y % n).map V.int)) := upd_same
    generalize upd H6 D (.lst ((cs.map fun y => y % n).map V.int)) = H7 at sm7 hD7 ⊢
    refine ⟨D, _, rfl, SqL.of hD7, by rw [List.length_map]; omega, fun S ds hSn nd dmem dlen => ?_⟩
    refine ⟨S, ds, rfl, upd_same, by omega, fun R ps hR hp pw => ?_⟩
    have pnd : ps.Nodup := hp.nodup_iff.mpr nd
    have pb : ∀ z ∈ ps, 0 ≤ z ∧ z < n := fun z hz => by
      obtain ⟨y, _, rfl⟩ := List.mem_map.mp ((dmem z).mp (hp.mem_iff.mp hz))
      exact ⟨Int.emod_nonneg _ (by omega), Int.emod_lt_of_pos _ (by omega)⟩
    have pl : ps.length ≤ 60 := by rw [hp.length_eq]; exact dlen
    have ps1 := asc_strict pw pnd
    refine ⟨fun σ' H' => ∃ (R' : Addr) (qs : List Int), σ' = [some (.ref p), some (.int n), some (.int st), some (.int s0), some (.int l), some (.ref x), some (.ref q), some (.int m), some (.ref R'), none, none, none, none, none] ∧ Same H6 H' ∧ H' R' = some (.lst (qs.map V.int)) ∧ Parts n qs ∧ qs.length ≤ 60, ?_, ?_⟩
    · refine ⟨_, rfl, by decide, fun pe hpe => ⟨R, pe, _, _, rfl, rfl, SqL.of ((Same.fresh hpe) _ _ upd_same), SqL.of upd_same, ?_⟩⟩
      have sme : Same H6 _ := ((sm7.trans (Same.fresh hSn)).trans (Same.fresh hR)).trans (Same.fresh (o := .lst []) hpe)
      by_cases hps : ps = []
      · subst hps
        refine .inl ⟨⟨rfl, fun j v u h1 h2 => by simp at h1⟩, _, rfl, iteT ?_⟩
        refine ⟨by decide, fun R2 hR2 => ⟨R2, [0], rfl, sme.trans (Same.fresh hR2), upd_same, Parts.of (by simp) (fun z hz => ?_) (List.pairwise_singleton _ _), by simp⟩⟩
        have : z = 0 := by simpa using hz
        omega
      · refine .inr ⟨?_, _, rfl, iteF ⟨R, ps, rfl, sme, (Same.fresh hpe) _ _ upd_same, Parts.of hps pb ps1, pl⟩⟩
        rw [List.length_map]
        intro z
        exact hps (List.eq_nil_of_length_eq_zero z)
    rintro σ' H' ⟨R', qs, rfl, sm10, hR', pt, lq⟩
    have one := pt.one
    have W10 := W6.same sm10
    have hq10 := sm10 _ _ hq6
    have ki := fun (H : Hp) (v : Int) => Known.int T H v
    have noB : ∀ v : Int, 0 ≤ v → v ≤ G60 → wholeIn (.int v) 0 G60 = false → False := fun v v0 v1 z => by rw [wholeIn_of v0 v1] at z; cases z
    refine ⟨_, rfl, R', _, rfl, .inl (SqL.of hR'), _, rfl, by rw [List.length_map]; omega, by rw [List.length_map]; omega, ?_⟩
    refine for_range (lo := 0) (fun i σ H7 => ∃ (u1 u2 u3 u4 : Option V) (tt : Int), σ = [some (.ref p), some (.int n), some (.int st), some (.int s0), some (.int l), some (.ref x), some (.ref q), some (.int m), some (.ref R'), some (.int tt), u1, u2, u3, u4] ∧ tt = flSum (st % n) (s0 % n - partAt n qs 0) n m.toNat - flSum (st % n) (s0 % n - partAt n qs i) n m.toNat ∧ Same H' H7) ?_ ?_ ?_
    · exact ⟨none, none, none, none, 0, rfl, by rw [Int.sub_self], Same.refl _⟩
    · rintro i σ H7 hi ⟨u1, u2, u3, u4, tt, rfl, ett, sm7⟩
      rw [List.length_map] at hi
      have hi' : i < qs.length := by omega
      have hR7 := sm7 _ _ hR'
      have W7 := W10.same sm7
      have hq7 := sm7 _ _ hq10
      have cell : atI (qs.map V.int) (0 + (i : Int)) = some (.int (qs.getD i 0)) := by
        rw [Int.zero_add]
        exact atI_nat (getD_ints qs i hi')
      have cell2 : atI (qs.map V.int) ((0 + (i : Int) + 1) % ((qs.map V.int).length : Int)) = some (.int (qs.getD ((i + 1) % qs.length) 0)) := by
        rw [List.length_map, show (0 + (i : Int) + 1) % (qs.length : Int) = (((i + 1) % qs.length : Nat) : Int) by rw [Int.natCast_emod]; congr 1; omega]
        exact atI_nat (getD_ints qs _ (Nat.mod_lt _ (by omega)))
      have pc := part_cnt (st := st % n) (s0 := s0 % n) pt hi' m.toNat
      have lo0 := pt.low i hi'
      have lo1 := pt.up i hi'
      generalize qs.getD i 0 = lo at cell pc lo0 lo1
      refine ⟨_, rfl, _, rfl, .inl ⟨R', _, _, _, rfl, rfl, SqL.of hR7, cell, ?_⟩⟩
      refine ⟨_, rfl, _, rfl, _, _, rfl, rfl, _, rfl, R', _, rfl, .inl (SqL.of hR7), _, _, rfl, rfl, (by rw [List.length_map]; omega), .inl ⟨R', _, _, _, rfl, rfl, SqL.of hR7, cell2, _, _, rfl, rfl, _, rfl, _, _, rfl, rfl, (by show (0 : Int) < n; omega), ?_⟩⟩
      have hi0 := Int.emod_nonneg (qs.getD ((i + 1) % qs.length) 0 - 1) (by omega : n ≠ 0)
      have hi1 := Int.emod_lt_of_pos (qs.getD ((i + 1) % qs.length) 0 - 1) (by omega : 0 < n)
      dsimp only
      generalize (qs.getD ((i + 1) % qs.length) 0 - 1) % n = hg at pc hi0 hi1 ⊢
      have noP : wholeIn (.int lo) 0 (n - 1) = false ∨ wholeIn (.int hg) 0 (n - 1) = false → False := fun z => by
        rw [wholeIn_of lo0 (by omega), wholeIn_of hi0 (by omega)] at z
        rcases z with z | z <;> cases z
      refine ⟨_, rfl, _, rfl, _, rfl, _, rfl, x, n, _, _, l, _, _, _, rfl, W7, ki _ _, ki _ _, ki _ _, fun mm ll hh e1 e2 e3 _ _ _ _ _ _ => ?_, fun z => (noB m (by omega) m2 z).elim, fun _ z => (noP z).elim⟩
      cases e1; cases e2; cases e3
      have cp := cnt_pos (st := st % n) (s0 := s0 % n) (n := n) (lo := lo) (wd := (hg - lo) % n) m.toNat
      generalize hcn : cntIn (st % n) (s0 % n) n lo ((hg - lo) % n) m.toNat = cn at pc cp ⊢
      refine ⟨_, rfl, _, rfl, _, rfl, iteF ?_⟩
      refine ⟨_, rfl, _, _, rfl, rfl, _, rfl, iteN (decide_eq_false (by omega)) ?_⟩
      refine ⟨_, rfl, _, rfl, _, _, rfl, rfl, ?_⟩
      refine ⟨_, rfl, _, rfl, _, rfl, _, rfl, _, rfl, x, n, st % n, s0 % n, l, m, lo, hg, cn, rfl, W7, L, m1, m2, lo0, lo1, hi0, hi1, hcn, fun H8 sm8 => ⟨_, rfl, iteF ?_⟩⟩
      refine ⟨_, rfl, _, rfl, _, rfl, _, rfl, _, rfl, _, rfl, x, q, n, st, s0, l, m, lo, hg, cn, rfl, W7.same sm8, L, SqL.of (sm8 _ _ hq7), ⟨st1, st2⟩, m1, m2, lo0, lo1, hi0, hi1, hcn, fun H9 sm9' => ⟨_, rfl, iteF ?_⟩⟩
      exact ⟨_, _, _, _, _, rfl, by rw [ett, pc]; omega, (sm7.trans sm8).trans sm9'⟩
    · rintro σ H7 ⟨u1, u2, u3, u4, tt, rfl, ett, sm7⟩
      have pa := part_all (st := st % n) (s0 := s0 % n) pt m.toNat
      rw [show ((qs.map V.int).length : Int).toNat = qs.length by simp] at ett
      rw [pa] at ett
      have ett : tt = m := by omega
      exact ⟨_, rfl, _, rfl, rfl, blT (Q := Q) (by rw [ett]) (kq _)⟩
end

end Gh

namespace Gh
open PySem L2
theorem all_mk {l : PySem.W.OpenLaw} {w : World} {K : PySem.W.Frag} {h : Heap} {mg : Str → Option Value} {fa Nb W tD : Addr} (X : K.In h) (G : h.Ns mainGlobals mg) (hfa : mg "law" = some (.ref fa))
    {oD1 : Value} {oD2 : Option Addr} {tkD : Tok} {nD : Nat} {sD : Array (Option Value)} {x_HandError : Addr} {x_NoWheel : Addr} {cd_x_NoWheel : ClassData} {x_NoBeats : Addr} {cd_x_NoBeats : ClassData} {x_NoPlace : Addr} {cd_x_NoPlace : ClassData}
    {f_greatest : Addr} {od_greatest an_greatest : Option Addr} {sl_greatest : Array (Option Value)} {oc_greatest kV_greatest dc_greatest pm_greatest cd_greatest ct_greatest : Value}
    {f_is_whole : Addr} {od_is_whole an_is_whole : Option Addr} {sl_is_whole : Array (Option Value)} {oc_is_whole kV_is_whole dc_is_whole pm_is_whole cd_is_whole ct_is_whole : Value}
    {f_check_beats : Addr} {od_check_beats an_check_beats : Option Addr} {sl_check_beats : Array (Option Value)} {oc_check_beats kV_check_beats dc_check_beats pm_check_beats cd_check_beats ct_check_beats : Value}
    {f_check_place : Addr} {od_check_place an_check_place : Option Addr} {sl_check_place : Array (Option Value)} {oc_check_place kV_check_place dc_check_place pm_check_place cd_check_place ct_check_place : Value}
    {f_Neighbours___init__ : Addr} {od_Neighbours___init__ an_Neighbours___init__ : Option Addr} {sl_Neighbours___init__ : Array (Option Value)} {oc_Neighbours___init__ kV_Neighbours___init__ dc_Neighbours___init__ pm_Neighbours___init__ cd_Neighbours___init__ ct_Neighbours___init__ : Value}
    {f_Neighbours_draw_ahead : Addr} {od_Neighbours_draw_ahead an_Neighbours_draw_ahead : Option Addr} {sl_Neighbours_draw_ahead : Array (Option Value)} {oc_Neighbours_draw_ahead kV_Neighbours_draw_ahead dc_Neighbours_draw_ahead pm_Neighbours_draw_ahead cd_Neighbours_draw_ahead ct_Neighbours_draw_ahead : Value}
    {f_Neighbours_draw_behind : Addr} {od_Neighbours_draw_behind an_Neighbours_draw_behind : Option Addr} {sl_Neighbours_draw_behind : Array (Option Value)} {oc_Neighbours_draw_behind kV_Neighbours_draw_behind dc_Neighbours_draw_behind pm_Neighbours_draw_behind cd_Neighbours_draw_behind ct_Neighbours_draw_behind : Value}
    {f_common : Addr} {od_common an_common : Option Addr} {sl_common : Array (Option Value)} {oc_common kV_common dc_common pm_common cd_common ct_common : Value}
    {f_check_wheel : Addr} {od_check_wheel an_check_wheel : Option Addr} {sl_check_wheel : Array (Option Value)} {oc_check_wheel kV_check_wheel dc_check_wheel pm_check_wheel cd_check_wheel ct_check_wheel : Value}
    {f_Wheel___init__ : Addr} {od_Wheel___init__ an_Wheel___init__ : Option Addr} {sl_Wheel___init__ : Array (Option Value)} {oc_Wheel___init__ kV_Wheel___init__ dc_Wheel___init__ pm_Wheel___init__ cd_Wheel___init__ ct_Wheel___init__ : Value}
    {f_Wheel_place : Addr} {od_Wheel_place an_Wheel_place : Option Addr} {sl_Wheel_place : Array (Option Value)} {oc_Wheel_place kV_Wheel_place dc_Wheel_place pm_Wheel_place cd_Wheel_place ct_Wheel_place : Value}
    {f_Wheel_reached : Addr} {od_Wheel_reached an_Wheel_reached : Option Addr} {sl_Wheel_reached : Array (Option Value)} {oc_Wheel_reached kV_Wheel_reached dc_Wheel_reached pm_Wheel_reached cd_Wheel_reached ct_Wheel_reached : Value}
    {f_nearing : Addr} {od_nearing an_nearing : Option Addr} {sl_nearing : Array (Option Value)} {oc_nearing kV_nearing dc_nearing pm_nearing cd_nearing ct_nearing : Value}
    {f_draw_within : Addr} {od_draw_within an_draw_within : Option Addr} {sl_draw_within : Array (Option Value)} {oc_draw_within kV_draw_within dc_draw_within pm_draw_within cd_draw_within ct_draw_within : Value}
    {f_rounded_up : Addr} {od_rounded_up an_rounded_up : Option Addr} {sl_rounded_up : Array (Option Value)} {oc_rounded_up kV_rounded_up dc_rounded_up pm_rounded_up cd_rounded_up ct_rounded_up : Value}
    {f_nearest : Addr} {od_nearest an_nearest : Option Addr} {sl_nearest : Array (Option Value)} {oc_nearest kV_nearest dc_nearest pm_nearest cd_nearest ct_nearest : Value}
    {f_first_in : Addr} {od_first_in an_first_in : Option Addr} {sl_first_in : Array (Option Value)} {oc_first_in kV_first_in dc_first_in pm_first_in cd_first_in ct_first_in : Value}
    {f_slanted : Addr} {od_slanted an_slanted : Option Addr} {sl_slanted : Array (Option Value)} {oc_slanted kV_slanted dc_slanted pm_slanted cd_slanted ct_slanted : Value}
    {f_count_in : Addr} {od_count_in an_count_in : Option Addr} {sl_count_in : Array (Option Value)} {oc_count_in kV_count_in dc_count_in pm_count_in cd_count_in ct_count_in : Value}
    {f__law_cell_at : Addr} {od__law_cell_at an__law_cell_at : Option Addr} {sl__law_cell_at : Array (Option Value)} {oc__law_cell_at kV__law_cell_at dc__law_cell_at pm__law_cell_at cd__law_cell_at ct__law_cell_at : Value}
    {f__law_whole : Addr} {od__law_whole an__law_whole : Option Addr} {sl__law_whole : Array (Option Value)} {oc__law_whole kV__law_whole dc__law_whole pm__law_whole cd__law_whole ct__law_whole : Value}
    {f__law_divisor : Addr} {od__law_divisor an__law_divisor : Option Addr} {sl__law_divisor : Array (Option Value)} {oc__law_divisor kV__law_divisor dc__law_divisor pm__law_divisor cd__law_divisor ct__law_divisor : Value}
    {f__law_wheel : Addr} {od__law_wheel an__law_wheel : Option Addr} {sl__law_wheel : Array (Option Value)} {oc__law_wheel kV__law_wheel dc__law_wheel pm__law_wheel cd__law_wheel ct__law_wheel : Value}
    {f__law_most : Addr} {od__law_most an__law_most : Option Addr} {sl__law_most : Array (Option Value)} {oc__law_most kV__law_most dc__law_most pm__law_most cd__law_most ct__law_most : Value}
    {f__law_far : Addr} {od__law_far an__law_far : Option Addr} {sl__law_far : Array (Option Value)} {oc__law_far kV__law_far dc__law_far pm__law_far cd__law_far ct__law_far : Value}
    {f__law_near : Addr} {od__law_near an__law_near : Option Addr} {sl__law_near : Array (Option Value)} {oc__law_near kV__law_near dc__law_near pm__law_near cd__law_near ct__law_near : Value}
    {f__law_first : Addr} {od__law_first an__law_first : Option Addr} {sl__law_first : Array (Option Value)} {oc__law_first kV__law_first dc__law_first pm__law_first cd__law_first ct__law_first : Value}
    {f_law : Addr} {od_law an_law : Option Addr} {sl_law : Array (Option Value)} {oc_law kV_law dc_law pm_law cd_law ct_law : Value}
    (cls_Neighbours : PySem.W.nsIn K mainGlobals "Neighbours" = some (some (.ref Nb)))
    (cls_Wheel : PySem.W.nsIn K mainGlobals "Wheel" = some (some (.ref W)))
    (a_greatest : PySem.W.nsIn K mainGlobals "greatest" = some (some (.ref f_greatest)))
    (l_greatest : K.lookup f_greatest = some ⟨oc_greatest, od_greatest, .func (PySem.W.fnOf "greatest" "greatest" (defArgs st_greatest) (defBody st_greatest) (defScope st_greatest) .none kV_greatest dc_greatest pm_greatest an_greatest cd_greatest ct_greatest), sl_greatest⟩)
    (c_greatest : PySem.W.codeIn K cd_greatest "greatest" = true)
    (k_greatest : PySem.W.keepIn K (.ref f_greatest) = true)
    (a_is_whole : PySem.W.nsIn K mainGlobals "is_whole" = some (some (.ref f_is_whole)))
    (l_is_whole : K.lookup f_is_whole = some ⟨oc_is_whole, od_is_whole, .func (PySem.W.fnOf "is_whole" "is_whole" (defArgs st_is_whole) (defBody st_is_whole) (defScope st_is_whole) .none kV_is_whole dc_is_whole pm_is_whole an_is_whole cd_is_whole ct_is_whole), sl_is_whole⟩)
    (c_is_whole : PySem.W.codeIn K cd_is_whole "is_whole" = true)
    (k_is_whole : PySem.W.keepIn K (.ref f_is_whole) = true)
    (a_check_beats : PySem.W.nsIn K mainGlobals "check_beats" = some (some (.ref f_check_beats)))
    (l_check_beats : K.lookup f_check_beats = some ⟨oc_check_beats, od_check_beats, .func (PySem.W.fnOf "check_beats" "check_beats" (defArgs st_check_beats) (defBody st_check_beats) (defScope st_check_beats) .none kV_check_beats dc_check_beats pm_check_beats an_check_beats cd_check_beats ct_check_beats), sl_check_beats⟩)
    (c_check_beats : PySem.W.codeIn K cd_check_beats "check_beats" = true)
    (k_check_beats : PySem.W.keepIn K (.ref f_check_beats) = true)
    (a_check_place : PySem.W.nsIn K mainGlobals "check_place" = some (some (.ref f_check_place)))
    (l_check_place : K.lookup f_check_place = some ⟨oc_check_place, od_check_place, .func (PySem.W.fnOf "check_place" "check_place" (defArgs st_check_place) (defBody st_check_place) (defScope st_check_place) .none kV_check_place dc_check_place pm_check_place an_check_place cd_check_place ct_check_place), sl_check_place⟩)
    (c_check_place : PySem.W.codeIn K cd_check_place "check_place" = true)
    (k_check_place : PySem.W.keepIn K (.ref f_check_place) = true)
    (a_Neighbours___init__ : PySem.W.findIn K (.ref Nb) "__init__" = some (some (.ref f_Neighbours___init__)))
    (i_Neighbours___init__ : PySem.W.isFn K (.ref f_Neighbours___init__) = true)
    (l_Neighbours___init__ : K.lookup f_Neighbours___init__ = some ⟨oc_Neighbours___init__, od_Neighbours___init__, .func (PySem.W.fnOf "__init__" "Neighbours.__init__" (defArgs st_Neighbours___init__) (defBody st_Neighbours___init__) (defScope st_Neighbours___init__) .none kV_Neighbours___init__ dc_Neighbours___init__ pm_Neighbours___init__ an_Neighbours___init__ cd_Neighbours___init__ ct_Neighbours___init__), sl_Neighbours___init__⟩)
    (c_Neighbours___init__ : PySem.W.codeIn K cd_Neighbours___init__ "Neighbours.__init__" = true)
    (k_Neighbours___init__ : PySem.W.keepIn K (.ref f_Neighbours___init__) = true)
    (a_Neighbours_draw_ahead : PySem.W.findIn K (.ref Nb) "draw_ahead" = some (some (.ref f_Neighbours_draw_ahead)))
    (i_Neighbours_draw_ahead : PySem.W.isFn K (.ref f_Neighbours_draw_ahead) = true)
    (l_Neighbours_draw_ahead : K.lookup f_Neighbours_draw_ahead = some ⟨oc_Neighbours_draw_ahead, od_Neighbours_draw_ahead, .func (PySem.W.fnOf "draw_ahead" "Neighbours.draw_ahead" (defArgs st_Neighbours_draw_ahead) (defBody st_Neighbours_draw_ahead) (defScope st_Neighbours_draw_ahead) .none kV_Neighbours_draw_ahead dc_Neighbours_draw_ahead pm_Neighbours_draw_ahead an_Neighbours_draw_ahead cd_Neighbours_draw_ahead ct_Neighbours_draw_ahead), sl_Neighbours_draw_ahead⟩)
    (c_Neighbours_draw_ahead : PySem.W.codeIn K cd_Neighbours_draw_ahead "Neighbours.draw_ahead" = true)
    (k_Neighbours_draw_ahead : PySem.W.keepIn K (.ref f_Neighbours_draw_ahead) = true)
    (a_Neighbours_draw_behind : PySem.W.findIn K (.ref Nb) "draw_behind" = some (some (.ref f_Neighbours_draw_behind)))
    (i_Neighbours_draw_behind : PySem.W.isFn K (.ref f_Neighbours_draw_behind) = true)
    (l_Neighbours_draw_behind : K.lookup f_Neighbours_draw_behind = some ⟨oc_Neighbours_draw_behind, od_Neighbours_draw_behind, .func (PySem.W.fnOf "draw_behind" "Neighbours.draw_behind" (defArgs st_Neighbours_draw_behind) (defBody st_Neighbours_draw_behind) (defScope st_Neighbours_draw_behind) .none kV_Neighbours_draw_behind dc_Neighbours_draw_behind pm_Neighbours_draw_behind an_Neighbours_draw_behind cd_Neighbours_draw_behind ct_Neighbours_draw_behind), sl_Neighbours_draw_behind⟩)
    (c_Neighbours_draw_behind : PySem.W.codeIn K cd_Neighbours_draw_behind "Neighbours.draw_behind" = true)
    (k_Neighbours_draw_behind : PySem.W.keepIn K (.ref f_Neighbours_draw_behind) = true)
    (a_common : PySem.W.nsIn K mainGlobals "common" = some (some (.ref f_common)))
    (l_common : K.lookup f_common = some ⟨oc_common, od_common, .func (PySem.W.fnOf "common" "common" (defArgs st_common) (defBody st_common) (defScope st_common) .none kV_common dc_common pm_common an_common cd_common ct_common), sl_common⟩)
    (c_common : PySem.W.codeIn K cd_common "common" = true)
    (k_common : PySem.W.keepIn K (.ref f_common) = true)
    (a_check_wheel : PySem.W.nsIn K mainGlobals "check_wheel" = some (some (.ref f_check_wheel)))
    (l_check_wheel : K.lookup f_check_wheel = some ⟨oc_check_wheel, od_check_wheel, .func (PySem.W.fnOf "check_wheel" "check_wheel" (defArgs st_check_wheel) (defBody st_check_wheel) (defScope st_check_wheel) .none kV_check_wheel dc_check_wheel pm_check_wheel an_check_wheel cd_check_wheel ct_check_wheel), sl_check_wheel⟩)
    (c_check_wheel : PySem.W.codeIn K cd_check_wheel "check_wheel" = true)
    (k_check_wheel : PySem.W.keepIn K (.ref f_check_wheel) = true)
    (a_Wheel___init__ : PySem.W.findIn K (.ref W) "__init__" = some (some (.ref f_Wheel___init__)))
    (i_Wheel___init__ : PySem.W.isFn K (.ref f_Wheel___init__) = true)
    (l_Wheel___init__ : K.lookup f_Wheel___init__ = some ⟨oc_Wheel___init__, od_Wheel___init__, .func (PySem.W.fnOf "__init__" "Wheel.__init__" (defArgs st_Wheel___init__) (defBody st_Wheel___init__) (defScope st_Wheel___init__) (.ref tD) kV_Wheel___init__ dc_Wheel___init__ pm_Wheel___init__ an_Wheel___init__ cd_Wheel___init__ ct_Wheel___init__), sl_Wheel___init__⟩)
    (c_Wheel___init__ : PySem.W.codeIn K cd_Wheel___init__ "Wheel.__init__" = true)
    (k_Wheel___init__ : PySem.W.keepIn K (.ref f_Wheel___init__) = true)
    (a_Wheel_place : PySem.W.findIn K (.ref W) "place" = some (some (.ref f_Wheel_place)))
    (l_Wheel_place : K.lookup f_Wheel_place = some ⟨oc_Wheel_place, od_Wheel_place, .func (PySem.W.fnOf "place" "Wheel.place" (defArgs st_Wheel_place) (defBody st_Wheel_place) (defScope st_Wheel_place) .none kV_Wheel_place dc_Wheel_place pm_Wheel_place an_Wheel_place cd_Wheel_place ct_Wheel_place), sl_Wheel_place⟩)
    (c_Wheel_place : PySem.W.codeIn K cd_Wheel_place "Wheel.place" = true)
    (k_Wheel_place : PySem.W.keepIn K (.ref f_Wheel_place) = true)
    (a_Wheel_reached : PySem.W.findIn K (.ref W) "reached" = some (some (.ref f_Wheel_reached)))
    (i_Wheel_reached : PySem.W.isFn K (.ref f_Wheel_reached) = true)
    (l_Wheel_reached : K.lookup f_Wheel_reached = some ⟨oc_Wheel_reached, od_Wheel_reached, .func (PySem.W.fnOf "reached" "Wheel.reached" (defArgs st_Wheel_reached) (defBody st_Wheel_reached) (defScope st_Wheel_reached) .none kV_Wheel_reached dc_Wheel_reached pm_Wheel_reached an_Wheel_reached cd_Wheel_reached ct_Wheel_reached), sl_Wheel_reached⟩)
    (c_Wheel_reached : PySem.W.codeIn K cd_Wheel_reached "Wheel.reached" = true)
    (k_Wheel_reached : PySem.W.keepIn K (.ref f_Wheel_reached) = true)
    (a_nearing : PySem.W.nsIn K mainGlobals "nearing" = some (some (.ref f_nearing)))
    (l_nearing : K.lookup f_nearing = some ⟨oc_nearing, od_nearing, .func (PySem.W.fnOf "nearing" "nearing" (defArgs st_nearing) (defBody st_nearing) (defScope st_nearing) .none kV_nearing dc_nearing pm_nearing an_nearing cd_nearing ct_nearing), sl_nearing⟩)
    (c_nearing : PySem.W.codeIn K cd_nearing "nearing" = true)
    (k_nearing : PySem.W.keepIn K (.ref f_nearing) = true)
    (a_draw_within : PySem.W.nsIn K mainGlobals "draw_within" = some (some (.ref f_draw_within)))
    (l_draw_within : K.lookup f_draw_within = some ⟨oc_draw_within, od_draw_within, .func (PySem.W.fnOf "draw_within" "draw_within" (defArgs st_draw_within) (defBody st_draw_within) (defScope st_draw_within) .none kV_draw_within dc_draw_within pm_draw_within an_draw_within cd_draw_within ct_draw_within), sl_draw_within⟩)
    (c_draw_within : PySem.W.codeIn K cd_draw_within "draw_within" = true)
    (k_draw_within : PySem.W.keepIn K (.ref f_draw_within) = true)
    (a_rounded_up : PySem.W.nsIn K mainGlobals "rounded_up" = some (some (.ref f_rounded_up)))
    (l_rounded_up : K.lookup f_rounded_up = some ⟨oc_rounded_up, od_rounded_up, .func (PySem.W.fnOf "rounded_up" "rounded_up" (defArgs st_rounded_up) (defBody st_rounded_up) (defScope st_rounded_up) .none kV_rounded_up dc_rounded_up pm_rounded_up an_rounded_up cd_rounded_up ct_rounded_up), sl_rounded_up⟩)
    (c_rounded_up : PySem.W.codeIn K cd_rounded_up "rounded_up" = true)
    (k_rounded_up : PySem.W.keepIn K (.ref f_rounded_up) = true)
    (a_nearest : PySem.W.nsIn K mainGlobals "nearest" = some (some (.ref f_nearest)))
    (l_nearest : K.lookup f_nearest = some ⟨oc_nearest, od_nearest, .func (PySem.W.fnOf "nearest" "nearest" (defArgs st_nearest) (defBody st_nearest) (defScope st_nearest) .none kV_nearest dc_nearest pm_nearest an_nearest cd_nearest ct_nearest), sl_nearest⟩)
    (c_nearest : PySem.W.codeIn K cd_nearest "nearest" = true)
    (k_nearest : PySem.W.keepIn K (.ref f_nearest) = true)
    (a_first_in : PySem.W.nsIn K mainGlobals "first_in" = some (some (.ref f_first_in)))
    (l_first_in : K.lookup f_first_in = some ⟨oc_first_in, od_first_in, .func (PySem.W.fnOf "first_in" "first_in" (defArgs st_first_in) (defBody st_first_in) (defScope st_first_in) .none kV_first_in dc_first_in pm_first_in an_first_in cd_first_in ct_first_in), sl_first_in⟩)
    (c_first_in : PySem.W.codeIn K cd_first_in "first_in" = true)
    (k_first_in : PySem.W.keepIn K (.ref f_first_in) = true)
    (a_slanted : PySem.W.nsIn K mainGlobals "slanted" = some (some (.ref f_slanted)))
    (l_slanted : K.lookup f_slanted = some ⟨oc_slanted, od_slanted, .func (PySem.W.fnOf "slanted" "slanted" (defArgs st_slanted) (defBody st_slanted) (defScope st_slanted) .none kV_slanted dc_slanted pm_slanted an_slanted cd_slanted ct_slanted), sl_slanted⟩)
    (c_slanted : PySem.W.codeIn K cd_slanted "slanted" = true)
    (k_slanted : PySem.W.keepIn K (.ref f_slanted) = true)
    (a_count_in : PySem.W.nsIn K mainGlobals "count_in" = some (some (.ref f_count_in)))
    (l_count_in : K.lookup f_count_in = some ⟨oc_count_in, od_count_in, .func (PySem.W.fnOf "count_in" "count_in" (defArgs st_count_in) (defBody st_count_in) (defScope st_count_in) .none kV_count_in dc_count_in pm_count_in an_count_in cd_count_in ct_count_in), sl_count_in⟩)
    (c_count_in : PySem.W.codeIn K cd_count_in "count_in" = true)
    (k_count_in : PySem.W.keepIn K (.ref f_count_in) = true)
    (a__law_cell_at : PySem.W.nsIn K mainGlobals "_law_cell_at" = some (some (.ref f__law_cell_at)))
    (l__law_cell_at : K.lookup f__law_cell_at = some ⟨oc__law_cell_at, od__law_cell_at, .func (PySem.W.fnOf "_law_cell_at" "_law_cell_at" (defArgs st__law_cell_at) (defBody st__law_cell_at) (defScope st__law_cell_at) .none kV__law_cell_at dc__law_cell_at pm__law_cell_at an__law_cell_at cd__law_cell_at ct__law_cell_at), sl__law_cell_at⟩)
    (c__law_cell_at : PySem.W.codeIn K cd__law_cell_at "_law_cell_at" = true)
    (k__law_cell_at : PySem.W.keepIn K (.ref f__law_cell_at) = true)
    (a__law_whole : PySem.W.nsIn K mainGlobals "_law_whole" = some (some (.ref f__law_whole)))
    (l__law_whole : K.lookup f__law_whole = some ⟨oc__law_whole, od__law_whole, .func (PySem.W.fnOf "_law_whole" "_law_whole" (defArgs st__law_whole) (defBody st__law_whole) (defScope st__law_whole) .none kV__law_whole dc__law_whole pm__law_whole an__law_whole cd__law_whole ct__law_whole), sl__law_whole⟩)
    (c__law_whole : PySem.W.codeIn K cd__law_whole "_law_whole" = true)
    (k__law_whole : PySem.W.keepIn K (.ref f__law_whole) = true)
    (a__law_divisor : PySem.W.nsIn K mainGlobals "_law_divisor" = some (some (.ref f__law_divisor)))
    (l__law_divisor : K.lookup f__law_divisor = some ⟨oc__law_divisor, od__law_divisor, .func (PySem.W.fnOf "_law_divisor" "_law_divisor" (defArgs st__law_divisor) (defBody st__law_divisor) (defScope st__law_divisor) .none kV__law_divisor dc__law_divisor pm__law_divisor an__law_divisor cd__law_divisor ct__law_divisor), sl__law_divisor⟩)
    (c__law_divisor : PySem.W.codeIn K cd__law_divisor "_law_divisor" = true)
    (k__law_divisor : PySem.W.keepIn K (.ref f__law_divisor) = true)
    (a__law_wheel : PySem.W.nsIn K mainGlobals "_law_wheel" = some (some (.ref f__law_wheel)))
    (l__law_wheel : K.lookup f__law_wheel = some ⟨oc__law_wheel, od__law_wheel, .func (PySem.W.fnOf "_law_wheel" "_law_wheel" (defArgs st__law_wheel) (defBody st__law_wheel) (defScope st__law_wheel) .none kV__law_wheel dc__law_wheel pm__law_wheel an__law_wheel cd__law_wheel ct__law_wheel), sl__law_wheel⟩)
    (c__law_wheel : PySem.W.codeIn K cd__law_wheel "_law_wheel" = true)
    (k__law_wheel : PySem.W.keepIn K (.ref f__law_wheel) = true)
    (a__law_most : PySem.W.nsIn K mainGlobals "_law_most" = some (some (.ref f__law_most)))
    (l__law_most : K.lookup f__law_most = some ⟨oc__law_most, od__law_most, .func (PySem.W.fnOf "_law_most" "_law_most" (defArgs st__law_most) (defBody st__law_most) (defScope st__law_most) .none kV__law_most dc__law_most pm__law_most an__law_most cd__law_most ct__law_most), sl__law_most⟩)
    (c__law_most : PySem.W.codeIn K cd__law_most "_law_most" = true)
    (k__law_most : PySem.W.keepIn K (.ref f__law_most) = true)
    (a__law_far : PySem.W.nsIn K mainGlobals "_law_far" = some (some (.ref f__law_far)))
    (l__law_far : K.lookup f__law_far = some ⟨oc__law_far, od__law_far, .func (PySem.W.fnOf "_law_far" "_law_far" (defArgs st__law_far) (defBody st__law_far) (defScope st__law_far) .none kV__law_far dc__law_far pm__law_far an__law_far cd__law_far ct__law_far), sl__law_far⟩)
    (c__law_far : PySem.W.codeIn K cd__law_far "_law_far" = true)
    (k__law_far : PySem.W.keepIn K (.ref f__law_far) = true)
    (a__law_near : PySem.W.nsIn K mainGlobals "_law_near" = some (some (.ref f__law_near)))
    (l__law_near : K.lookup f__law_near = some ⟨oc__law_near, od__law_near, .func (PySem.W.fnOf "_law_near" "_law_near" (defArgs st__law_near) (defBody st__law_near) (defScope st__law_near) .none kV__law_near dc__law_near pm__law_near an__law_near cd__law_near ct__law_near), sl__law_near⟩)
    (c__law_near : PySem.W.codeIn K cd__law_near "_law_near" = true)
    (k__law_near : PySem.W.keepIn K (.ref f__law_near) = true)
    (a__law_first : PySem.W.nsIn K mainGlobals "_law_first" = some (some (.ref f__law_first)))
    (l__law_first : K.lookup f__law_first = some ⟨oc__law_first, od__law_first, .func (PySem.W.fnOf "_law_first" "_law_first" (defArgs st__law_first) (defBody st__law_first) (defScope st__law_first) .none kV__law_first dc__law_first pm__law_first an__law_first cd__law_first ct__law_first), sl__law_first⟩)
    (c__law_first : PySem.W.codeIn K cd__law_first "_law_first" = true)
    (k__law_first : PySem.W.keepIn K (.ref f__law_first) = true)
    (a_law : PySem.W.nsIn K mainGlobals "law" = some (some (.ref f_law)))
    (l_law : K.lookup f_law = some ⟨oc_law, od_law, .func (PySem.W.fnOf "law" "law" (defArgs st_law) (defBody st_law) (defScope st_law) .none kV_law dc_law pm_law an_law cd_law ct_law), sl_law⟩)
    (c_law : PySem.W.codeIn K cd_law "law" = true)
    (k_law : PySem.W.keepIn K (.ref f_law) = true)
    (w_pg_Neighbours : PySem.W.plainGet K Nb Str.empty = true)
    (w_hd_Neighbours : PySem.W.hasDictIn K Nb = true)
    (w_po_Neighbours : PySem.W.plainOver K Nb = true)
    (w_sa_Neighbours : PySem.W.findIn K (.ref Nb) "__setattr__" = some (some (.builtin "object.__setattr__")))
    (w_mk_Neighbours : PySem.W.makesIn K Nb = true)
    (w_kc_Neighbours : PySem.W.keepIn K (.ref Nb) = true)
    (w_ahead : PySem.W.findIn K (.ref Nb) "ahead" = some none)
    (w_near : PySem.W.findIn K (.ref Nb) "near" = some none)
    (w_behind : PySem.W.findIn K (.ref Nb) "behind" = some none)
    (w_back : PySem.W.findIn K (.ref Nb) "back" = some none)
    (w_pg_Wheel : PySem.W.plainGet K W Str.empty = true)
    (w_hd_Wheel : PySem.W.hasDictIn K W = true)
    (w_po_Wheel : PySem.W.plainOver K W = true)
    (w_sa_Wheel : PySem.W.findIn K (.ref W) "__setattr__" = some (some (.builtin "object.__setattr__")))
    (w_mk_Wheel : PySem.W.makesIn K W = true)
    (w_kc_Wheel : PySem.W.keepIn K (.ref W) = true)
    (w_size : PySem.W.findIn K (.ref W) "size" = some none)
    (w_step : PySem.W.findIn K (.ref W) "step" = some none)
    (w_start : PySem.W.findIn K (.ref W) "start" = some none)
    (w_lap : PySem.W.findIn K (.ref W) "lap" = some none)
    (d_l : K.lookup tD = some ⟨oD1, oD2, .seq #[.int 0 tkD] nD, sD⟩)
    (z_bool : PySem.W.nsIn K mainGlobals "bool" = some none)
    (z_int : PySem.W.nsIn K mainGlobals "int" = some none)
    (z_isinstance : PySem.W.nsIn K mainGlobals "isinstance" = some none)
    (z_len : PySem.W.nsIn K mainGlobals "len" = some none)
    (z_min : PySem.W.nsIn K mainGlobals "min" = some none)
    (z_range : PySem.W.nsIn K mainGlobals "range" = some none)
    (z_set : PySem.W.nsIn K mainGlobals "set" = some none)
    (z_sorted : PySem.W.nsIn K mainGlobals "sorted" = some none)
    (s_ib : PySem.W.subIn K (.type "int") (.type "bool") = some false)
    (e_a_HandError : PySem.W.nsIn K mainGlobals "HandError" = some (some (.ref x_HandError)))
    (e_a_NoWheel : PySem.W.nsIn K mainGlobals "NoWheel" = some (some (.ref x_NoWheel)))
    (e_x_NoWheel : PySem.W.excIn K x_NoWheel [.type "ValueError", .type "Exception", .type "BaseException", .type "object"] "ValueError.__new__" = true)
    (e_g_NoWheel : PySem.W.findIn K (.ref x_NoWheel) "__getattribute__" = some (some (.builtin "BaseException.__getattribute__")))
    (e_h_NoWheel : PySem.W.findIn K (.ref x_NoWheel) "__getattr__" = some none)
    (e_c_NoWheel : PySem.W.findIn K (.ref x_NoWheel) "__class__" = some (some (.builtin "object.__class__")))
    (e_o_NoWheel : PySem.W.mroIn K x_NoWheel (.type "object") = some true)
    (e_b_NoWheel : PySem.W.mroIn K x_NoWheel (.type "BaseException") = some true)
    (e_i_NoWheel : PySem.W.clsIn K x_NoWheel = some cd_x_NoWheel)
    (e_a_NoBeats : PySem.W.nsIn K mainGlobals "NoBeats" = some (some (.ref x_NoBeats)))
    (e_x_NoBeats : PySem.W.excIn K x_NoBeats [.type "ValueError", .type "Exception", .type "BaseException", .type "object"] "ValueError.__new__" = true)
    (e_g_NoBeats : PySem.W.findIn K (.ref x_NoBeats) "__getattribute__" = some (some (.builtin "BaseException.__getattribute__")))
    (e_h_NoBeats : PySem.W.findIn K (.ref x_NoBeats) "__getattr__" = some none)
    (e_c_NoBeats : PySem.W.findIn K (.ref x_NoBeats) "__class__" = some (some (.builtin "object.__class__")))
    (e_o_NoBeats : PySem.W.mroIn K x_NoBeats (.type "object") = some true)
    (e_b_NoBeats : PySem.W.mroIn K x_NoBeats (.type "BaseException") = some true)
    (e_i_NoBeats : PySem.W.clsIn K x_NoBeats = some cd_x_NoBeats)
    (e_a_NoPlace : PySem.W.nsIn K mainGlobals "NoPlace" = some (some (.ref x_NoPlace)))
    (e_x_NoPlace : PySem.W.excIn K x_NoPlace [.type "ValueError", .type "Exception", .type "BaseException", .type "object"] "ValueError.__new__" = true)
    (e_g_NoPlace : PySem.W.findIn K (.ref x_NoPlace) "__getattribute__" = some (some (.builtin "BaseException.__getattribute__")))
    (e_h_NoPlace : PySem.W.findIn K (.ref x_NoPlace) "__getattr__" = some none)
    (e_c_NoPlace : PySem.W.findIn K (.ref x_NoPlace) "__class__" = some (some (.builtin "object.__class__")))
    (e_o_NoPlace : PySem.W.mroIn K x_NoPlace (.type "object") = some true)
    (e_b_NoPlace : PySem.W.mroIn K x_NoPlace (.type "BaseException") = some true)
    (e_i_NoPlace : PySem.W.clsIn K x_NoPlace = some cd_x_NoPlace)
    (g_gs : PySem.W.specialIn K (.builtin "object.__class__") "__get__" = some (some (.builtin "getset_descriptor.__get__")))
    (g_tk : PySem.W.takesIn K (.builtin "object.__class__") = some true) :
    ∃ fd : FuncData, (∀ (s : Shared) (v : Value), BindsTo s fd ⟨[v], []⟩ [("_law_script", v)]) ∧ ∀ base : Heap, K.In base → base.Ns mainGlobals mg → FnOk l.prog w K mg base (CXR l.prog w) 6 fa fd ["_law_script"] (spLaw K) := by
  have e := hfa.symm.trans (PySem.W.mg_of X G a_law)
  have ef : f_law = fa := (Value.ref.inj (Option.some.inj e)).symm
  subst ef
  have T : Txt K mg { greatest := ⟨f_greatest, PySem.W.fnOf "greatest" "greatest" (defArgs st_greatest) (defBody st_greatest) (defScope st_greatest) .none kV_greatest dc_greatest pm_greatest an_greatest cd_greatest ct_greatest⟩, is_whole := ⟨f_is_whole, PySem.W.fnOf "is_whole" "is_whole" (defArgs st_is_whole) (defBody st_is_whole) (defScope st_is_whole) .none kV_is_whole dc_is_whole pm_is_whole an_is_whole cd_is_whole ct_is_whole⟩, check_beats := ⟨f_check_beats, PySem.W.fnOf "check_beats" "check_beats" (defArgs st_check_beats) (defBody st_check_beats) (defScope st_check_beats) .none kV_check_beats dc_check_beats pm_check_beats an_check_beats cd_check_beats ct_check_beats⟩, check_place := ⟨f_check_place, PySem.W.fnOf "check_place" "check_place" (defArgs st_check_place) (defBody st_check_place) (defScope st_check_place) .none kV_check_place dc_check_place pm_check_place an_check_place cd_check_place ct_check_place⟩, Neighbours___init__ := ⟨f_Neighbours___init__, PySem.W.fnOf "__init__" "Neighbours.__init__" (defArgs st_Neighbours___init__) (defBody st_Neighbours___init__) (defScope st_Neighbours___init__) .none kV_Neighbours___init__ dc_Neighbours___init__ pm_Neighbours___init__ an_Neighbours___init__ cd_Neighbours___init__ ct_Neighbours___init__⟩, Neighbours_draw_ahead := ⟨f_Neighbours_draw_ahead, PySem.W.fnOf "draw_ahead" "Neighbours.draw_ahead" (defArgs st_Neighbours_draw_ahead) (defBody st_Neighbours_draw_ahead) (defScope st_Neighbours_draw_ahead) .none kV_Neighbours_draw_ahead dc_Neighbours_draw_ahead pm_Neighbours_draw_ahead an_Neighbours_draw_ahead cd_Neighbours_draw_ahead ct_Neighbours_draw_ahead⟩, Neighbours_draw_behind := ⟨f_Neighbours_draw_behind, PySem.W.fnOf "draw_behind" "Neighbours.draw_behind" (defArgs st_Neighbours_draw_behind) (defBody st_Neighbours_draw_behind) (defScope st_Neighbours_draw_behind) .none kV_Neighbours_draw_behind dc_Neighbours_draw_behind pm_Neighbours_draw_behind an_Neighbours_draw_behind cd_Neighbours_draw_behind ct_Neighbours_draw_behind⟩, common := ⟨f_common, PySem.W.fnOf "common" "common" (defArgs st_common) (defBody st_common) (defScope st_common) .none kV_common dc_common pm_common an_common cd_common ct_common⟩, check_wheel := ⟨f_check_wheel, PySem.W.fnOf "check_wheel" "check_wheel" (defArgs st_check_wheel) (defBody st_check_wheel) (defScope st_check_wheel) .none kV_check_wheel dc_check_wheel pm_check_wheel an_check_wheel cd_check_wheel ct_check_wheel⟩, Wheel___init__ := ⟨f_Wheel___init__, PySem.W.fnOf "__init__" "Wheel.__init__" (defArgs st_Wheel___init__) (defBody st_Wheel___init__) (defScope st_Wheel___init__) (.ref tD) kV_Wheel___init__ dc_Wheel___init__ pm_Wheel___init__ an_Wheel___init__ cd_Wheel___init__ ct_Wheel___init__⟩, Wheel_place := ⟨f_Wheel_place, PySem.W.fnOf "place" "Wheel.place" (defArgs st_Wheel_place) (defBody st_Wheel_place) (defScope st_Wheel_place) .none kV_Wheel_place dc_Wheel_place pm_Wheel_place an_Wheel_place cd_Wheel_place ct_Wheel_place⟩, Wheel_reached := ⟨f_Wheel_reached, PySem.W.fnOf "reached" "Wheel.reached" (defArgs st_Wheel_reached) (defBody st_Wheel_reached) (defScope st_Wheel_reached) .none kV_Wheel_reached dc_Wheel_reached pm_Wheel_reached an_Wheel_reached cd_Wheel_reached ct_Wheel_reached⟩, nearing := ⟨f_nearing, PySem.W.fnOf "nearing" "nearing" (defArgs st_nearing) (defBody st_nearing) (defScope st_nearing) .none kV_nearing dc_nearing pm_nearing an_nearing cd_nearing ct_nearing⟩, draw_within := ⟨f_draw_within, PySem.W.fnOf "draw_within" "draw_within" (defArgs st_draw_within) (defBody st_draw_within) (defScope st_draw_within) .none kV_draw_within dc_draw_within pm_draw_within an_draw_within cd_draw_within ct_draw_within⟩, rounded_up := ⟨f_rounded_up, PySem.W.fnOf "rounded_up" "rounded_up" (defArgs st_rounded_up) (defBody st_rounded_up) (defScope st_rounded_up) .none kV_rounded_up dc_rounded_up pm_rounded_up an_rounded_up cd_rounded_up ct_rounded_up⟩, nearest := ⟨f_nearest, PySem.W.fnOf "nearest" "nearest" (defArgs st_nearest) (defBody st_nearest) (defScope st_nearest) .none kV_nearest dc_nearest pm_nearest an_nearest cd_nearest ct_nearest⟩, first_in := ⟨f_first_in, PySem.W.fnOf "first_in" "first_in" (defArgs st_first_in) (defBody st_first_in) (defScope st_first_in) .none kV_first_in dc_first_in pm_first_in an_first_in cd_first_in ct_first_in⟩, slanted := ⟨f_slanted, PySem.W.fnOf "slanted" "slanted" (defArgs st_slanted) (defBody st_slanted) (defScope st_slanted) .none kV_slanted dc_slanted pm_slanted an_slanted cd_slanted ct_slanted⟩, count_in := ⟨f_count_in, PySem.W.fnOf "count_in" "count_in" (defArgs st_count_in) (defBody st_count_in) (defScope st_count_in) .none kV_count_in dc_count_in pm_count_in an_count_in cd_count_in ct_count_in⟩, _law_cell_at := ⟨f__law_cell_at, PySem.W.fnOf "_law_cell_at" "_law_cell_at" (defArgs st__law_cell_at) (defBody st__law_cell_at) (defScope st__law_cell_at) .none kV__law_cell_at dc__law_cell_at pm__law_cell_at an__law_cell_at cd__law_cell_at ct__law_cell_at⟩, _law_whole := ⟨f__law_whole, PySem.W.fnOf "_law_whole" "_law_whole" (defArgs st__law_whole) (defBody st__law_whole) (defScope st__law_whole) .none kV__law_whole dc__law_whole pm__law_whole an__law_whole cd__law_whole ct__law_whole⟩, _law_divisor := ⟨f__law_divisor, PySem.W.fnOf "_law_divisor" "_law_divisor" (defArgs st__law_divisor) (defBody st__law_divisor) (defScope st__law_divisor) .none kV__law_divisor dc__law_divisor pm__law_divisor an__law_divisor cd__law_divisor ct__law_divisor⟩, _law_wheel := ⟨f__law_wheel, PySem.W.fnOf "_law_wheel" "_law_wheel" (defArgs st__law_wheel) (defBody st__law_wheel) (defScope st__law_wheel) .none kV__law_wheel dc__law_wheel pm__law_wheel an__law_wheel cd__law_wheel ct__law_wheel⟩, _law_most := ⟨f__law_most, PySem.W.fnOf "_law_most" "_law_most" (defArgs st__law_most) (defBody st__law_most) (defScope st__law_most) .none kV__law_most dc__law_most pm__law_most an__law_most cd__law_most ct__law_most⟩, _law_far := ⟨f__law_far, PySem.W.fnOf "_law_far" "_law_far" (defArgs st__law_far) (defBody st__law_far) (defScope st__law_far) .none kV__law_far dc__law_far pm__law_far an__law_far cd__law_far ct__law_far⟩, _law_near := ⟨f__law_near, PySem.W.fnOf "_law_near" "_law_near" (defArgs st__law_near) (defBody st__law_near) (defScope st__law_near) .none kV__law_near dc__law_near pm__law_near an__law_near cd__law_near ct__law_near⟩, _law_first := ⟨f__law_first, PySem.W.fnOf "_law_first" "_law_first" (defArgs st__law_first) (defBody st__law_first) (defScope st__law_first) .none kV__law_first dc__law_first pm__law_first an__law_first cd__law_first ct__law_first⟩, law := ⟨f_law, PySem.W.fnOf "law" "law" (defArgs st_law) (defBody st_law) (defScope st_law) .none kV_law dc_law pm_law an_law cd_law ct_law⟩, Nb := Nb, W := W, dflt := tD, HandError := x_HandError, NoWheel := x_NoWheel, NoBeats := x_NoBeats, NoPlace := x_NoPlace } := { F_greatest := fund_mk l_greatest c_greatest k_greatest, m_greatest := PySem.W.mg_of X G a_greatest, F_is_whole := fund_mk l_is_whole c_is_whole k_is_whole, m_is_whole := PySem.W.mg_of X G a_is_whole, F_check_beats := fund_mk l_check_beats c_check_beats k_check_beats, m_check_beats := PySem.W.mg_of X G a_check_beats, F_check_place := fund_mk l_check_place c_check_place k_check_place, m_check_place := PySem.W.mg_of X G a_check_place, F_Neighbours___init__ := fund_mk l_Neighbours___init__ c_Neighbours___init__ k_Neighbours___init__, F_Neighbours_draw_ahead := fund_mk l_Neighbours_draw_ahead c_Neighbours_draw_ahead k_Neighbours_draw_ahead, me_draw_ahead := ⟨a_Neighbours_draw_ahead, i_Neighbours_draw_ahead, k_Neighbours_draw_ahead⟩, F_Neighbours_draw_behind := fund_mk l_Neighbours_draw_behind c_Neighbours_draw_behind k_Neighbours_draw_behind, me_draw_behind := ⟨a_Neighbours_draw_behind, i_Neighbours_draw_behind, k_Neighbours_draw_behind⟩, F_common := fund_mk l_common c_common k_common, m_common := PySem.W.mg_of X G a_common, F_check_wheel := fund_mk l_check_wheel c_check_wheel k_check_wheel, m_check_wheel := PySem.W.mg_of X G a_check_wheel, F_Wheel___init__ := fund_mk l_Wheel___init__ c_Wheel___init__ k_Wheel___init__, F_Wheel_place := fund_mk l_Wheel_place c_Wheel_place k_Wheel_place, F_Wheel_reached := fund_mk l_Wheel_reached c_Wheel_reached k_Wheel_reached, me_reached := ⟨a_Wheel_reached, i_Wheel_reached, k_Wheel_reached⟩, F_nearing := fund_mk l_nearing c_nearing k_nearing, m_nearing := PySem.W.mg_of X G a_nearing, F_draw_within := fund_mk l_draw_within c_draw_within k_draw_within, m_draw_within := PySem.W.mg_of X G a_draw_within, F_rounded_up := fund_mk l_rounded_up c_rounded_up k_rounded_up, m_rounded_up := PySem.W.mg_of X G a_rounded_up, F_nearest := fund_mk l_nearest c_nearest k_nearest, m_nearest := PySem.W.mg_of X G a_nearest, F_first_in := fund_mk l_first_in c_first_in k_first_in, m_first_in := PySem.W.mg_of X G a_first_in, F_slanted := fund_mk l_slanted c_slanted k_slanted, m_slanted := PySem.W.mg_of X G a_slanted, F_count_in := fund_mk l_count_in c_count_in k_count_in, m_count_in := PySem.W.mg_of X G a_count_in, F__law_cell_at := fund_mk l__law_cell_at c__law_cell_at k__law_cell_at, m__law_cell_at := PySem.W.mg_of X G a__law_cell_at, F__law_whole := fund_mk l__law_whole c__law_whole k__law_whole, m__law_whole := PySem.W.mg_of X G a__law_whole, F__law_divisor := fund_mk l__law_divisor c__law_divisor k__law_divisor, m__law_divisor := PySem.W.mg_of X G a__law_divisor, F__law_wheel := fund_mk l__law_wheel c__law_wheel k__law_wheel, m__law_wheel := PySem.W.mg_of X G a__law_wheel, F__law_most := fund_mk l__law_most c__law_most k__law_most, m__law_most := PySem.W.mg_of X G a__law_most, F__law_far := fund_mk l__law_far c__law_far k__law_far, m__law_far := PySem.W.mg_of X G a__law_far, F__law_near := fund_mk l__law_near c__law_near k__law_near, m__law_near := PySem.W.mg_of X G a__law_near, F__law_first := fund_mk l__law_first c__law_first k__law_first, m__law_first := PySem.W.mg_of X G a__law_first, F_law := fund_mk l_law c_law k_law, m_Neighbours := PySem.W.mg_of X G cls_Neighbours, cl_Neighbours := ⟨w_pg_Neighbours, w_hd_Neighbours, w_po_Neighbours, w_sa_Neighbours⟩, mk_Neighbours := ⟨w_mk_Neighbours, a_Neighbours___init__, i_Neighbours___init__, w_kc_Neighbours⟩, a_ahead := w_ahead, a_near := w_near, a_behind := w_behind, a_back := w_back, m_Wheel := PySem.W.mg_of X G cls_Wheel, cl := ⟨w_pg_Wheel, w_hd_Wheel, w_po_Wheel, w_sa_Wheel⟩, mk_Wheel := ⟨w_mk_Wheel, a_Wheel___init__, i_Wheel___init__, w_kc_Wheel⟩, a_size := w_size, a_step := w_step, a_start := w_start, a_lap := w_lap, dfl := ⟨_, _, _, d_l, rfl⟩, m_NoWheel := PySem.W.mg_of X G e_a_NoWheel, x_NoWheel := ⟨e_x_NoWheel, e_g_NoWheel, e_h_NoWheel, e_c_NoWheel, g_gs, g_tk, e_o_NoWheel, e_b_NoWheel, by rw [e_i_NoWheel]; rfl⟩, m_NoBeats := PySem.W.mg_of X G e_a_NoBeats, x_NoBeats := ⟨e_x_NoBeats, e_g_NoBeats, e_h_NoBeats, e_c_NoBeats, g_gs, g_tk, e_o_NoBeats, e_b_NoBeats, by rw [e_i_NoBeats]; rfl⟩, m_NoPlace := PySem.W.mg_of X G e_a_NoPlace, x_NoPlace := ⟨e_x_NoPlace, e_g_NoPlace, e_h_NoPlace, e_c_NoPlace, g_gs, g_tk, e_o_NoPlace, e_b_NoPlace, by rw [e_i_NoPlace]; rfl⟩, n_bool := PySem.W.mg_none_of X G z_bool, n_int := PySem.W.mg_none_of X G z_int, n_isinstance := PySem.W.mg_none_of X G z_isinstance, n_len := PySem.W.mg_none_of X G z_len, n_min := PySem.W.mg_none_of X G z_min, n_range := PySem.W.mg_none_of X G z_range, n_set := PySem.W.mg_none_of X G z_set, n_sorted := PySem.W.mg_none_of X G z_sorted, ib := kit_ty (by decide) (by decide +kernel) s_ib, ii := kit_same }
  exact ⟨_, fun s v => .of_eq rfl, fun base _ _ => ok_law T⟩
theorem law_walk {l : PySem.W.OpenLaw} {q : Program} {loose : List Str} {XP : (Str → Option Value) → Heap → Prop} {YP : World → Heap → Prop} {d : DefRec} {K : Params → PySem.W.Frag} (hn : l.most = some 63) (hdf : d.params.defaults = [])
    (hY : ∀ (w : World) (h : Heap), YP w h → (K w.params).In h)
    (F : ∀ (w : World) (mg : Str → Option Value) (fa : Addr) (h : Heap), (K w.params).In h → h.Ns mainGlobals mg → mg d.name = some (.ref fa) →
      ∃ fd : FuncData, (∀ (s : Shared) (u : Value), BindsTo s fd ⟨[u], []⟩ [("_law_script", u)]) ∧ ∀ base : Heap, (K w.params).In base → base.Ns mainGlobals mg → FnOk l.prog w (K w.params) mg base (CXR l.prog w) 6 fa fd ["_law_script"] (spLaw (K w.params))) :
    PySem.W.WalkO q loose XP YP l.row.toRowW d [] (fun f vs => PySem.call f vs) :=
  L2.walk_bits (n := 63) (k := 6) (x := "_law_script") (CX := fun w => CXR l.prog w) (sp := fun w => spLaw (K w.params)) hn (by decide) hdf ⟨rfl, by decide, by decide⟩ hY F (fun _ _ a ns hl hb _ hS => ⟨a, ns, rfl, hS, hl, hb, fun _ => rfl⟩) fun _ _ _ _ _ ⟨_, _, _, _, _, _, _, _, _, _, _, _, _, _, z⟩ => z
end Gh
open PySem PySem.W PyProof.Rows
set_option maxRecDepth 100000 in
set_option maxHeartbeats 0 in
theorem PySem.Challenge.cw_gaphand_k10_whole_wheel_parted_holds : PySem.Challenge.rw_gaphand_k10_whole_wheel_parted.Holds := by
  w_on; o_law; k_head; (case hw => w_witness2)
  k_fill
  refine Gh.law_walk (l := PySem.Challenge.rw_gaphand_k10_whole_wheel_parted) rfl rfl (fun w h Y => PySem.W.kIn_of Y) ?F
  case F =>
    intro w mg fa h KX G hmg
    refine' Gh.all_mk KX G hmg ?cls_Neighbours ?cls_Wheel ?a_greatest ?l_greatest ?c_greatest ?k_greatest ?a_is_whole ?l_is_whole ?c_is_whole ?k_is_whole ?a_check_beats ?l_check_beats ?c_check_beats ?k_check_beats ?a_check_place ?l_check_place ?c_check_place ?k_check_place ?a_Neighbours___init__ ?i_Neighbours___init__ ?l_Neighbours___init__ ?c_Neighbours___init__ ?k_Neighbours___init__ ?a_Neighbours_draw_ahead ?i_Neighbours_draw_ahead ?l_Neighbours_draw_ahead ?c_Neighbours_draw_ahead ?k_Neighbours_draw_ahead ?a_Neighbours_draw_behind ?i_Neighbours_draw_behind ?l_Neighbours_draw_behind ?c_Neighbours_draw_behind ?k_Neighbours_draw_behind ?a_common ?l_common ?c_common ?k_common ?a_check_wheel ?l_check_wheel ?c_check_wheel ?k_check_wheel ?a_Wheel___init__ ?i_Wheel___init__ ?l_Wheel___init__ ?c_Wheel___init__ ?k_Wheel___init__ ?a_Wheel_place ?l_Wheel_place ?c_Wheel_place ?k_Wheel_place ?a_Wheel_reached ?i_Wheel_reached ?l_Wheel_reached ?c_Wheel_reached ?k_Wheel_reached ?a_nearing ?l_nearing ?c_nearing ?k_nearing ?a_draw_within ?l_draw_within ?c_draw_within ?k_draw_within ?a_rounded_up ?l_rounded_up ?c_rounded_up ?k_rounded_up ?a_nearest ?l_nearest ?c_nearest ?k_nearest ?a_first_in ?l_first_in ?c_first_in ?k_first_in ?a_slanted ?l_slanted ?c_slanted ?k_slanted ?a_count_in ?l_count_in ?c_count_in ?k_count_in ?a__law_cell_at ?l__law_cell_at ?c__law_cell_at ?k__law_cell_at ?a__law_whole ?l__law_whole ?c__law_whole ?k__law_whole ?a__law_divisor ?l__law_divisor ?c__law_divisor ?k__law_divisor ?a__law_wheel ?l__law_wheel ?c__law_wheel ?k__law_wheel ?a__law_most ?l__law_most ?c__law_most ?k__law_most ?a__law_far ?l__law_far ?c__law_far ?k__law_far ?a__law_near ?l__law_near ?c__law_near ?k__law_near ?a__law_first ?l__law_first ?c__law_first ?k__law_first ?a_law ?l_law ?c_law ?k_law ?w_pg_Neighbours ?w_hd_Neighbours ?w_po_Neighbours ?w_sa_Neighbours ?w_mk_Neighbours ?w_kc_Neighbours ?w_ahead ?w_near ?w_behind ?w_back ?w_pg_Wheel ?w_hd_Wheel ?w_po_Wheel ?w_sa_Wheel ?w_mk_Wheel ?w_kc_Wheel ?w_size ?w_step ?w_start ?w_lap ?d_l ?z_bool ?z_int ?z_isinstance ?z_len ?z_min ?z_range ?z_set ?z_sorted ?s_ib ?e_a_HandError ?e_a_NoWheel ?e_x_NoWheel ?e_g_NoWheel ?e_h_NoWheel ?e_c_NoWheel ?e_o_NoWheel ?e_b_NoWheel ?e_i_NoWheel ?e_a_NoBeats ?e_x_NoBeats ?e_g_NoBeats ?e_h_NoBeats ?e_c_NoBeats ?e_o_NoBeats ?e_b_NoBeats ?e_i_NoBeats ?e_a_NoPlace ?e_x_NoPlace ?e_g_NoPlace ?e_h_NoPlace ?e_c_NoPlace ?e_o_NoPlace ?e_b_NoPlace ?e_i_NoPlace ?g_gs ?g_tk
    (case cls_Neighbours => k_is)
    (case cls_Wheel => k_is)
    (case a_greatest => k_is)
    (case l_greatest => k_is)
    (case c_greatest => k_is)
    (case k_greatest => k_is)
    (case a_is_whole => k_is)
    (case l_is_whole => k_is)
    (case c_is_whole => k_is)
    (case k_is_whole => k_is)
    (case a_check_beats => k_is)
    (case l_check_beats => k_is)
    (case c_check_beats => k_is)
    (case k_check_beats => k_is)
    (case a_check_place => k_is)
    (case l_check_place => k_is)
    (case c_check_place => k_is)
    (case k_check_place => k_is)
    (case a_Neighbours___init__ => k_is)
    (case i_Neighbours___init__ => k_is)
    (case l_Neighbours___init__ => k_is)
    (case c_Neighbours___init__ => k_is)
    (case k_Neighbours___init__ => k_is)
    (case a_Neighbours_draw_ahead => k_is)
    (case i_Neighbours_draw_ahead => k_is)
    (case l_Neighbours_draw_ahead => k_is)
    (case c_Neighbours_draw_ahead => k_is)
    (case k_Neighbours_draw_ahead => k_is)
    (case a_Neighbours_draw_behind => k_is)
    (case i_Neighbours_draw_behind => k_is)
    (case l_Neighbours_draw_behind => k_is)
    (case c_Neighbours_draw_behind => k_is)
    (case k_Neighbours_draw_behind => k_is)
    (case a_common => k_is)
    (case l_common => k_is)
    (case c_common => k_is)
    (case k_common => k_is)
    (case a_check_wheel => k_is)
    (case l_check_wheel => k_is)
    (case c_check_wheel => k_is)
    (case k_check_wheel => k_is)
    (case a_Wheel___init__ => k_is)
    (case i_Wheel___init__ => k_is)
    (case l_Wheel___init__ => k_is)
    (case c_Wheel___init__ => k_is)
    (case k_Wheel___init__ => k_is)
    (case a_Wheel_place => k_is)
    (case l_Wheel_place => k_is)
    (case c_Wheel_place => k_is)
    (case k_Wheel_place => k_is)
    (case a_Wheel_reached => k_is)
    (case i_Wheel_reached => k_is)
    (case l_Wheel_reached => k_is)
    (case c_Wheel_reached => k_is)
    (case k_Wheel_reached => k_is)
    (case a_nearing => k_is)
    (case l_nearing => k_is)
    (case c_nearing => k_is)
    (case k_nearing => k_is)
    (case a_draw_within => k_is)
    (case l_draw_within => k_is)
    (case c_draw_within => k_is)
    (case k_draw_within => k_is)
    (case a_rounded_up => k_is)
    (case l_rounded_up => k_is)
    (case c_rounded_up => k_is)
    (case k_rounded_up => k_is)
    (case a_nearest => k_is)
    (case l_nearest => k_is)
    (case c_nearest => k_is)
    (case k_nearest => k_is)
    (case a_first_in => k_is)
    (case l_first_in => k_is)
    (case c_first_in => k_is)
    (case k_first_in => k_is)
    (case a_slanted => k_is)
    (case l_slanted => k_is)
    (case c_slanted => k_is)
    (case k_slanted => k_is)
    (case a_count_in => k_is)
    (case l_count_in => k_is)
    (case c_count_in => k_is)
    (case k_count_in => k_is)
    (case a__law_cell_at => k_is)
    (case l__law_cell_at => k_is)
    (case c__law_cell_at => k_is)
    (case k__law_cell_at => k_is)
    (case a__law_whole => k_is)
    (case l__law_whole => k_is)
    (case c__law_whole => k_is)
    (case k__law_whole => k_is)
    (case a__law_divisor => k_is)
    (case l__law_divisor => k_is)
    (case c__law_divisor => k_is)
    (case k__law_divisor => k_is)
    (case a__law_wheel => k_is)
    (case l__law_wheel => k_is)
    (case c__law_wheel => k_is)
    (case k__law_wheel => k_is)
    (case a__law_most => k_is)
    (case l__law_most => k_is)
    (case c__law_most => k_is)
    (case k__law_most => k_is)
    (case a__law_far => k_is)
    (case l__law_far => k_is)
    (case c__law_far => k_is)
    (case k__law_far => k_is)
    (case a__law_near => k_is)
    (case l__law_near => k_is)
    (case c__law_near => k_is)
    (case k__law_near => k_is)
    (case a__law_first => k_is)
    (case l__law_first => k_is)
    (case c__law_first => k_is)
    (case k__law_first => k_is)
    (case a_law => k_is)
    (case l_law => k_is)
    (case c_law => k_is)
    (case k_law => k_is)
    (case w_pg_Neighbours => k_is)
    (case w_hd_Neighbours => k_is)
    (case w_po_Neighbours => k_is)
    (case w_sa_Neighbours => k_is)
    (case w_mk_Neighbours => k_is)
    (case w_kc_Neighbours => k_is)
    (case w_ahead => k_is)
    (case w_near => k_is)
    (case w_behind => k_is)
    (case w_back => k_is)
    (case w_pg_Wheel => k_is)
    (case w_hd_Wheel => k_is)
    (case w_po_Wheel => k_is)
    (case w_sa_Wheel => k_is)
    (case w_mk_Wheel => k_is)
    (case w_kc_Wheel => k_is)
    (case w_size => k_is)
    (case w_step => k_is)
    (case w_start => k_is)
    (case w_lap => k_is)
    (case d_l => k_is)
    (case z_bool => k_is)
    (case z_int => k_is)
    (case z_isinstance => k_is)
    (case z_len => k_is)
    (case z_min => k_is)
    (case z_range => k_is)
    (case z_set => k_is)
    (case z_sorted => k_is)
    (case s_ib => k_is)
    (case e_a_HandError => k_is)
    (case e_a_NoWheel => k_is)
    (case e_x_NoWheel => k_exc)
    (case e_g_NoWheel => k_is)
    (case e_h_NoWheel => k_is)
    (case e_c_NoWheel => k_is)
    (case e_o_NoWheel => k_is)
    (case e_b_NoWheel => k_is)
    (case e_i_NoWheel => k_is)
    (case e_a_NoBeats => k_is)
    (case e_x_NoBeats => k_exc)
    (case e_g_NoBeats => k_is)
    (case e_h_NoBeats => k_is)
    (case e_c_NoBeats => k_is)
    (case e_o_NoBeats => k_is)
    (case e_b_NoBeats => k_is)
    (case e_i_NoBeats => k_is)
    (case e_a_NoPlace => k_is)
    (case e_x_NoPlace => k_exc)
    (case e_g_NoPlace => k_is)
    (case e_h_NoPlace => k_is)
    (case e_c_NoPlace => k_is)
    (case e_o_NoPlace => k_is)
    (case e_b_NoPlace => k_is)
    (case e_i_NoPlace => k_is)
    (case g_gs => k_is)
    (case g_tk => k_is)

