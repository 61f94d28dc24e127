import PyProof.Rows.All
import Wide.All
import OpenK.AllK
import Wide.FinOn
import Lean
import PyProof.EqAt
import PyProof.EqKinds
import PyProof.TupleCall
import PySem.Challenge.RW_gaphand_k05_three_gaps
set_option Elab.async false
set_option linter.all false
set_option maxRecDepth 100000
/-! THE HAND LAYER, for ints, bools, texts, own classes, LISTS and tuples (index, slices, in, append, pop ..), calls, loops. Paste it whole ahead of your own text; what your proof does not reach may be deleted. -/
namespace L2
open PySem PySem.Spec PyProof.Rows

/-- a key: an int or a str -/
abbrev Key := Sum Int Str
def keyIs : Key → Value → Bool
  | .inl k, v => Value.isInt k v
  | .inr x, v => Value.isStrOf x v
def keyH (w : World) : Key → Int
  | .inl k => hashInt k
  | .inr x => hashStr w x
theorem keyIs_shape : ∀ {k : Key} {v : Value}, keyIs k v = true → (∃ i t, k = Sum.inl i ∧ v = Value.int i t) ∨ (∃ x t, k = Sum.inr x ∧ v = Value.str x t)
  | .inl i, v, h => by
    obtain ⟨t, e⟩ := Value.isInt_shape (k := i) (v := v) h
    exact .inl ⟨i, t, rfl, e⟩
  | .inr x, v, h => by
    obtain ⟨t, e⟩ := Value.isStrOf_shape (x := x) (v := v) h
    exact .inr ⟨x, t, rfl, e⟩
theorem keyIs_int (i : Int) (t : Tok) : keyIs (.inl i) (.int i t) = true := by simp [keyIs, Value.isInt]
theorem keyIs_str (x : Str) (t : Tok) : keyIs (.inr x) (.str x t) = true := by simp [keyIs, Value.isStrOf]
theorem key_ll (a b : Int) : decide ((Sum.inl a : Key) = Sum.inl b) = (a == b) := by
  by_cases e : a = b
  · subst e; simp
  · have h : ¬ (Sum.inl a : Key) = Sum.inl b := fun q => e (Sum.inl.inj q)
    rw [decide_eq_false h]
    exact (beq_eq_false_iff_ne.mpr e).symm
theorem key_rr (a b : Str) : decide ((Sum.inr a : Key) = Sum.inr b) = decide (a = b) := by
  by_cases e : a = b
  · subst e; simp
  · have h : ¬ (Sum.inr a : Key) = Sum.inr b := fun q => e (Sum.inr.inj q)
    rw [decide_eq_false h, decide_eq_false e]
theorem key_lr (a : Int) (b : Str) : decide ((Sum.inl a : Key) = Sum.inr b) = false := decide_eq_false (fun q => nomatch q)
theorem key_rl (a : Str) (b : Int) : decide ((Sum.inr a : Key) = Sum.inl b) = false := decide_eq_false (fun q => nomatch q)

def mixKind (prog : Program) (w : World) : PySem.KeyKind prog w Key where
  is := keyIs
  hash := keyH w
  inj := fun v a b ha hb => by
    rcases keyIs_shape ha with ⟨i, t, rfl, rfl⟩ | ⟨x, t, rfl, rfl⟩
    · rcases keyIs_shape hb with ⟨j, u, rfl, e⟩ | ⟨y, u, rfl, e⟩
      · injection e with e1 _; rw [e1]
      · exact nomatch e
    · rcases keyIs_shape hb with ⟨j, u, rfl, e⟩ | ⟨y, u, rfl, e⟩
      · exact nomatch e
      · injection e with e1 _; rw [e1]
  byValue := fun k v h => by
    rcases keyIs_shape h with ⟨i, t, rfl, rfl⟩ | ⟨x, t, rfl, rfl⟩ <;> rfl
  pyHash := fun hv h => by
    rcases keyIs_shape hv with ⟨i, t, rfl, rfl⟩ | ⟨x, t, rfl, rfl⟩
    · exact wpAny_pyHash_int h
    · exact wpAny_pyHash_str h
  eqBool := fun hu hv h => by
    rcases keyIs_shape hu with ⟨i, t, rfl, rfl⟩ | ⟨x, t, rfl, rfl⟩
    · rcases keyIs_shape hv with ⟨j, u, rfl, rfl⟩ | ⟨y, u, rfl, rfl⟩
      · rw [key_ll] at h; exact wpAny_eqBool_int h
      · rw [key_lr] at h; exact SeqAt.EqAt.int_str i t y u _ _ _ _ h
    · rcases keyIs_shape hv with ⟨j, u, rfl, rfl⟩ | ⟨y, u, rfl, rfl⟩
      · rw [key_rl] at h; exact SeqAt.EqAt.str_int x t j u _ _ _ _ h
      · rw [key_rr] at h; exact wpAny_eqBool_str h
  «strs» := fun k x t v h => by
    rcases keyIs_shape h with ⟨i, u, rfl, e⟩ | ⟨y, u, rfl, e⟩
    · exact nomatch e
    · injection e with e1 _
      subst e1
      cases v <;> rfl

theorem mixKind_is (prog : Program) (w : World) (k : Key) (v : Value) : (mixKind prog w).is k v = keyIs k v := rfl
theorem mixKind_int (prog : Program) (w : World) (i : Int) (t : Tok) : (mixKind prog w).is (.inl i) (.int i t) = true := keyIs_int i t
theorem mixKind_str (prog : Program) (w : World) (x : Str) (t : Tok) : (mixKind prog w).is (.inr x) (.str x t) = true := keyIs_str x t
end L2

namespace L2
open PySem PySem.Spec PyProof.Rows

/-- a value, without the heap -/
inductive V where
  | non | bl (b : Bool) | int (i : Int) | str (x : Str) | byt (b : Array UInt8) | flt (b : UInt64) | ref (a : Addr) | ty (n : String)
  deriving DecidableEq

def RelV : V → Value → Prop
  | .non, u => u = Value.none
  | .bl b, u => u = Value.bool b
  | .int i, u => ∃ t, u = Value.int i t
  | .str x, u => ∃ t, u = Value.str x t
  | .byt b, u => ∃ t, u = Value.bytes b t
  | .flt b, u => ∃ t, u = Value.float b t
  | .ref a, u => u = Value.ref a
  | .ty n, u => u = Value.type n

abbrev Vals : List V → List Value → Prop := Paired RelV
theorem Vals.length {xs : List V} {us : List Value} (r : Vals xs us) : xs.length = us.length := Paired.length r
theorem Vals.get : ∀ {xs : List V} {us : List Value} {i : Nat} {x : V}, Vals xs us → xs[i]? = some x → ∃ u, us[i]? = some u ∧ RelV x u
  | _, _, _, _, .nil, e => by simp at e
  | _, _, 0, _, .cons r _, e => by simp at e; subst e; exact ⟨_, rfl, r⟩
  | _, _, i + 1, x, .cons _ t, e => by
    obtain ⟨u, h1, h2⟩ := Vals.get (i := i) (x := x) t (by simpa using e)
    exact ⟨u, by simpa using h1, h2⟩
theorem Vals.append : ∀ {xs ys : List V} {us ws : List Value}, Vals xs us → Vals ys ws → Vals (xs ++ ys) (us ++ ws)
  | _, _, _, _, .nil, s => s
  | _, _, _, _, .cons r t, s => .cons r (Vals.append t s)
theorem Vals.take : ∀ {xs : List V} {us : List Value} (n : Nat), Vals xs us → Vals (xs.take n) (us.take n)
  | _, _, 0, _ => .nil
  | _, _, _ + 1, .nil => .nil
  | _, _, n + 1, .cons r t => .cons r (Vals.take n t)
theorem Vals.drop : ∀ {xs : List V} {us : List Value} (n : Nat), Vals xs us → Vals (xs.drop n) (us.drop n)
  | _, _, 0, r => r
  | _, _, _ + 1, .nil => .nil
  | _, _, n + 1, .cons _ t => Vals.drop n t
def RelO : Option V → Option Value → Prop
  | some v, some u => RelV v u
  | none, none => True
  | _, _ => False
def KV {κ : Type} : List (κ × V) → List (κ × Value) → Prop := Paired fun (p : κ × V) (q : κ × Value) => p.1 = q.1 ∧ RelV p.2 q.2

/-- a key of a dict (00_mix): an int or a text -/
def kV : Key → V
  | .inl i => .int i
  | .inr x => .str x

/-- what stands at a tracked address -/
inductive HO where
  /-- a list -/
  | lst (xs : List V)
  /-- a tuple (never changes) -/
  | tup (xs : List V)
  /-- a dict whose keys are ints and texts; one whose keys are tuples of ints and texts (the empty one is both) -/
  | dK (kvs : List (Key × V)) | dT (kvs : List (List Key × V))
  /-- a set of ints: its members, its size -/
  | set (S : Int → Bool) (n : Nat)
  /-- an instance of the class at C, its dict at dx, its attributes -/
  | ins (C dx : Addr) (fs : List (Str × V))
  /-- the dict of the instance at x -/
  | own (x : Addr)
  /-- the dict of an exception -/
  | xd (fs : List (Str × V))
  /-- a bound method, f of x -/
  | met (f x : Addr)
  /-- a range object lo, lo + 1, .. below hi -/
  | rng (lo hi : Int)
  /-- a thing that is known to the object (the script; a dict while a loop walks it): read, never written while it is so -/
  | frz (o : Obj) (u : HO)
  /-- a code object's table -/
  | tbl (ps : Array Value)
  /-- any other thing, by what is true of its one object (a def of one's own: SetO a S n := HO.ext fun h => ..) -/
  | ext (φ : Heap → Prop)

abbrev Hp := Addr → Option HO
def upd (H : Hp) (a : Addr) (o : HO) : Hp := fun b => if b = a then some o else H b
theorem upd_same {H : Hp} {a : Addr} {o : HO} : upd H a o a = some o := by unfold upd; rw [if_pos rfl]
theorem upd_ne {H : Hp} {a b : Addr} {o : HO} (h : b ≠ a) : upd H a o b = H b := by unfold upd; rw [if_neg h]
theorem upd_upd {H : Hp} {a : Addr} {o u : HO} : upd (upd H a o) a u = upd H a u := by
  funext b; unfold upd; split <;> rfl
/-- two objects of different content stand apart -/
theorem ne_of {H : Hp} {a b : Addr} {o u : HO} (h : H a = some o) (h' : H b = some u) (d : o ≠ u) : a ≠ b := by
  intro e; subst e; rw [h] at h'; exact d (Option.some.inj h')
theorem ne_of_none {H : Hp} {a b : Addr} {o : HO} (h : H a = some o) (h' : H b = none) : a ≠ b := by
  intro e; subst e; rw [h] at h'; cases h'

section
variable (P : Program) (w : World)
def ObjOk (H : Hp) (h : Heap) (a : Addr) : HO → Prop
  | .lst xs => xs.length ≤ sizeLine ∧ ∃ (its : List Value) (n : Nat), Vals xs its ∧ h.get? a = some { cls := .type "list", data := .seq its.toArray n }
  | .tup xs => xs.length ≤ sizeLine ∧ ∃ its : List Value, Vals xs its ∧ IsTup h a its.toArray
  | .dK kvs => kvs.length ≤ sizeLine ∧ (a == sysModules) = false ∧ ∃ vs, KV kvs vs ∧ h.DictOf (mixKind P w) a vs
  | .dT kvs => kvs.length ≤ sizeLine ∧ (a == sysModules) = false ∧ ∃ xs : List (List Key × Addr × Value),
      Paired (fun (p : List Key × V) (q : List Key × Addr × Value) => p.1 = q.1 ∧ H q.2.1 = some (.tup (p.1.map kV)) ∧ RelV p.2 q.2.2) kvs xs ∧
      ∃ o es ep, h.get? a = some o ∧ o.ExactDict ∧ o.data = .dict es ep ∧ es.toList = xs.map (entryOfKey (tupleKind (mixKind P w))) ∧ (xs.map (·.1)).Nodup
  | .set S n => h.SetOf (intKind P w) a S n
  | .ins C dx fs => H dx = some (.own a) ∧ fs.length ≤ 1000 ∧ dx ≠ a ∧ h.get? a = some (PySem.W.instObj C dx) ∧
      ∃ mA, h.Ns1 dx mA ∧ (∀ f, RelO (fs.lookup f) (mA f)) ∧ PySem.Within mA (fs.map (·.1))
  | .own _ => ∃ o, h.get? a = some o
  | .xd fs => ∃ mA, h.Ns1 a mA ∧ ∀ f, RelO (fs.lookup f) (mA f)
  | .rng lo hi => ∃ t u v, h.get? a = some { cls := .type "range", data := .fields #[.int lo t, .int hi u, .int 1 v] }
  | .frz o u => h.get? a = some o ∧ ObjOk H h a u
  | .tbl ps => h.get? a = some { cls := .none, data := .fields ps }
  | .met f x => h.get? a = some (PySem.W.methodObj (.ref f) (.ref x))
  | .ext φ => φ h ∧ (∃ o, h.get? a = some o) ∧ ∀ h1 h2 : Heap, φ h1 → (∀ o, h1.get? a = some o → h2.get? a = some o) → φ h2
/-- the abstract heap is held -/
def HOk (H : Hp) (h : Heap) : Prop := ∀ a o, H a = some o → ObjOk P w H h a o
end

section
variable {P : Program} {w : World} {H H' : Hp} {h h' : Heap} {a : Addr} {o : HO}
theorem ObjOk.lt (x : ObjOk P w H h a o) : a < h.objs.size := by
  cases o with
  | lst xs => obtain ⟨_, _, _, _, e⟩ := x; exact Heap.lt_size e
  | tup xs => obtain ⟨_, _, _, p⟩ := x; exact p.lt
  | dK kvs => obtain ⟨_, _, _, _, o, _, _, e, _⟩ := x; exact Heap.lt_size e
  | dT kvs => obtain ⟨_, _, _, _, o, _, _, e, _⟩ := x; exact Heap.lt_size e
  | set S n => obtain ⟨o, _, _, _, e, _⟩ := x; exact Heap.lt_size e
  | ins C dx fs => obtain ⟨_, _, _, e, _⟩ := x; exact Heap.lt_size e
  | own y => obtain ⟨_, e⟩ := x; exact Heap.lt_size e
  | xd fs => obtain ⟨_, ⟨_, _, _, e, _⟩, _⟩ := x; exact Heap.lt_size e
  | rng lo hi => obtain ⟨_, _, _, e⟩ := x; exact Heap.lt_size e
  | frz ob u => obtain ⟨e, _⟩ := x; exact Heap.lt_size e
  | tbl ps => exact Heap.lt_size (show h.get? a = some _ from x)
  | met f y => exact Heap.lt_size (show h.get? a = some _ from x)
  | ext φ => obtain ⟨_, ⟨_, e⟩, _⟩ := x; exact Heap.lt_size e
theorem Paired.mapP {α β : Type} {F G : α → β → Prop} : ∀ {l₁ : List α} {l₂ : List β}, Paired F l₁ l₂ → (∀ a b, F a b → G a b) → Paired G l₁ l₂
  | _, _, .nil, _ => .nil
  | _, _, .cons r t, f => .cons (f _ _ r) (Paired.mapP t f)
/-- what an object's description leans on: its own object, its own dict, the tuples -/
theorem ObjOk.stay (x : ObjOk P w H h a o) (k : ∀ b u, (b = a ∨ H b = some (.own a)) → h.get? b = some u → h'.get? b = some u)
    (ho : ∀ b, H b = some (.own a) → H' b = some (.own a)) (ht : ∀ b xs, H b = some (.tup xs) → H' b = some (.tup xs)) : ObjOk P w H' h' a o := by
  induction o with
  | lst xs => obtain ⟨z, its, n, r, e⟩ := x; exact ⟨z, its, n, r, k _ _ (.inl rfl) e⟩
  | tup xs => obtain ⟨z, its, r, ob, e, c⟩ := x; exact ⟨z, its, r, ob, k _ _ (.inl rfl) e, c⟩
  | dK kvs => obtain ⟨z, y, vs, r, ob, es, ep, e, c⟩ := x; exact ⟨z, y, vs, r, ob, es, ep, k _ _ (.inl rfl) e, c⟩
  | dT kvs =>
    obtain ⟨z, y, xs, r, ob, es, ep, e, c⟩ := x
    exact ⟨z, y, xs, Paired.mapP r fun p q z => ⟨z.1, ht _ _ z.2.1, z.2.2⟩, ob, es, ep, k _ _ (.inl rfl) e, c⟩
  | set S n => obtain ⟨ob, es, ep, t, e, c⟩ := x; exact ⟨ob, es, ep, t, k _ _ (.inl rfl) e, c⟩
  | ins C dx fs =>
    obtain ⟨d, z, ne, e, mA, ⟨od, es, ep, e2, c⟩, r⟩ := x
    exact ⟨ho _ d, z, ne, k _ _ (.inl rfl) e, mA, ⟨od, es, ep, k _ _ (.inr d) e2, c⟩, r⟩
  | own y => obtain ⟨ob, e⟩ := x; exact ⟨ob, k _ _ (.inl rfl) e⟩
  | xd fs => obtain ⟨mA, ⟨od, es, ep, e, c⟩, r⟩ := x; exact ⟨mA, ⟨od, es, ep, k _ _ (.inl rfl) e, c⟩, r⟩
  | rng lo hi => obtain ⟨t, u, v, e⟩ := x; exact ⟨t, u, v, k _ _ (.inl rfl) e⟩
  | frz ob u ih => obtain ⟨e, q⟩ := x; exact ⟨k _ _ (.inl rfl) e, ih q⟩
  | tbl ps =>
    have e : h.get? a = some { cls := .none, data := .fields ps } := x
    show h'.get? a = some { cls := .none, data := .fields ps }
    exact k a _ (.inl rfl) e
  | met f y =>
    have e : h.get? a = some (PySem.W.methodObj (.ref f) (.ref y)) := x
    show h'.get? a = some (PySem.W.methodObj (.ref f) (.ref y))
    exact k a _ (.inl rfl) e
  | ext φ => obtain ⟨p, ⟨o, e⟩, st⟩ := x; exact ⟨st _ _ p fun o q => k _ _ (.inl rfl) q, ⟨o, k _ _ (.inl rfl) e⟩, st⟩
theorem HOk.lt (x : HOk P w H h) (e : H a = some o) : a < h.objs.size := (x a o e).lt
theorem HOk.fresh (x : HOk P w H h) (e : h.objs.size ≤ a) : H a = none := by
  cases q : H a with
  | none => rfl
  | some u => exact absurd (Nat.lt_of_lt_of_le (x.lt q) e) (Nat.lt_irrefl _)
/-- every object of the heap is kept -/
theorem HOk.kept (x : HOk P w H h) (k : ∀ b u, h.get? b = some u → h'.get? b = some u) : HOk P w H h' := fun a o e =>
  (x a o e).stay (fun b u _ q => k b u q) (fun _ q => q) fun _ _ q => q
/-- a new object is laid and tracked -/
theorem HOk.laid (x : HOk P w H h) (k : ∀ b u, h.get? b = some u → h'.get? b = some u) (hp : h.objs.size ≤ a) (new : ObjOk P w (upd H a o) h' a o) : HOk P w (upd H a o) h' := fun b u e => by
  have hn := x.fresh hp
  by_cases hb : b = a
  · subst hb; rw [upd_same] at e; cases e; exact new
  · rw [upd_ne hb] at e
    exact (x b u e).stay (fun c v _ q => k c v q) (fun c q => by rw [upd_ne (ne_of_none q hn)]; exact q) fun c xs q => by rw [upd_ne (ne_of_none q hn)]; exact q
end

/-- what may be read as u: it is u, or a known u -/
def Rd (H : Hp) (a : Addr) (u : HO) : Prop := H a = some u ∨ ∃ o, H a = some (.frz o u)
theorem Rd.ok {P : Program} {w : World} {H : Hp} {h : Heap} {a : Addr} {u : HO} (r : Rd H a u) (x : HOk P w H h) : ObjOk P w H h a u := by
  rcases r with r | ⟨o, r⟩
  · exact x a u r
  · obtain ⟨_, q⟩ := x a _ r
    exact q
/-- what may be written -/
def Mut : Option HO → Prop
  | some (.lst _) => True
  | some (.dK _) => True
  | some (.dT _) => True
  | some (.set _ _) => True
  | some (.ins _ _ _) => True
  | some (.ext _) => True
  | _ => False
section
variable {P : Program} {w : World} {H : Hp} {h h' : Heap} {x e : Addr} {o' : HO}
/-- the object at e is changed: x itself, or the dict of the instance x -/
theorem HOk.write (ok : HOk P w H h) (mu : Mut (H x)) (he : e = x ∨ H e = some (.own x)) (k : ∀ b u, b ≠ e → h.get? b = some u → h'.get? b = some u) (heo : ∃ u, h'.get? e = some u)
    (new : ObjOk P w (upd H x o') h' x o') : HOk P w (upd H x o') h' := fun b u q => by
  have nown : ∀ c y, H c = some (.own y) → c ≠ x := fun c y r z => by subst z; rw [r] at mu; exact mu
  have ntup : ∀ c xs, H c = some (.tup xs) → c ≠ x := fun c xs r z => by subst z; rw [r] at mu; exact mu
  by_cases hb : b = x
  · subst hb; rw [upd_same] at q; cases q; exact new
  · rw [upd_ne hb] at q
    by_cases hbe : b = e
    · have q' : H b = some (.own x) := by
        rcases he with z | z
        · exact absurd (hbe.trans z) hb
        · rw [hbe]; exact z
      rw [q] at q'; cases q'
      obtain ⟨v, hv⟩ := heo
      exact ⟨v, by rw [hbe]; exact hv⟩
    · refine (ok b u q).stay (fun c v hc r => k c v ?_ r) (fun c r => by rw [upd_ne (nown c b r)]; exact r) fun c xs r => by rw [upd_ne (ntup c xs r)]; exact r
      rcases hc with rfl | hc
      · exact hbe
      · rintro rfl
        rcases he with z | z
        · exact nown c b hc z
        · rw [hc] at z; cases z; exact hb rfl
end

/-! ### kept unless tracked; of the frames at fs (the callers') the slots may change (an exception that passes writes there); of the records at ex (iterators) nothing is said -/
structure Un (fs ex : List Addr) (H H' : Hp) (h h' : Heap) : Prop where
  keep : ∀ b o, h.get? b = some o → H b = none → b ∉ fs → b ∉ ex → h'.get? b = some o
  slot : ∀ b o, h.get? b = some o → H b = none → b ∈ fs → b ∉ ex → ∃ sl, h'.get? b = some { o with slots := sl }
  free : ∀ b o, h.get? b = some o → H b = none → b ∉ ex → H' b = none
  there : ∀ b o, h.get? b = some o → b ∉ ex → ∃ o', h'.get? b = some o'
  tups : ∀ b xs, H b = some (.tup xs) → H' b = some (.tup xs)
  frzs : ∀ b o u, H b = some (.frz o u) → H' b = some (.frz o u)
  tbls : ∀ b ps, H b = some (.tbl ps) → ∃ more, H' b = some (.tbl (ps ++ more))
section
variable {fs fs' ex ex' : List Addr} {H H1 H2 : Hp} {h h1 h2 h' : Heap} {a x e : Addr} {o : HO}
theorem Un.any (u : Un fs ex H H1 h h1) {b : Addr} {ob : Obj} (q : h.get? b = some ob) (n : H b = none) (hx : b ∉ ex) : ∃ sl, h1.get? b = some { ob with slots := sl } := by
  by_cases hb : b ∈ fs
  · exact u.slot b ob q n hb hx
  · exact ⟨ob.slots, u.keep b ob q n hb hx⟩
theorem Un.kept (k : ∀ b u, h.get? b = some u → h'.get? b = some u) : Un fs ex H H h h' :=
  ⟨fun b ob q _ _ _ => k b ob q, fun b ob q _ _ _ => ⟨ob.slots, k b ob q⟩, fun _ _ _ n _ => n, fun b ob q _ => ⟨ob, k b ob q⟩, fun _ _ q => q, fun _ _ _ q => q, fun _ ps q => ⟨#[], by rw [q]; simp⟩⟩
theorem Un.refl : Un fs ex H H h h := Un.kept fun _ _ q => q
theorem Un.laid (k : ∀ b u, h.get? b = some u → h'.get? b = some u) (hp : h.objs.size ≤ a) (hn : H a = none) : Un fs ex H (upd H a o) h h' where
  keep := fun b u q _ _ _ => k b u q
  slot := fun b u q _ _ _ => ⟨u.slots, k b u q⟩
  free := fun b u q n _ => by rw [upd_ne (Nat.ne_of_lt (Nat.lt_of_lt_of_le (Heap.lt_size q) hp))]; exact n
  there := fun b u q _ => ⟨u, k b u q⟩
  tups := fun b xs q => by rw [upd_ne (ne_of_none q hn)]; exact q
  frzs := fun b u xs q => by rw [upd_ne (ne_of_none q hn)]; exact q
  tbls := fun b ps q => ⟨#[], by rw [upd_ne (ne_of_none q hn), q]; simp⟩
theorem Un.write (mu : Mut (H x)) (he : e = x ∨ H e = some (.own x)) (k : ∀ b u, b ≠ e → h.get? b = some u → h'.get? b = some u) (heo : ∃ u, h'.get? e = some u) : Un fs ex H (upd H x o) h h' := by
  have hx : ∀ b, H b = none → b ≠ x := fun b n z => by subst z; rw [n] at mu; exact mu
  have hb : ∀ b, H b = none → b ≠ e := fun b n z => by
    subst z
    rcases he with r | r
    · exact hx b n r
    · rw [n] at r; cases r
  have hm : ∀ b u, H b = some u → ¬ Mut (some u) → b ≠ x := fun b u q nm z => by subst z; rw [q] at mu; exact nm mu
  refine ⟨fun b u q n _ _ => k b u (hb b n) q, fun b u q n _ _ => ⟨u.slots, k b u (hb b n) q⟩, fun b u q n _ => by rw [upd_ne (hx b n)]; exact n, fun b u q _ => ?_,
    fun b xs q => by rw [upd_ne (hm b _ q fun z => z)]; exact q, fun b u xs q => by rw [upd_ne (hm b _ q fun z => z)]; exact q, fun b ps q => ⟨#[], by rw [upd_ne (hm b _ q fun z => z), q]; simp⟩⟩
  by_cases hbe : b = e
  · subst hbe; exact heo
  · exact ⟨u, k b u hbe q⟩
end

/-! ### the heap without what is tracked -/
def trk (h : Heap) (H : Hp) : List Addr := (List.range h.objs.size).filter fun a => (H a).isSome
def hidT (h : Heap) (H : Hp) : Heap := PySem.W.hideAll h (trk h H)
theorem hidT_size (h : Heap) (H : Hp) : (hidT h H).objs.size = h.objs.size := PySem.W.hideAll_size _ _
theorem hidT_get {h : Heap} {H : Hp} {b : Addr} {o : Obj} (e : h.get? b = some o) (n : H b = none) : (hidT h H).get? b = some o :=
  PySem.W.hideAll_get _ e fun hm => by
    have q : (H b).isSome = true := (List.mem_filter.mp hm).2
    rw [n] at q; simp at q
theorem of_hidT {h : Heap} {H : Hp} {b : Addr} {o : Obj} (e : (hidT h H).get? b = some o) : h.get? b = some o ∧ H b = none := by
  have e' : h.get? b = some o := PySem.W.of_hideAll (trk h H) e
  refine ⟨e', ?_⟩
  cases q : H b with
  | none => rfl
  | some x =>
    have hm : b ∈ trk h H := List.mem_filter.mpr ⟨List.mem_range.mpr (Heap.lt_size e'), by simp [q]⟩
    have z : (hidT h H).get? b = none := PySem.W.hideAll_none (trk h H) hm
    rw [z] at e; cases e

/-! ### OpenK's ledger, filled with every new object but one -/
end L2

namespace L2
open PySem PySem.Spec PyProof.Rows

/-- the module's facts, over the base: the heap at the law's entry without what is tracked there -/
structure Mod (K : PySem.W.Frag) (mg : Str → Option Value) (base : Heap) : Prop where
  kin : K.In base
  glob : base.Ns mainGlobals mg
  blt : ∃ mb, base.Ns builtinsNs mb ∧ ∀ x : Str, x ≠ "__name__" → mb x = bootBuiltins x
  nolimit : base.NoLimit

/-- the context: a def's body (or a comprehension's block) running. base: fixed through the whole law; s₀, H₀: the entry; outer: the frames whose slots others may change (a def's callers); stack: all frames that run;
   ex: iterators that were made ahead of the entry and are walked here (a comprehension's); fn: the names whose cells were made at the entry (a def: all; a comprehension's block: its own); calm: not within an except suite; pn: pins that every state bears; xe: what is wanted of an exception that leaves the code -/
structure Cx where
  prog : Program
  w : World
  K : PySem.W.Frag
  mg : Str → Option Value
  base : Heap
  A : Around
  N : List Str
  s₀ : Shared
  H₀ : Hp
  env : Env
  outer : List Env
  stack : List Env
  ex : List Addr
  fn : Str → Bool
  calm : Bool
  pn : List (Addr × Obj)
  xe : Value → Shared → Prop
/-- the callers' frames -/
def frs (l : List Env) : List Addr := l.filterMap (·.frame)
abbrev Cx.fs (X : Cx) : List Addr := frs X.outer

def Vis (sc : Scope) (x : Str) : Prop := sc.names.lookup x = some .local ∨ sc.names.lookup x = some .cell ∨ sc.names.lookup x = some .free
def Loc (sc : Scope) (x : Str) : Prop := sc.names.lookup x = some .local ∨ sc.names.lookup x = some .cell
def Look (env : Env) (h : Heap) (m : Str → Option Value) (x : Str) (u : Value) : Prop :=
  (env.kindOf x = some .local ∧ m x = some u) ∨ ((env.kindOf x = some .cell ∨ env.kindOf x = some .free) ∧ ∃ c, env.cells.lookup x = some c ∧ h.IsCell c (some u))

structure Cx.Ok (X : Cx) : Prop where
  mod : Mod X.K X.mg X.base
  kind : X.env.scope.kind = .function
  glob : X.env.globals = mainGlobals
  blt : X.env.builtins = builtinsNs
  above : X.s₀.heap.objs.size ≤ X.env.locals
  inj : ∀ x y c, X.env.cells.lookup x = some c → X.env.cells.lookup y = some c → x = y
  has : ∀ x, (X.env.kindOf x = some .cell ∨ X.env.kindOf x = some .free) → ∃ c, X.env.cells.lookup x = some c
  cab : ∀ x c, X.fn x = true → X.env.cells.lookup x = some c → X.s₀.heap.objs.size ≤ c
  hd : X.calm = true → X.A.handled = none
  frames : X.A.frames = some X.stack
  stk : X.stack = X.outer ∨ (X.stack = X.env :: X.outer ∧ X.env.frame = some X.env.locals)
  exf : ∀ b ∈ X.ex, b ≠ X.env.locals ∧ ∀ x c, X.env.cells.lookup x = some c → c ≠ b
  bs : ∀ b o, X.base.get? b = some o → X.s₀.heap.get? b = some o ∧ X.H₀ b = none
  bsz : X.base.objs.size ≤ X.s₀.heap.objs.size
  noex : ∀ b o, X.base.get? b = some o → b ∉ X.ex
  exfs : ∀ b ∈ X.ex, b ∉ X.fs
  funs : X.s₀.heap.FunFrames X.base X.outer
  frf : ∀ b ∈ X.fs, X.H₀ b = none

structure Inv (X : Cx) (pins : List (Addr × Obj)) (σ : List (Option V)) (H : Hp) (s : Shared) : Prop where
  ok : X.Ok
  os : s.os = X.s₀.os
  bare : AllBare s.gens
  base : Un X.fs X.ex X.H₀ H X.s₀.heap s.heap
  loc : ∃ m, s.heap.Ns X.env.locals m ∧ ∀ (i : Nat) (x : Str) (v : V), X.N[i]? = some x → σ[i]? = some (some v) → Vis X.env.scope x → ∃ u, RelV v u ∧ Look X.env s.heap m x u
  cell : ∀ x c, X.env.cells.lookup x = some c → ∃ v, s.heap.IsCell c v
  free : H X.env.locals = none
  freeC : ∀ x c, X.env.cells.lookup x = some c → H c = none
  pin : ∀ p ∈ X.pn ++ pins, s.heap.get? p.1 = some p.2 ∧ H p.1 = none ∧ p.1 ≠ X.env.locals ∧ p.1 ∉ X.fs ∧ ∀ v, p.2.data ≠ .cell v
  hok : HOk X.prog X.w H s.heap
  len : σ.length = X.N.length

section
variable {X : Cx} {pins : List (Addr × Obj)} {σ : List (Option V)} {H H' : Hp} {s : Shared} {h' : Heap}

theorem Cx.Ok.nofr (ok : X.Ok) {b : Addr} {o : Obj} (e : X.base.get? b = some o) : b ∉ X.fs := fun hb => by
  have := (ok.funs.mem hb).1
  rw [e] at this; cases this
theorem Inv.bs (I : Inv X pins σ H s) : ∀ b o, X.base.get? b = some o → s.heap.get? b = some o ∧ H b = none := fun b o e =>
  ⟨I.base.keep b o (I.ok.bs b o e).1 (I.ok.bs b o e).2 (I.ok.nofr e) (I.ok.noex b o e), I.base.free b o (I.ok.bs b o e).1 (I.ok.bs b o e).2 (I.ok.noex b o e)⟩
theorem Inv.bk (I : Inv X pins σ H s) : ∀ b o, X.base.get? b = some o → s.heap.get? b = some o := fun b o e => (I.bs b o e).1
theorem Inv.mod (I : Inv X pins σ H s) : Mod X.K X.mg X.base := I.ok.mod
theorem Inv.kIn (I : Inv X pins σ H s) : X.K.In s.heap := I.ok.mod.kin.keeps I.bk
theorem Inv.lt (I : Inv X pins σ H s) : X.env.locals < s.heap.objs.size := let ⟨_, hn, _⟩ := I.loc; hn.lt
theorem Inv.sz (I : Inv X pins σ H s) : X.s₀.heap.objs.size ≤ s.heap.objs.size := Nat.le_trans I.ok.above (Nat.le_of_lt I.lt)
theorem Inv.nofs (I : Inv X pins σ H s) {a : Addr} (h : s.heap.objs.size ≤ a) : a ∉ X.fs := fun hb => by
  obtain ⟨_, o, ho, _⟩ := I.ok.funs.mem hb
  exact absurd (Nat.lt_of_lt_of_le (Heap.lt_size ho) (Nat.le_trans I.sz h)) (Nat.lt_irrefl _)
theorem Inv.cne (I : Inv X pins σ H s) : ∀ x c, X.env.cells.lookup x = some c → c ≠ X.env.locals := fun x c e z => by
  obtain ⟨v, o, ho, hd⟩ := I.cell x c e
  obtain ⟨m, ⟨o', es, ep, ho', hd', _⟩, _⟩ := I.loc
  rw [z, ho'] at ho; cases ho; rw [hd'] at hd; cases hd
theorem Inv.funs (I : Inv X pins σ H s) : s.heap.FunFrames X.base X.outer := by
  have all : ∀ (l : List Env), (∀ b ∈ frs l, b ∈ X.fs) → X.s₀.heap.FunFrames X.base l → s.heap.FunFrames X.base l := by
    intro l
    induction l with
    | nil => intro _ _; trivial
    | cons env r ih =>
      intro hs hl
      obtain ⟨hk, ⟨L, o, hf, hn, ho, hd⟩, hr⟩ := hl
      have hL : L ∈ X.fs := hs L (by unfold frs; rw [List.filterMap_cons, hf]; exact List.mem_cons_self)
      obtain ⟨sl, e⟩ := I.base.slot L o ho (I.ok.frf L hL) hL fun z => I.ok.exfs L z hL
      exact ⟨hk, ⟨L, _, hf, hn, e, hd⟩, ih (fun b hb => hs b (by unfold frs; rw [List.filterMap_cons, hf]; exact List.mem_cons_of_mem _ hb)) hr⟩
  exact all X.outer (fun _ hb => hb) I.ok.funs

/-- the frames that run, for a call -/
theorem Inv.stack (I : Inv X pins σ H s) : s.heap.FunFrames X.base X.stack := by
  rcases I.ok.stk with e | ⟨e, hf⟩
  · rw [e]; exact I.funs
  · rw [e]
    obtain ⟨m, hn, _⟩ := I.loc
    refine .cons (by rw [I.ok.kind]; decide) hf hn ?_ I.funs
    exact Heap.get?_none_of_le (Nat.le_trans I.ok.bsz I.ok.above)
theorem Inv.stkSub (I : Inv X pins σ H s) : ∀ b ∈ frs X.stack, b ∈ X.env.locals :: X.fs := fun b hb => by
  rcases I.ok.stk with e | ⟨e, hf⟩
  · rw [e] at hb; exact List.mem_cons_of_mem _ hb
  · rw [e] at hb
    unfold frs at hb
    rw [List.filterMap_cons, hf] at hb
    exact hb
theorem Inv.stkFree (I : Inv X pins σ H s) : ∀ b ∈ frs X.stack, H b = none := fun b hb => by
  rcases List.mem_cons.mp (I.stkSub b hb) with e | hb
  · rw [e]; exact I.free
  · obtain ⟨_, o, ho, _⟩ := I.ok.funs.mem hb
    exact I.base.free b o ho (I.ok.frf b hb) fun z => I.ok.exfs b z hb

/-- THE STEP: the untracked objects but the frame and the records at ch are kept (the callers' frames up to slots), the frame's map is kept, the new abstract heap is held -/
theorem Inv.step {g' : Array GenState} {t' : Nat} {d' : Drawn} {ch : List Addr} (I : Inv X pins σ H s)
    (hch : ∀ b ∈ ch, (b ∈ X.ex ∨ X.s₀.heap.objs.size ≤ b) ∧ b ≠ X.env.locals ∧ (∀ x c, X.env.cells.lookup x = some c → c ≠ b) ∧ ∀ p ∈ X.pn ++ pins, p.1 ≠ b)
    (keep : ∀ b o, b ≠ X.env.locals → b ∉ X.fs → b ∉ ch → s.heap.get? b = some o → H b = none → h'.get? b = some o)
    (slot : ∀ b o, b ≠ X.env.locals → b ∈ X.fs → b ∉ ch → s.heap.get? b = some o → H b = none → ∃ sl, h'.get? b = some { o with slots := sl }) (free : ∀ b o, b ∉ ch → s.heap.get? b = some o → H b = none → H' b = none)
    (there : ∀ b o, b ∉ ch → s.heap.get? b = some o → ∃ o', h'.get? b = some o')
    (tups : ∀ b xs, H b = some (.tup xs) → H' b = some (.tup xs)) (frzs : ∀ b o u, H b = some (.frz o u) → H' b = some (.frz o u)) (tbls : ∀ b ps, H b = some (.tbl ps) → ∃ more, H' b = some (.tbl (ps ++ more)))
    (ns : ∀ m, s.heap.Ns X.env.locals m → h'.Ns X.env.locals m) (hok : HOk X.prog X.w H' h') (hg : AllBare g') :
    Inv X pins σ H' { s with heap := h', gens := g', drawn := d', toks := t' } := by
  have neL : ∀ b o, X.s₀.heap.get? b = some o → b ≠ X.env.locals := fun b o e => Nat.ne_of_lt (Nat.lt_of_lt_of_le (Heap.lt_size e) I.ok.above)
  have neC : ∀ b o, X.s₀.heap.get? b = some o → b ∉ X.ex → b ∉ ch := fun b o e hx hb => by
    rcases (hch b hb).1 with z | z
    · exact hx z
    · exact absurd (Nat.lt_of_lt_of_le (Heap.lt_size e) z) (Nat.lt_irrefl _)
  have cellK : ∀ x c, X.env.cells.lookup x = some c → ∀ v, s.heap.IsCell c v → h'.IsCell c v := fun x c e v ⟨o, ho, hd⟩ => by
    have nch : c ∉ ch := fun z => (hch c z).2.2.1 x c e rfl
    by_cases hc : c ∈ X.fs
    · obtain ⟨sl, q⟩ := slot c o (I.cne x c e) hc nch ho (I.freeC x c e)
      exact ⟨_, q, hd⟩
    · exact ⟨o, keep c o (I.cne x c e) hc nch ho (I.freeC x c e), hd⟩
  refine ⟨I.ok, I.os, hg, ⟨fun b o e n hb hx => ?_, fun b o e n hb hx => ?_, fun b o e n hx => ?_, fun b o e hx => ?_, fun b xs e => tups b xs (I.base.tups b xs e), fun b o xs e => frzs b o xs (I.base.frzs b o xs e), fun b ps e => ?_⟩, ?_, fun x c e => ?_, ?_, fun x c e => ?_, fun p hp => ?_, hok, I.len⟩
  · exact keep b o (neL b o e) hb (neC b o e hx) (I.base.keep b o e n hb hx) (I.base.free b o e n hx)
  · obtain ⟨sl, e1⟩ := I.base.slot b o e n hb hx
    obtain ⟨sl', e2⟩ := slot b _ (neL b o e) hb (neC b o e hx) e1 (I.base.free b o e n hx)
    exact ⟨sl', e2⟩
  · obtain ⟨o', e1⟩ := I.base.there b o e hx
    exact free b o' (neC b o e hx) e1 (I.base.free b o e n hx)
  · obtain ⟨o', e1⟩ := I.base.there b o e hx
    exact there b o' (neC b o e hx) e1
  · obtain ⟨m1, e1⟩ := I.base.tbls b ps e
    obtain ⟨m2, e2⟩ := tbls b _ e1
    exact ⟨m1 ++ m2, by rw [e2, Array.append_assoc]⟩
  · obtain ⟨m, hn, hl⟩ := I.loc
    refine ⟨m, ns m hn, fun i x v e1 e2 e3 => ?_⟩
    obtain ⟨u, r, l⟩ := hl i x v e1 e2 e3
    refine ⟨u, r, ?_⟩
    rcases l with l | ⟨k, c, e, z⟩
    · exact .inl l
    · exact .inr ⟨k, c, e, cellK x c e _ z⟩
  · obtain ⟨v, z⟩ := I.cell x c e
    exact ⟨v, cellK x c e v z⟩
  · obtain ⟨m, ⟨o, _, _, ho, _⟩, _⟩ := I.loc
    exact free _ o (fun z => (hch _ z).2.1 rfl) ho I.free
  · obtain ⟨v, o, ho, hd⟩ := I.cell x c e
    exact free c o (fun z => (hch c z).2.2.1 x c e rfl) ho (I.freeC x c e)
  · obtain ⟨e, n, ne, nf, d⟩ := I.pin p hp
    have nch : p.1 ∉ ch := fun z => (hch p.1 z).2.2.2 p hp rfl
    exact ⟨keep p.1 p.2 ne nf nch e n, free p.1 p.2 nch e n, ne, nf, d⟩
/-- .. where the frame's own object is kept too -/
theorem Inv.un {t' : Nat} (I : Inv X pins σ H s) (u : Un X.fs [] H H' s.heap h') (hok : HOk X.prog X.w H' h') : Inv X pins σ H' { s with heap := h', toks := t' } := by
  obtain ⟨m, ⟨o, es, ep, ho, r⟩, _⟩ := id I.loc
  obtain ⟨sl, hL⟩ := u.any ho I.free (by simp)
  exact I.step (g' := s.gens) (d' := s.drawn) (ch := []) (fun _ z => nomatch z) (fun b o _ hb _ e n => u.keep b o e n hb (by simp)) (fun b o _ hb _ e n => u.slot b o e n hb (by simp)) (fun b o _ e n => u.free b o e n (by simp)) (fun b o _ e => u.there b o e (by simp)) u.tups u.frzs u.tbls (fun m' hm => by
    obtain ⟨o', es', ep', ho', r'⟩ := hm
    rw [ho] at ho'; cases ho'
    exact ⟨_, es', ep', hL, r'⟩) hok I.bare
/-- behind a call (or a comprehension's block): the slots of this frame may have changed too, the records at ch may have turned -/
theorem Inv.call {g' : Array GenState} {t' : Nat} {d' : Drawn} {ch : List Addr} (I : Inv X pins σ H s) (u : Un (frs X.stack) ch H H' s.heap h') (hok : HOk X.prog X.w H' h') (hg : AllBare g')
    (hch : ∀ b ∈ ch, (b ∈ X.ex ∨ X.s₀.heap.objs.size ≤ b) ∧ b ≠ X.env.locals ∧ (∀ x c, X.env.cells.lookup x = some c → c ≠ b) ∧ ∀ p ∈ X.pn ++ pins, p.1 ≠ b) :
    Inv X pins σ H' { s with heap := h', gens := g', drawn := d', toks := t' } := by
  obtain ⟨m, ⟨o, es, ep, ho, r⟩, _⟩ := id I.loc
  obtain ⟨sl, hL⟩ := u.any ho I.free fun z => (hch _ z).2.1 rfl
  exact I.step (ch := ch) hch (fun b o hL hb hc e n => u.keep b o e n (fun z => (List.mem_cons.mp (I.stkSub b z)).elim hL hb) hc) (fun b o _ _ hc e n => u.any e n hc) (fun b o hc e n => u.free b o e n hc) (fun b o hc e => u.there b o e hc) u.tups u.frzs u.tbls (fun m' hm => by
    obtain ⟨o', es', ep', ho', r'⟩ := hm
    rw [ho] at ho'; cases ho'
    exact ⟨_, es', ep', hL, r'⟩) hok hg
/-- an untracked record of ours (an iterator) has turned -/
theorem Inv.turned {t' : Nat} {it : Addr} (I : Inv X pins σ H s) (k : ∀ b o, b ≠ it → s.heap.get? b = some o → h'.get? b = some o) (hn : H it = none) (hL : it ≠ X.env.locals)
    (h1 : it ∈ X.ex ∨ X.s₀.heap.objs.size ≤ it) (h2 : ∀ x c, X.env.cells.lookup x = some c → c ≠ it) (h3 : ∀ p ∈ X.pn ++ pins, p.1 ≠ it) : Inv X pins σ H { s with heap := h', toks := t' } := by
  have nit : ∀ b u, H b = some u → b ≠ it := fun b u e z => by rw [z, hn] at e; cases e
  refine I.step (g' := s.gens) (d' := s.drawn) (ch := [it]) (fun b hb => ?_) (fun b o _ _ hc e _ => k b o (fun z => hc (by simp [z])) e) (fun b o _ _ hc e _ => ⟨o.slots, k b o (fun z => hc (by simp [z])) e⟩) (fun _ _ _ _ n => n)
    (fun b o hc e => ⟨o, k b o (fun z => hc (by simp [z])) e⟩) (fun _ _ e => e) (fun _ _ _ e => e) (fun b ps e => ⟨#[], by rw [e]; simp⟩) (fun m hm => ?_) (fun b u e => ?_) I.bare
  · have e : b = it := by simpa using hb
    subst e
    exact ⟨h1, hL, h2, h3⟩
  · obtain ⟨o, es, ep, ho, r⟩ := hm
    exact ⟨o, es, ep, k _ o (Ne.symm hL) ho, r⟩
  · refine (I.hok b u e).stay (fun c v hc q => k c v ?_ q) (fun _ q => q) fun _ _ q => q
    rcases hc with z | z
    · rw [z]; exact nit b u e
    · exact nit c _ z
theorem Inv.tok (I : Inv X pins σ H s) (t : Nat) : Inv X pins σ H { s with toks := t } := I.un (h' := s.heap) (t' := t) Un.refl I.hok
/-- all objects kept -/
theorem Inv.kept {t' : Nat} (I : Inv X pins σ H s) (k : ∀ b u, s.heap.get? b = some u → h'.get? b = some u) : Inv X pins σ H { s with heap := h', toks := t' } := I.un (Un.kept k) (I.hok.kept k)
/-- a new object laid and tracked -/
theorem Inv.laid {a : Addr} {o : HO} {t' : Nat} (I : Inv X pins σ H s) (k : ∀ b u, s.heap.get? b = some u → h'.get? b = some u) (hp : s.heap.objs.size ≤ a) (new : ObjOk X.prog X.w (upd H a o) h' a o) :
    Inv X pins σ (upd H a o) { s with heap := h', toks := t' } := I.un (Un.laid k hp (I.hok.fresh hp)) (I.hok.laid k hp new)
/-- an object written -/
theorem Inv.write {x e : Addr} {o : HO} {t' : Nat} (I : Inv X pins σ H s) (mu : Mut (H x)) (he : e = x ∨ H e = some (.own x)) (k : ∀ b u, b ≠ e → s.heap.get? b = some u → h'.get? b = some u) (heo : ∃ u, h'.get? e = some u)
    (new : ObjOk X.prog X.w (upd H x o) h' x o) : Inv X pins σ (upd H x o) { s with heap := h', toks := t' } := I.un (Un.write mu he k heo) (I.hok.write mu he k heo new)
theorem Inv.pins_of {pins' : List (Addr × Obj)} (I : Inv X pins σ H s) (h : ∀ p ∈ pins', s.heap.get? p.1 = some p.2 ∧ H p.1 = none ∧ p.1 ≠ X.env.locals ∧ p.1 ∉ X.fs ∧ ∀ v, p.2.data ≠ .cell v) : Inv X pins' σ H s :=
  ⟨I.ok, I.os, I.bare, I.base, I.loc, I.cell, I.free, I.freeC, fun p hp => (List.mem_append.mp hp).elim (fun z => I.pin p (List.mem_append_left _ z)) (h p), I.hok, I.len⟩

theorem nodup_ix {N : List Str} (hN : N.Nodup) {i j : Nat} {x : Str} (a : N[i]? = some x) (b : N[j]? = some x) : i = j := by
  obtain ⟨h1, e1⟩ := List.getElem?_eq_some_iff.mp a
  obtain ⟨h2, e2⟩ := List.getElem?_eq_some_iff.mp b
  exact (List.getElem_inj hN).mp (e1.trans e2.symm)

/-- a name is stored; what changed -/
theorem store_ok2 {M : Model} {A : Around} {E : Value → Shared → Prop} {i : Nat} {x : Str} {v : V} {u : Value} {Q : Unit → Shared → Prop} (I : Inv X pins σ H s) (hN : X.N.Nodup) (hi : X.N[i]? = some x) (hx : Loc X.env.scope x) (r : RelV v u)
    (h : ∀ s', Inv X pins (σ.set i (some v)) H s' → (∃ a, Heap.SameBut a s.heap s'.heap ∧ (a = X.env.locals ∨ X.env.cells.lookup x = some a)) → Q () s') (hf : X.fn x = true ∨ X.env.scope.names.lookup x = some .local := by first | exact .inl rfl | exact .inr rfl | assumption) : wpAny M A (storeName X.env x u) Q E s := by
  obtain ⟨m, hn, hl⟩ := id I.loc
  have hcls : (X.env.scope.kind == .class || (X.env.scope.kind == .module && X.env.locals != X.env.globals)) = false := by rw [I.ok.kind]; rfl
  have hiσ : i < σ.length := by rw [I.len]; exact (List.getElem?_eq_some_iff.mp hi).1
  have cne := I.cne
  have tracked : ∀ {a : Addr} {h' : Heap}, (∃ o, s.heap.get? a = some o ∧ H a = none) → Heap.SameBut a s.heap h' → HOk X.prog X.w H h' := fun {a h'} ha hs b ob e => by
    obtain ⟨_, _, hfree⟩ := ha
    refine (I.hok b ob e).stay (fun c w' hc q => (hs.2 c ?_).trans q) (fun _ q => q) fun _ _ q => q
    rintro rfl
    rcases hc with rfl | hc
    · rw [hfree] at e; cases e
    · rw [hfree] at hc; cases hc
  rcases hx with hk | hk
  · refine wpAny_storeName_local hk hn (fun h' hn' hs => ?_) hcls
    obtain ⟨oL, _, _, hoL, _⟩ := id hn
    refine h _ ⟨I.ok, I.os, I.bare, ⟨fun b o e n hb hx => ?_, fun b o e n hb hx => ?_, I.base.free, fun b o e hx => ?_, I.base.tups, I.base.frzs, I.base.tbls⟩, ⟨_, hn', fun j y v' e1 e2 e3 => ?_⟩, fun y c e => ?_, I.free, I.freeC, fun p hp => ?_, tracked ⟨oL, hoL, I.free⟩ hs, by simpa using I.len⟩ ⟨_, hs, .inl rfl⟩
    · exact (hs.2 b (Nat.ne_of_lt (Nat.lt_of_lt_of_le (Heap.lt_size e) I.ok.above))).trans (I.base.keep b o e n hb hx)
    · obtain ⟨sl, e1⟩ := I.base.slot b o e n hb hx
      exact ⟨sl, (hs.2 b (Nat.ne_of_lt (Nat.lt_of_lt_of_le (Heap.lt_size e) I.ok.above))).trans e1⟩
    · obtain ⟨o', e1⟩ := I.base.there b o e hx
      exact ⟨o', (hs.2 b (Nat.ne_of_lt (Nat.lt_of_lt_of_le (Heap.lt_size e) I.ok.above))).trans e1⟩
    · by_cases hj : j = i
      · subst hj
        rw [hi] at e1; cases e1
        rw [List.getElem?_set_self hiσ] at e2
        cases e2
        exact ⟨u, r, .inl ⟨hk, by simp⟩⟩
      · rw [List.getElem?_set_ne (Ne.symm hj)] at e2
        obtain ⟨u', r', q⟩ := hl j y v' e1 e2 e3
        refine ⟨u', r', ?_⟩
        rcases q with ⟨k, e⟩ | ⟨k, c, e, z⟩
        · refine .inl ⟨k, ?_⟩
          have : y ≠ x := fun e => hj (nodup_ix hN e1 (e ▸ hi))
          simp [this, e]
        · exact .inr ⟨k, c, e, z.sameBut hs (cne y c e)⟩
    · obtain ⟨w', z⟩ := I.cell y c e
      exact ⟨w', z.sameBut hs (cne y c e)⟩
    · obtain ⟨e, n, ne, nf, d⟩ := I.pin p hp
      exact ⟨(hs.2 p.1 ne).trans e, n, ne, nf, d⟩
  · have hfn : X.fn x = true := by
      rcases hf with z | z
      · exact z
      · rw [z] at hk; cases hk
    obtain ⟨c, hc⟩ := I.ok.has x (.inl hk)
    obtain ⟨w', z⟩ := I.cell x c hc
    refine wpAny_storeName_cell I.ok.kind hk hc z (fun h' hc' hs => ?_)
    obtain ⟨oc, hoc, hocd⟩ := id z
    refine h { s with heap := h' } ⟨I.ok, I.os, I.bare, ⟨fun b o e n hb hx => ?_, fun b o e n hb hx => ?_, I.base.free, fun b o e hx => ?_, I.base.tups, I.base.frzs, I.base.tbls⟩, ⟨m, hn.sameBut hs (Ne.symm (cne x c hc)), fun j y v' e1 e2 e3 => ?_⟩, fun y c' e => ?_, I.free, I.freeC, fun p hp => ?_, tracked ⟨oc, hoc, I.freeC x c hc⟩ hs, by simpa using I.len⟩ ⟨c, hs, .inr hc⟩
    · exact (hs.2 b (Nat.ne_of_lt (Nat.lt_of_lt_of_le (Heap.lt_size e) (I.ok.cab x c hfn hc)))).trans (I.base.keep b o e n hb hx)
    · obtain ⟨sl, e1⟩ := I.base.slot b o e n hb hx
      exact ⟨sl, (hs.2 b (Nat.ne_of_lt (Nat.lt_of_lt_of_le (Heap.lt_size e) (I.ok.cab x c hfn hc)))).trans e1⟩
    · obtain ⟨o', e1⟩ := I.base.there b o e hx
      exact ⟨o', (hs.2 b (Nat.ne_of_lt (Nat.lt_of_lt_of_le (Heap.lt_size e) (I.ok.cab x c hfn hc)))).trans e1⟩
    · by_cases hj : j = i
      · subst hj
        rw [hi] at e1; cases e1
        rw [List.getElem?_set_self hiσ] at e2
        cases e2
        exact ⟨u, r, .inr ⟨.inl hk, c, hc, hc'⟩⟩
      · rw [List.getElem?_set_ne (Ne.symm hj)] at e2
        obtain ⟨u', r', q⟩ := hl j y v' e1 e2 e3
        refine ⟨u', r', ?_⟩
        rcases q with q | ⟨k, c', e, z'⟩
        · exact .inl q
        · refine .inr ⟨k, c', e, z'.sameBut hs ?_⟩
          rintro rfl
          exact hj (nodup_ix hN e1 (I.ok.inj _ _ _ e hc ▸ hi))
    · by_cases hcc : c' = c
      · subst hcc; exact ⟨_, hc'⟩
      · obtain ⟨w2, z2⟩ := I.cell y c' e
        exact ⟨w2, z2.sameBut hs hcc⟩
    · obtain ⟨e, n, ne, nf, d⟩ := I.pin p hp
      refine ⟨(hs.2 p.1 ?_).trans e, n, ne, nf, d⟩
      intro q
      rw [q, hoc] at e
      have q' : oc = p.2 := Option.some.inj e
      exact d w' (by rw [← q']; exact hocd)
theorem store_ok {M : Model} {A : Around} {E : Value → Shared → Prop} {i : Nat} {x : Str} {v : V} {u : Value} {Q : Unit → Shared → Prop} (I : Inv X pins σ H s) (hN : X.N.Nodup) (hi : X.N[i]? = some x) (hx : Loc X.env.scope x) (r : RelV v u)
    (h : ∀ s', Inv X pins (σ.set i (some v)) H s' → Q () s') (hf : X.fn x = true ∨ X.env.scope.names.lookup x = some .local := by first | exact .inl rfl | exact .inr rfl | assumption) : wpAny M A (storeName X.env x u) Q E s :=
  store_ok2 I hN hi hx r (fun s' I' _ => h s' I') hf
/-- behind a call or a block, the state as it is -/
theorem Inv.call' {s' : Shared} {ch : List Addr} (I : Inv X pins σ H s) (ho : s'.os = s.os) (u : Un (frs X.stack) ch H H' s.heap s'.heap) (hok : HOk X.prog X.w H' s'.heap) (hg : AllBare s'.gens)
    (hch : ∀ b ∈ ch, (b ∈ X.ex ∨ X.s₀.heap.objs.size ≤ b) ∧ b ≠ X.env.locals ∧ (∀ x c, X.env.cells.lookup x = some c → c ≠ b) ∧ ∀ p ∈ X.pn ++ pins, p.1 ≠ b) : Inv X pins σ H' s' := by
  obtain ⟨h', g', d', t', o'⟩ := s'
  have e : o' = s.os := ho
  subst e
  exact I.call (g' := g') (t' := t') (d' := d') u hok hg hch
end

/-! ### the judgements -/
/-- an exception: its class, its own dict's address (where it has one), the abstract heap behind it -/
abbrev XK := Value → Option Addr → Hp → Prop
abbrev St := List (Option V)
abbrev VK := V → Hp → Prop
/-- an expression's reading; a test's; an argument list's -/
abbrev TE := St → Hp → VK → Prop
abbrev TT := St → Hp → (Bool → Hp → Prop) → Prop
abbrev TA := St → Hp → (List V → Hp → Prop) → Prop
/-- what is wanted behind a statement -/
structure Ends where
  nx : St → Hp → Prop
  rt : VK
  bk : St → Hp → Prop := fun _ _ => False
  ct : St → Hp → Prop := fun _ _ => False
abbrev TS := Ends → St → Hp → Prop

def EP (X : Cx) (pins : List (Addr × Obj)) (σ : St) (Q : VK) (u : Value) (s' : Shared) : Prop := ∃ v H', Inv X pins σ H' s' ∧ RelV v u ∧ Q v H'
def TP (X : Cx) (pins : List (Addr × Obj)) (σ : St) (Q : Bool → Hp → Prop) (b : Bool) (s' : Shared) : Prop := ∃ H', Inv X pins σ H' s' ∧ Q b H'
def AP (X : Cx) (pins : List (Addr × Obj)) (σ : St) (Q : List V → Hp → Prop) (us : List Value) (s' : Shared) : Prop := ∃ vs H', Inv X pins σ H' s' ∧ Vals vs us ∧ Q vs H'
def SP (X : Cx) (pins : List (Addr × Obj)) (D : Ends) (f : Flow) (s' : Shared) : Prop :=
  match f with
  | .next => ∃ σ' H', Inv X pins σ' H' s' ∧ D.nx σ' H'
  | .brk => ∃ σ' H', Inv X pins σ' H' s' ∧ D.bk σ' H'
  | .cont => ∃ σ' H', Inv X pins σ' H' s' ∧ D.ct σ' H'
  | .ret u => ∃ v σ' H', Inv X pins σ' H' s' ∧ RelV v u ∧ D.rt v H'

def PE (X : Cx) (e : Expr) (t : TE) : Prop :=
  ∀ (pins : List (Addr × Obj)) (s : Shared) (σ : St) (H : Hp) (Q : VK), Inv X pins σ H s → t σ H Q → wpAny (model X.prog X.w) X.A (eval e X.env) (EP X pins σ Q) X.xe s
def PT (X : Cx) (e : Expr) (t : TT) : Prop :=
  ∀ (pins : List (Addr × Obj)) (s : Shared) (σ : St) (H : Hp) (Q : Bool → Hp → Prop), Inv X pins σ H s → t σ H Q → wpAny (model X.prog X.w) X.A (isTrue e X.env (eval e X.env)) (TP X pins σ Q) X.xe s
/-- a test whatever its 'whole' is (and, or) -/
def PW (X : Cx) (e : Expr) (t : TT) : Prop :=
  ∀ (whole : Sem Value) (pins : List (Addr × Obj)) (s : Shared) (σ : St) (H : Hp) (Q : Bool → Hp → Prop), Inv X pins σ H s → t σ H Q → wpAny (model X.prog X.w) X.A (isTrue e X.env whole) (TP X pins σ Q) X.xe s
theorem PW.pt {X : Cx} {e : Expr} {t : TT} (h : PW X e t) : PT X e t := h _
/-- an argument list (no star), from the left -/
def PA (X : Cx) (es : List Expr) (t : TA) : Prop :=
  ∀ (pos : Pos) (pins : List (Addr × Obj)) (s : Shared) (σ : St) (H : Hp) (Q : List V → Hp → Prop), Inv X pins σ H s → t σ H Q → wpAny (model X.prog X.w) X.A (spliced (backTo pos (starEach es X.env))) (AP X pins σ Q) X.xe s
def PS (X : Cx) (st : Stmt) (t : TS) : Prop :=
  ∀ (pins : List (Addr × Obj)) (s : Shared) (σ : St) (H : Hp) (D : Ends), Inv X pins σ H s → t D σ H → wpAny (model X.prog X.w) X.A (exec st X.env) (SP X pins D) X.xe s
def PSs (X : Cx) (st : List Stmt) (t : TS) : Prop :=
  ∀ (pins : List (Addr × Obj)) (s : Shared) (σ : St) (H : Hp) (D : Ends), Inv X pins σ H s → t D σ H → wpAny (model X.prog X.w) X.A (execs st X.env) (SP X pins D) X.xe s
/-- weaken the end -/
theorem thn {α : Type} {t : Sem α} {Q Q' : α → Shared → Prop} {M : Model} {A : Around} {E : Value → Shared → Prop} {s : Shared} (h : wpAny M A t Q E s) (hQ : ∀ a s, Q a s → Q' a s) : wpAny M A t Q' E s := wpAny_mono h hQ fun _ _ x => x
end L2

namespace L2
open PySem PySem.Spec PyProof.Rows
section
variable {X : Cx}

/-- two expressions in a row -/
theorem bin {a b : Expr} {ta tb : TE} (ha : PE X a ta) (hb : PE X b tb) {pins : List (Addr × Obj)} {s : Shared} {σ : St} {H : Hp} {R : V → V → Hp → Prop} (I : Inv X pins σ H s) (h : ta σ H fun x H1 => tb σ H1 fun y H2 => R x y H2)
    {α : Type} {Q : α → Shared → Prop} {f : Value → Value → Sem α}
    (hf : ∀ v u s2 x y H2, Inv X pins σ H2 s2 → RelV x v → RelV y u → R x y H2 → wpAny (model X.prog X.w) X.A (f v u) Q X.xe s2) :
    wpAny (model X.prog X.w) X.A (eval a X.env) (fun v s₁ => wpAny (model X.prog X.w) X.A (eval b X.env) (fun u s₂ => wpAny (model X.prog X.w) X.A (f v u) Q X.xe s₂) X.xe s₁) X.xe s := by
  refine thn (ha pins s σ H _ I h) fun v s1 ⟨x, H1, I1, r1, q1⟩ => ?_
  refine thn (hb pins s1 σ H1 _ I1 q1) fun u s2 ⟨y, H2, I2, r2, q2⟩ => ?_
  exact hf v u s2 x y H2 I2 r1 r2 q2

/-! ### names and constants -/
def tVar (i : Nat) : TE := fun σ H Q => ∃ v, σ[i]? = some (some v) ∧ Q v H
def tC (v : V) : TE := fun _ H Q => Q v H
theorem pe_var {i : Nat} {x : Str} {pos : Pos} (hN : X.N[i]? = some x) (hv : Vis X.env.scope x) (hd : (x == ("__debug__" : Str)) = false := by decide) (hcd : (x == ("__classdict__" : Str)) = false := by decide) : PE X (.Name x pos) (tVar i) := by
  intro pins s σ H Q I h
  obtain ⟨v, e, h⟩ := h
  obtain ⟨m, hn, hl⟩ := I.loc
  obtain ⟨u, r, l⟩ := hl i x v hN e hv
  have fin : EP X pins σ Q u s := ⟨v, H, I, r, h⟩
  rcases l with ⟨hk, hm⟩ | ⟨hk, c, hc, hcell⟩
  · exact wpAny_Name (wpAny_loadName_local I.ok.kind hk hn hm fin) hd
  · rcases hk with hk | hk
    · exact wpAny_Name (wpAny_loadName_cell I.ok.kind hk hc hcell fin) hd
    · exact wpAny_Name (wpAny_loadName_free I.ok.kind hk hc hcell fin hcd) hd
theorem pe_int {i j pos} : PE X (.Constant (.int i) j pos) (tC (.int i)) := fun _ _ _ H _ I h => wpAny_Constant_int ⟨.int i, H, I.tok _, ⟨_, rfl⟩, h⟩
theorem pe_bl {b j pos} : PE X (.Constant (.bool b) j pos) (tC (.bl b)) := fun _ _ _ H _ I h => Constant_bool ⟨.bl b, H, I, rfl, h⟩
theorem pe_non {j pos} : PE X (.Constant .none j pos) (tC .non) := fun _ _ _ H _ I h => Constant_none ⟨.non, H, I, rfl, h⟩
theorem pe_str {x j pos} : PE X (.Constant (.str x) j pos) (tC (.str x)) := fun _ _ _ H _ I h => Calls.Constant_str ⟨.str x, H, I.tok _, ⟨_, rfl⟩, h⟩

/-- a global name of the def -/
def Gl (X : Cx) (x : Str) : Prop := X.env.kindOf x = some .globalImplicit
theorem ld_glob {E : Value → Shared → Prop} {pins : List (Addr × Obj)} {s : Shared} {σ : St} {H : Hp} {x : Str} {u : Value} {pos : Pos} {Q : Value → Shared → Prop} (I : Inv X pins σ H s) (hg : Gl X x) (hm : X.mg x = some u) (h : Q u s)
    (hd : (x == ("__debug__" : Str)) = false := by decide) : wpAny (model X.prog X.w) X.A (eval (.Name x pos) X.env) Q E s :=
  Calls.Name_function_global I.ok.kind hg (Calls.loadGlobal_global (by rw [I.ok.glob]; exact I.mod.glob.keeps I.bk) hm h) hd
theorem ld_blt {E : Value → Shared → Prop} {pins : List (Addr × Obj)} {s : Shared} {σ : St} {H : Hp} {x : Str} {u : Value} {pos : Pos} {Q : Value → Shared → Prop} (I : Inv X pins σ H s) (hg : Gl X x) (hm : X.mg x = none) (hv : bootBuiltins x = some u) (h : Q u s)
    (hn : x ≠ "__name__" := by decide) (hd : (x == ("__debug__" : Str)) = false := by decide) : wpAny (model X.prog X.w) X.A (eval (.Name x pos) X.env) Q E s := by
  obtain ⟨mb, h1, h2⟩ := I.mod.blt
  exact Calls.Name_function_global I.ok.kind hg (Calls.loadGlobal_builtin (by rw [I.ok.glob]; exact I.mod.glob.keeps I.bk) hm (by rw [I.ok.blt]; exact h1.keeps I.bk) ((h2 x hn).trans hv) h) hd
/-- a module's constant, a class, a function, as a value -/
theorem pe_glob {x : Str} {v : V} {u : Value} {pos : Pos} (hg : Gl X x) (hm : X.mg x = some u) (r : RelV v u) (hd : (x == ("__debug__" : Str)) = false := by decide) : PE X (.Name x pos) (tC v) :=
  fun _ _ _ H _ I h => ld_glob I hg hm ⟨v, H, I, r, h⟩ hd
theorem pe_bltn {x : Str} {v : V} {u : Value} {pos : Pos} (hg : Gl X x) (hm : X.mg x = none) (hv : bootBuiltins x = some u) (r : RelV v u) (hn : x ≠ "__name__" := by decide) (hd : (x == ("__debug__" : Str)) = false := by decide) : PE X (.Name x pos) (tC v) :=
  fun _ _ _ H _ I h => ld_blt I hg hm hv ⟨v, H, I, r, h⟩ hn hd

/-! ### arithmetic -/
variable {a b : Expr} {ta tb : TE} {pos : Pos}
/-! ### comparisons -/
def PC (X : Cx) (op : CmpOp) (a b : Expr) (t : TE) : Prop :=
  ∀ (pins : List (Addr × Obj)) (s : Shared) (σ : St) (H : Hp) (Q : VK), Inv X pins σ H s → t σ H Q →
    wpAny (model X.prog X.w) X.A (eval a X.env) (fun v s₁ => wpAny (model X.prog X.w) X.A (eval b X.env) (fun u s₂ => wpAny (model X.prog X.w) X.A (compareOp op v u) (EP X pins σ Q) X.xe s₂) X.xe s₁) X.xe s
/-- a comparison as a value, as a test -/
def tB (t : TE) : TT := fun σ H Q => t σ H fun x H1 => ∃ c, x = .bl c ∧ Q c H1
theorem pt_cmp {op : CmpOp} {t : TE} (h : PC X op a b t) (h1 : behindInMarks op b = false := by first | exact nobehind _ (by decide) (by decide) | rfl) : PT X (.Compare a [op] [b] pos) (tB t) := by
  intro pins s σ H Q I hw
  refine wpAny_isTrue_Compare1 (thn (h pins s σ H _ I hw) fun v s1 h1 => thn h1 fun u s2 h2 => thn h2 fun c s3 ⟨x, H1, I1, r1, q1⟩ => ?_) h1
  obtain ⟨d, rfl, q⟩ := q1
  cases r1
  exact wpAny_truthy_bool ⟨H1, I1, q⟩
/-- an expression whose value is a bool, as a test -/
theorem pt_val {e : Expr} {t : TE} (h : PE X e t) (he : ∀ whole, isTrue e X.env whole = (do let v ← whole; standAt e.pos; holding [v] (truthy v)) := by intro _; rfl) : PT X e (tB t) := by
  intro pins s σ H Q I hw
  refine isTrue_plain (thn (h pins s σ H _ I hw) fun v s1 ⟨x, H1, I1, r1, q1⟩ => ?_) (he _)
  obtain ⟨d, rfl, q⟩ := q1
  cases r1
  exact wpAny_truthy_bool ⟨H1, I1, q⟩

/-! ### and, or, not -/
variable {tA tB' : TT} {rest : List Expr}
def tAnd (t u : TT) : TT := fun σ H Q => t σ H fun c H1 => if c = true then u σ H1 Q else Q false H1
def tOr (t u : TT) : TT := fun σ H Q => t σ H fun c H1 => if c = true then Q true H1 else u σ H1 Q
def tNot (t : TT) : TT := fun σ H Q => t σ H fun c H1 => Q (!c) H1
theorem pw_and1 (ha : PT X a tA) : PW X (.BoolOp .And [a] pos) tA := by
  intro wh pins s σ H Q I h
  refine isTrue_and (thn (ha pins s σ H Q I h) fun c s1 e => ?_)
  cases c with
  | true => exact isTrue_and_nil e
  | false => exact e
theorem pw_or1 (ha : PT X a tA) : PW X (.BoolOp .Or [a] pos) tA := by
  intro wh pins s σ H Q I h
  refine isTrue_or (thn (ha pins s σ H Q I h) fun c s1 e => ?_)
  cases c with
  | false => exact isTrue_or_nil e
  | true => exact e
theorem pw_and (ha : PT X a tA) (hb : PW X (.BoolOp .And (b :: rest) pos) tB') : PW X (.BoolOp .And (a :: b :: rest) pos) (tAnd tA tB') := by
  intro wh pins s σ H Q I h
  refine isTrue_and (thn (ha pins s σ H _ I h) fun c s1 ⟨H1, I1, q1⟩ => ?_)
  cases c with
  | true => exact hb wh pins s1 σ H1 Q I1 q1
  | false => exact ⟨H1, I1, q1⟩
theorem pw_or (ha : PT X a tA) (hb : PW X (.BoolOp .Or (b :: rest) pos) tB') : PW X (.BoolOp .Or (a :: b :: rest) pos) (tOr tA tB') := by
  intro wh pins s σ H Q I h
  refine isTrue_or (thn (ha pins s σ H _ I h) fun c s1 ⟨H1, I1, q1⟩ => ?_)
  cases c with
  | true => exact ⟨H1, I1, q1⟩
  | false => exact hb wh pins s1 σ H1 Q I1 q1
theorem pt_not (ha : PT X a tA) : PT X (.UnaryOp .Not a pos) (tNot tA) := by
  intro pins s σ H Q I h
  exact isTrue_not (ha pins s σ H (fun c H1 => Q (!c) H1) I h)
/-- .. as values (bools) -/
def tAndV (ta tb : TE) : TE := fun σ H Q => ta σ H fun x H1 => ∃ c, x = .bl c ∧ if c = true then tb σ H1 Q else Q (.bl false) H1
def tNotV (ta : TE) : TE := fun σ H Q => ta σ H fun x H1 => ∃ c, x = .bl c ∧ Q (.bl (!c)) H1
theorem pe_one {op} {t : TE} (h : PE X a t) : PE X (.BoolOp op [a] pos) t := fun pins s σ H Q I hw => BoolOp_one (h pins s σ H Q I hw)
theorem pe_and (ha : PE X a ta) (hb : PE X (.BoolOp .And (b :: rest) pos) tb) : PE X (.BoolOp .And (a :: b :: rest) pos) (tAndV ta tb) := by
  intro pins s σ H Q I h
  refine BoolOp_and (thn (ha pins s σ H _ I h) fun v s1 ⟨x, H1, I1, r1, q1⟩ => ?_)
  obtain ⟨c, rfl, q1⟩ := q1
  cases r1
  refine wpAny_truthy_bool ?_
  cases c with
  | true => exact hb pins s1 σ H1 Q I1 q1
  | false => exact ⟨.bl false, H1, I1, rfl, q1⟩
theorem pe_not (ha : PE X a ta) : PE X (.UnaryOp .Not a pos) (tNotV ta) := by
  intro pins s σ H Q I h
  refine UnaryOp_ (thn (ha pins s σ H _ I h) fun v s1 ⟨x, H1, I1, r1, q1⟩ => ?_)
  obtain ⟨c, rfl, q1⟩ := q1
  cases r1
  exact not_of (wpAny_truthy_bool ⟨.bl (!c), H1, I1, rfl, q1⟩)
end
end L2

namespace L2
open PySem PySem.Spec PyProof.Rows

/-! ### a list, a tuple that is read: tracked, frozen, or an object of the module -/
def SqL (K : PySem.W.Frag) (H : Hp) (a : Addr) (xs : List V) : Prop :=
  Rd H a (.lst xs) ∨
    ∃ (o : Obj) (its : Array Value) (n : Nat), K.lookup a = some o ∧ o.cls = .type "list" ∧ o.dict = none ∧ o.data = .seq its n ∧ its.size ≤ sizeLine ∧ Vals xs its.toList
def SqT (K : PySem.W.Frag) (H : Hp) (a : Addr) (xs : List V) : Prop :=
  Rd H a (.tup xs) ∨
    ∃ (o : Obj) (its : Array Value) (n : Nat), K.lookup a = some o ∧ o.cls = .type "tuple" ∧ o.data = .seq its n ∧ its.size ≤ sizeLine ∧ Vals xs its.toList
def absV : Value → Option V
  | .none => some .non
  | .bool b => some (.bl b)
  | .int i _ => some (.int i)
  | .str x _ => some (.str x)
  | .bytes b _ => some (.byt b)
  | .float b _ => some (.flt b)
  | .ref a => some (.ref a)
  | .type n => some (.ty n)
  | _ => none
theorem RelV.abs {x : V} {u : Value} (r : RelV x u) : absV u = some x := by
  cases x with
  | non => cases r; rfl
  | bl _ => cases r; rfl
  | int _ => obtain ⟨t, rfl⟩ := r; rfl
  | str _ => obtain ⟨t, rfl⟩ := r; rfl
  | byt _ => obtain ⟨t, rfl⟩ := r; rfl
  | flt _ => obtain ⟨t, rfl⟩ := r; rfl
  | ref _ => cases r; rfl
  | ty _ => cases r; rfl
theorem RelV.inj {x y : V} {u : Value} (r : RelV x u) (q : RelV y u) : x = y := Option.some.inj (r.abs.symm.trans q.abs)
theorem Vals.inj : ∀ {xs ys : List V} {us : List Value}, Vals xs us → Vals ys us → xs = ys
  | _, _, _, .nil, .nil => rfl
  | _, _, _, .cons r t, .cons r' t' => by rw [r.inj r', Vals.inj t t']
section
variable {X : Cx} {pins : List (Addr × Obj)} {σ : St} {H : Hp} {s : Shared} {a : Addr} {xs ys : List V}
theorem SqL.of {K : PySem.W.Frag} (h : H a = some (.lst xs)) : SqL K H a xs := .inl (.inl h)
theorem SqT.of {K : PySem.W.Frag} (h : H a = some (.tup xs)) : SqT K H a xs := .inl (.inl h)
theorem Inv.list (I : Inv X pins σ H s) (h : SqL X.K H a xs) : ∃ its : List Value, Vals xs its ∧ PlainL s.heap a its.toArray ∧ xs.length ≤ sizeLine := by
  rcases h with h | ⟨o, its, n, hk, hc, hd, hs, hz, r⟩
  · obtain ⟨z, its, n, r, e⟩ := h.ok I.hok
    exact ⟨its, r, ⟨_, n, e, rfl, rfl, rfl⟩, z⟩
  · refine ⟨its.toList, r, ⟨o, n, I.kIn a o hk, hc, hd, by simpa using hs⟩, ?_⟩
    have e := r.length
    simp only [Array.length_toList] at e
    omega
theorem Inv.tuple (I : Inv X pins σ H s) (h : SqT X.K H a xs) : ∃ its : List Value, Vals xs its ∧ IsTup s.heap a its.toArray ∧ xs.length ≤ sizeLine := by
  rcases h with h | ⟨o, its, n, hk, hc, hs, hz, r⟩
  · obtain ⟨z, its, r, p⟩ := h.ok I.hok
    exact ⟨its, r, p, z⟩
  · refine ⟨its.toList, r, ⟨o, I.kIn a o hk, hc, n, by simpa using hs⟩, ?_⟩
    have e := r.length
    simp only [Array.length_toList] at e
    omega
theorem Inv.list_inj (I : Inv X pins σ H s) (h : SqL X.K H a xs) (h' : SqL X.K H a ys) : xs = ys := by
  obtain ⟨its, r, ⟨o, n, e, _, _, d⟩, _⟩ := I.list h
  obtain ⟨its', r', ⟨o', n', e', _, _, d'⟩, _⟩ := I.list h'
  rw [e] at e'; cases e'
  rw [d] at d'
  injection d' with d1 _
  have : its = its' := by simpa using congrArg Array.toList d1
  subst this
  exact r.inj r'
theorem Inv.tuple_inj (I : Inv X pins σ H s) (h : SqT X.K H a xs) (h' : SqT X.K H a ys) : xs = ys := by
  obtain ⟨its, r, ⟨o, e, _, n, d⟩, _⟩ := I.tuple h
  obtain ⟨its', r', ⟨o', e', _, n', d'⟩, _⟩ := I.tuple h'
  rw [e] at e'; cases e'
  rw [d] at d'
  injection d' with d1 _
  have : its = its' := by simpa using congrArg Array.toList d1
  subst this
  exact r.inj r'
end

/-! ### another wish about exceptions -/
abbrev Cx.wish (X : Cx) (E : Value → Shared → Prop) : Cx := { X with xe := E }
/-- no exception leaves -/
abbrev Cx.nox (X : Cx) : Cx := X.wish fun _ _ => False
theorem Cx.Ok.wish {X : Cx} (ok : X.Ok) (E : Value → Shared → Prop) : (X.wish E).Ok :=
  ⟨ok.mod, ok.kind, ok.glob, ok.blt, ok.above, ok.inj, ok.has, ok.cab, ok.hd, ok.frames, ok.stk, ok.exf, ok.bs, ok.bsz, ok.noex, ok.exfs, ok.funs, ok.frf⟩
theorem Cx.Ok.unwish {X : Cx} {E : Value → Shared → Prop} (ok : (X.wish E).Ok) : X.Ok :=
  ⟨ok.mod, ok.kind, ok.glob, ok.blt, ok.above, ok.inj, ok.has, ok.cab, ok.hd, ok.frames, ok.stk, ok.exf, ok.bs, ok.bsz, ok.noex, ok.exfs, ok.funs, ok.frf⟩
section
variable {X : Cx} {pins : List (Addr × Obj)} {σ : St} {H : Hp} {s : Shared} {E : Value → Shared → Prop}
theorem Inv.wish (I : Inv X pins σ H s) (E : Value → Shared → Prop) : Inv (X.wish E) pins σ H s := ⟨I.ok.wish E, I.os, I.bare, I.base, I.loc, I.cell, I.free, I.freeC, I.pin, I.hok, I.len⟩
theorem Inv.unwish (I : Inv (X.wish E) pins σ H s) : Inv X pins σ H s := ⟨I.ok.unwish, I.os, I.bare, I.base, I.loc, I.cell, I.free, I.freeC, I.pin, I.hok, I.len⟩
theorem SP.unwish {D : Ends} {f : Flow} {s' : Shared} (h : SP (X.wish E) pins D f s') : SP X pins D f s' := by
  cases f with
  | next => obtain ⟨σ', H', I, q⟩ := h; exact ⟨σ', H', I.unwish, q⟩
  | brk => obtain ⟨σ', H', I, q⟩ := h; exact ⟨σ', H', I.unwish, q⟩
  | cont => obtain ⟨σ', H', I, q⟩ := h; exact ⟨σ', H', I.unwish, q⟩
  | ret u => obtain ⟨v, σ', H', I, r, q⟩ := h; exact ⟨v, σ', H', I.unwish, r, q⟩
theorem PSs.nox {st : List Stmt} {t : TS} (h : PSs X.nox st t) : PSs X st t := fun pins s σ H D I hw =>
  wpAny_mono (h pins s σ H D (I.wish _) hw) (fun _ _ q => q.unwish) fun _ _ z => False.elim z
end

/-! ### blocks and small statements -/
section
variable {X : Cx} {st : Stmt} {rest : List Stmt} {t u : TS} {e : Expr} {te : TE} {pos : Pos}
def tNext : TS := fun D σ H => D.nx σ H
def tSeq (t u : TS) : TS := fun D σ H => t { D with nx := u D } σ H
theorem pss_nil : PSs X [] tNext := fun _ _ σ H _ I h => wpAny_execs_nil ⟨σ, H, I, h⟩
theorem pss_cons (h1 : PS X st t) (h2 : PSs X rest u) : PSs X (st :: rest) (tSeq t u) := by
  intro pins s σ H D I h
  refine wpAny_execs_cons (thn (h1 pins s σ H { D with nx := u D } I h) fun f s1 q => ?_)
  cases f with
  | next =>
    obtain ⟨σ', H', I', q⟩ := q
    exact h2 pins s1 σ' H' D I' q
  | ret v => exact q
  | brk => exact q
  | cont => exact q
theorem pss_one (h1 : PS X st t) : PSs X [st] t := by
  intro pins s σ H D I h
  refine wpAny_execs_cons (thn (h1 pins s σ H D I h) fun f s1 q => ?_)
  cases f with
  | next => exact wpAny_execs_nil q
  | ret v => exact q
  | brk => exact q
  | cont => exact q
/-- in a def's body nothing is shown -/
theorem Inv.quiet {pins : List (Addr × Obj)} {σ : St} {H : Hp} {s : Shared} (I : Inv X pins σ H s) : interactive X.env = false := by simp [interactive, I.ok.kind]
/-- an expression whose value is dropped -/
def tDrop (te : TE) : TS := fun D σ H => te σ H fun _ H1 => D.nx σ H1
theorem ps_expr (he : PE X e te) (hs : swapsWith e none pos.line X.env = pure false := by rfl) : PS X (.Expr e pos) (tDrop te) := by
  intro pins s σ H D I h
  exact wpAny_Expr_any (thn (he pins s σ H _ I h) fun v s1 ⟨x, H1, I1, r1, q1⟩ => ⟨σ, H1, I1, q1⟩) I.quiet hs
def tRet (te : TE) : TS := fun D σ H => te σ H D.rt
theorem ps_ret (he : PE X e te) : PS X (.Return (some e) pos) (tRet te) := by
  intro pins s σ H D I h
  exact wpAny_Return_some (thn (he pins s σ H _ I h) fun v s1 ⟨x, H1, I1, r1, q1⟩ => ⟨x, σ, H1, I1, r1, q1⟩)
def tIfS (c : TT) (t u : TS) : TS := fun D σ H => c σ H fun b H1 => if b = true then t D σ H1 else u D σ H1
theorem ps_if {c : Expr} {a b : List Stmt} {tc : TT} (hc : PT X c tc) (ha : PSs X a t) (hb : PSs X b u) : PS X (.If c a b pos) (tIfS tc t u) := by
  intro pins s σ H D I h
  refine wpAny_If (thn (hc pins s σ H _ I h) fun d s1 ⟨H1, I1, q1⟩ => ?_)
  cases d with
  | true => exact ha pins s1 σ H1 D I1 q1
  | false => exact hb pins s1 σ H1 D I1 q1
end

/-! ### targets -/
abbrev TG := V → St → Hp → (St → Hp → Prop) → Prop
abbrev TGs := List V → St → Hp → (St → Hp → Prop) → Prop
def PG (X : Cx) (target : Expr) (t : TG) : Prop :=
  ∀ (pins : List (Addr × Obj)) (s : Shared) (σ : St) (H : Hp) (v : V) (u : Value) (Q : St → Hp → Prop), Inv X pins σ H s → RelV v u → t v σ H Q →
    wpAny (model X.prog X.w) X.A (assign target X.env u) (fun _ s' => ∃ σ' H', Inv X pins σ' H' s' ∧ Q σ' H') X.xe s
/-- several targets, one after another -/
def PGs (X : Cx) (ts : List Expr) (t : TGs) : Prop :=
  ∀ (pins : List (Addr × Obj)) (s : Shared) (σ : St) (H : Hp) (vs : List V) (us : List Value) (Q : St → Hp → Prop), Inv X pins σ H s → Vals vs us → t vs σ H Q →
    wpAny (model X.prog X.w) X.A (assignInOrder ((assignEach ts X.env).map (·.2)) us) (fun _ s' => ∃ σ' H', Inv X pins σ' H' s' ∧ Q σ' H') X.xe s
section
variable {X : Cx} {pos : Pos}
def gName (i : Nat) : TG := fun v σ H Q => Q (σ.set i (some v)) H
theorem pg_name {i : Nat} {x : Str} (hN : X.N.Nodup) (hi : X.N[i]? = some x) (hx : Loc X.env.scope x) (hf : X.fn x = true ∨ X.env.scope.names.lookup x = some .local := by first | exact .inl rfl | exact .inr rfl | assumption) : PG X (.Name x pos) (gName i) := by
  intro pins s σ H v u Q I r h
  exact wpAny_assign_Name (store_ok I hN hi hx r (fun s' I' => ⟨_, H, I', h⟩) hf)
def gNil : TGs := fun vs σ H Q => vs = [] ∧ Q σ H
def gCons (t : TG) (u : TGs) : TGs := fun vs σ H Q => ∃ v r, vs = v :: r ∧ t v σ H fun σ' H' => u r σ' H' Q
theorem pgs_nil : PGs X [] gNil := by
  intro pins s σ H vs us Q I r h
  obtain ⟨e, h⟩ := h
  subst e
  cases r
  exact assignInOrder_nil ⟨σ, H, I, h⟩
theorem pgs_cons {e : Expr} {es : List Expr} {t : TG} {u : TGs} (h1 : PG X e t) (h2 : PGs X es u)
    (hs : (assignEach (e :: es) X.env).map (·.2) = assign e X.env :: (assignEach es X.env).map (·.2) := by rfl) : PGs X (e :: es) (gCons t u) := by
  intro pins s σ H vs us Q I r h
  obtain ⟨v, vr, e1, h⟩ := h
  subst e1
  cases r with
  | cons r rr =>
    rw [hs]
    refine assignInOrder_cons (thn (h1 pins s σ H _ _ _ I r h) fun _ s1 ⟨σ1, H1, I1, q1⟩ => ?_)
    exact h2 pins s1 σ1 H1 _ _ Q I1 rr q1
/-- (a, b, ..) = a tuple of that length -/
def gTup (K : PySem.W.Frag) (n : Nat) (t : TGs) : TG := fun v σ H Q => ∃ a xs, v = .ref a ∧ SqT K H a xs ∧ xs.length = n ∧ t xs σ H Q
theorem pg_tup {es : List Expr} {k : Nat} {t : TGs} {n : Nat} (hc : X.calm = true) (h : PGs X es t)
    (hn : (assignEach es X.env).length = n := by rfl) (hst : (assignEach es X.env).findIdx? (·.1) = none := by rfl) : PG X (.Tuple es k pos) (gTup X.K n t) := by
  intro pins s σ H v u Q I r hw
  obtain ⟨a, xs, e1, hq, hl, hw⟩ := hw
  subst e1
  cases r
  obtain ⟨its, rv, ht, hz⟩ := I.tuple hq
  refine assign_Tuple_tuple (I.ok.hd hc) ht (by simp [hn, ← hl, rv.length]) hst fun h' hx => ?_
  have I1 : Inv X pins σ H { s with heap := h' } := I.kept (t' := s.toks) fun b o e => hx b o (Nat.ne_of_lt (Heap.lt_size e)) e
  exact h pins _ σ H xs _ Q I1 (by simpa using rv) hw
/-- target = value -/
def tAsg (te : TE) (g : TG) : TS := fun D σ H => te σ H fun x H1 => g x σ H1 D.nx
theorem ps_asg {tg e : Expr} {te : TE} {g : TG} (he : PE X e te) (hg : PG X tg g) (hs : swapsWithSole [tg] e pos.line X.env = pure false := by rfl) (hw : swappedStores [tg] e X.env = pure none := by rfl)
    (h1 : (assignEach [tg] X.env).map (·.2) = [assign tg X.env] := by rfl) : PS X (.Assign [tg] e pos) (tAsg te g) := by
  intro pins s σ H D I h
  refine wpAny_Assign_stores (thn (he pins s σ H _ I h) fun v s1 ⟨x, H1, I1, r1, q1⟩ => ?_) hs hw
  rw [h1]
  exact thn (hg pins s1 σ H1 x v _ I1 r1 q1) fun _ s2 q => q
/-- name = value -/
theorem ps_set {i : Nat} {x : Str} {e : Expr} {te : TE} {pos' : Pos} (hN : X.N.Nodup) (hi : X.N[i]? = some x) (hx : Loc X.env.scope x) (he : PE X e te) (hs : swapsWith e (some (.Name x pos')) pos.line X.env = pure false := by rfl) (hf : X.fn x = true ∨ X.env.scope.names.lookup x = some .local := by first | exact .inl rfl | exact .inr rfl | assumption) :
    PS X (.Assign [.Name x pos'] e pos) (tAsg te (gName i)) := by
  intro pins s σ H D I h
  refine wpAny_Assign_Name (thn (he pins s σ H _ I h) fun v s1 ⟨y, H1, I1, r1, q1⟩ => ?_) hs
  exact store_ok I1 hN hi hx r1 (fun s2 I2 => ⟨_, H1, I2, q1⟩) hf
end

/-! ### while -/
section
variable {X : Cx} {pos : Pos}
/-- the invariant W with its measure -/
def tWhile (c : TT) (tb : TS) : TS := fun D σ H => ∃ W : Nat → St → Hp → Prop, (∃ m, W m σ H) ∧ ∀ m σ H, W m σ H →
  c σ H fun b H1 => if b = true then ∃ N : St → Hp → Prop, (∀ σ' H', N σ' H' → ∃ m', m' < m ∧ W m' σ' H') ∧ tb { D with nx := N, ct := N, bk := D.nx } σ H1 else D.nx σ H1
theorem ps_while {c : Expr} {body : List Stmt} {tc : TT} {tb : TS} (hp : PassesOwn (model X.prog X.w) X.A X.env X.xe) (hc : PT X c tc) (hb : PSs X body tb) : PS X (.While c body [] pos) (tWhile tc tb) := by
  intro pins s σ H D I h
  obtain ⟨W, ⟨m0, w0⟩, turn⟩ := h
  refine wpAny_While (codeAny_whileLoop (fun n s' => ∃ σ' H', Inv X pins σ' H' s' ∧ W n σ' H') ?_ m0 ⟨σ, H, I, w0⟩)
  rintro n s1 ⟨σ1, H1, I1, w1⟩
  refine wpAny_passesOwn hp (thn (hc pins s1 σ1 H1 _ I1 (turn n σ1 H1 w1)) fun b s2 ⟨H2, I2, q2⟩ => ?_)
  cases b with
  | true =>
    obtain ⟨N, hN, q2⟩ := q2
    rw [if_pos rfl]
    refine wpAny_passesOwn hp (thn (hb pins s2 σ1 H2 _ I2 q2) fun f s3 q3 => ?_)
    cases f with
    | next =>
      obtain ⟨σ3, H3, I3, n3⟩ := q3
      obtain ⟨m', hm, w3⟩ := hN σ3 H3 n3
      exact ⟨m', hm, σ3, H3, I3, w3⟩
    | cont =>
      obtain ⟨σ3, H3, I3, n3⟩ := q3
      obtain ⟨m', hm, w3⟩ := hN σ3 H3 n3
      exact ⟨m', hm, σ3, H3, I3, w3⟩
    | brk => exact q3
    | ret v => exact q3
  | false =>
    rw [if_neg Bool.false_ne_true]
    exact wpAny_execs_nil ⟨σ1, H2, I2, q2⟩
end

/-! ### what a loop or a comprehension walks -/
/-- at turn i: it yields x (the heap may grow), or it stops -/
structure It where
  go : Nat → Hp → Prop
  yld : Nat → Hp → V → Hp → Prop
  stop : Nat → Hp → Prop
/-- the iterator's own objects may turn: they are not the frame's, not pinned, younger than the entry (or a comprehension's own) -/
def FpOk (X : Cx) (pins : List (Addr × Obj)) (H : Hp) (b : Addr) : Prop :=
  H b = none ∧ b ≠ X.env.locals ∧ b ∉ X.fs ∧ (b ∈ X.ex ∨ X.s₀.heap.objs.size ≤ b) ∧ (∀ x c, X.env.cells.lookup x = some c → c ≠ b) ∧ ∀ p ∈ X.pn ++ pins, p.1 ≠ b
theorem Inv.fpOk {X : Cx} {pins : List (Addr × Obj)} {σ : St} {H H' : Hp} {s : Shared} {b : Addr} (I : Inv X pins σ H s) (hb : s.heap.objs.size ≤ b) (hn : H' b = none) : FpOk X pins H' b := by
  refine ⟨hn, Nat.ne_of_gt (Nat.lt_of_lt_of_le I.lt hb), I.nofs hb, .inr (Nat.le_trans I.sz hb), fun x c e z => ?_, fun p hp z => ?_⟩
  · obtain ⟨v, q⟩ := I.cell x c e
    exact absurd (Nat.lt_of_lt_of_le q.lt (by rw [z]; exact hb)) (Nat.lt_irrefl _)
  · exact absurd (Nat.lt_of_lt_of_le (Heap.lt_size (I.pin p hp).1) (by rw [z]; exact hb)) (Nat.lt_irrefl _)
structure Turn (P : Program) (w : World) (K : PySem.W.Frag) (tg : Expr) (J : It) (fp : List Addr) (it : Addr) (tn : Nat → Heap → Prop) : Prop where
  mem : it ∈ fp
  obj : ∀ i h, tn i h → ∀ b ∈ fp, ∃ o, h.get? b = some o ∧ ∀ v, o.data ≠ .cell v
  keep : ∀ i h h', tn i h → (∀ b ∈ fp, ∀ o, h.get? b = some o → h'.get? b = some o) → tn i h'
  item : ∀ (X : Cx), X.prog = P → X.w = w → X.K = K → X.calm = true → ∀ (i : Nat) (pins : List (Addr × Obj)) (s : Shared) (σ : St) (H : Hp) (E : Value → Shared → Prop), Inv X pins σ H s → (∀ b ∈ fp, FpOk X pins H b) → tn i s.heap → J.go i H →
    wpAny (model P w) X.A (pyNext (.ref it)) (fun r s1 => ∃ u, r = some u ∧
      wpAny (model P w) X.A (letOwnedTupleGo tg (.ref it) u) (fun _ s2 => ∃ x H', Inv X pins σ H' s2 ∧ RelV x u ∧ J.yld i H x H' ∧ tn (i + 1) s2.heap ∧ ∀ b ∈ fp, H' b = none) E s1) E s
  done : ∀ (X : Cx), X.prog = P → X.w = w → X.K = K → X.calm = true → ∀ (i : Nat) (pins : List (Addr × Obj)) (s : Shared) (σ : St) (H : Hp) (E : Value → Shared → Prop), Inv X pins σ H s → (∀ b ∈ fp, FpOk X pins H b) → tn i s.heap → J.stop i H →
    wpAny (model P w) X.A (pyNext (.ref it)) (fun r s1 => r = none ∧ Inv X pins σ H s1) E s
  self : ∀ (A : Around) (i : Nat) (s : Shared) (Q : Value → Shared → Prop) (E : Value → Shared → Prop), tn i s.heap → Q (.ref it) s → wpAny (model P w) A (pyIter (.ref it)) Q E s
abbrev TI := St → Hp → (It → Hp → Prop) → Prop
/-- an iterator has come -/
def PIE (X : Cx) (pins : List (Addr × Obj)) (σ : St) (tg : Expr) (R : It → Hp → Prop) (itv : Value) (s2 : Shared) : Prop :=
  ∃ (it : Addr) (fp : List Addr) (tn : Nat → Heap → Prop) (J : It) (H' : Hp), itv = .ref it ∧ Inv X pins σ H' s2 ∧ Turn X.prog X.w X.K tg J fp it tn ∧ tn 0 s2.heap ∧ (∀ b ∈ fp, FpOk X pins H' b) ∧ R J H'
def PI (X : Cx) (tg iter : Expr) (wi : TI) : Prop :=
  ∀ (pins : List (Addr × Obj)) (s : Shared) (σ : St) (H : Hp) (R : It → Hp → Prop), Inv X pins σ H s → wi σ H R →
    wpAny (model X.prog X.w) X.A (eval iter X.env) (fun v s1 => wpAny (model X.prog X.w) X.A (pyIter v) (PIE X pins σ tg R) X.xe s1) X.xe s

/-- the step ahead of the store is nothing for an iterator that keeps no tuple -/
theorem go_of {M : Model} {A : Around} {E : Value → Shared → Prop} {s : Shared} {tg : Expr} {it : Addr} {u : Value} {o : Obj} {n : String} {vs : Array Value} {Q : Unit → Shared → Prop} (ho : s.heap.get? it = some o) (hc : o.cls = .type n) (hd : o.data = .fields vs)
    (hn : ["enumerate", "zip", "dict_itemiterator", "dict_reverseitemiterator", "odict_iterator", "itertools.zip_longest", "itertools.pairwise"].contains n = false) (hQ : Q () s) : wpAny M A (letOwnedTupleGo tg (.ref it) u) Q E s := by
  unfold letOwnedTupleGo
  cases tg <;> first
    | exact wpAny_pure hQ
    | (cases u <;> first
        | exact wpAny_pure hQ
        | (refine wpAny_bind (wpAny_load ho ?_)
           rw [hc, hd]
           show wpAny M A (if (["enumerate", "zip", "dict_itemiterator", "dict_reverseitemiterator", "odict_iterator", "itertools.zip_longest", "itertools.pairwise"].contains n && vs[0]? == some (rawInt _)) = true then _ else _) Q E s
           rw [if_neg (by intro h; rw [hn, Bool.false_and] at h; cases h)]
           exact wpAny_pure hQ))

/-- the list at a, as it stands at each turn (a loop may append to it) -/
def Itl (K : PySem.W.Frag) (a : Addr) : It :=
  ⟨fun i H => ∃ xs x, SqL K H a xs ∧ xs[i]? = some x, fun i H x H' => H' = H ∧ ∀ xs, SqL K H a xs → xs[i]? = some x, fun i H => ∃ xs, SqL K H a xs ∧ xs.length ≤ i⟩
def Itt (K : PySem.W.Frag) (a : Addr) : It :=
  ⟨fun i H => ∃ xs x, SqT K H a xs ∧ xs[i]? = some x, fun i H x H' => H' = H ∧ ∀ xs, SqT K H a xs → xs[i]? = some x, fun i H => ∃ xs, SqT K H a xs ∧ xs.length ≤ i⟩
/-- lo, lo + 1, .. (n of them) -/
def Itr (lo : Int) (n : Nat) : It := ⟨fun i _ => i < n, fun i H x H' => H' = H ∧ x = .int (lo + i), fun i _ => n ≤ i⟩
theorem turn_list {P : Program} {w : World} {K : PySem.W.Frag} {tg : Expr} (a it : Addr) : Turn P w K tg (Itl K a) [it] it (fun i h => h.IsListIter it a i) where
  mem := by simp
  obj := fun i h st b hb => by
    have e : b = it := by simpa using hb
    subst e
    obtain ⟨o, e, c, d⟩ := st
    exact ⟨o, e, fun v z => by rw [d] at z; cases z⟩
  keep := fun i h h' st k => st.at fun o e => k it (by simp) o e
  item := by
    intro X hP hw hK hc i pins s σ H E I hf st hg
    subst hP hw hK
    obtain ⟨xs, x, hq, hx⟩ := hg
    obtain ⟨its, rv, p, hz⟩ := I.list hq
    obtain ⟨u, hu, ru⟩ := rv.get hx
    obtain ⟨f0, f1, f2, f3, f4, f5⟩ := hf it (by simp)
    refine wpAny_pyNext_list_item st p.isList (x := u) (by simpa using hu) fun h' st' sb => ?_
    have I1 : Inv X pins σ H { s with heap := h' } := I.turned (t' := s.toks) (fun b o hb e => (sb.2 b hb).trans e) f0 f1 f3 f4 f5
    obtain ⟨o, e, c, d⟩ := id st'
    exact ⟨u, rfl, go_of (s := { s with heap := h' }) e c d (by decide) ⟨x, H, I1, ru, ⟨rfl, fun ys hy => by rw [I.list_inj hy hq]; exact hx⟩, st', fun b hb => (hf b hb).1⟩⟩
  done := by
    intro X hP hw hK hc i pins s σ H E I hf st hg
    subst hP hw hK
    obtain ⟨xs, hq, hx⟩ := hg
    obtain ⟨its, rv, p, hz⟩ := I.list hq
    obtain ⟨f0, f1, f2, f3, f4, f5⟩ := hf it (by simp)
    have hl := rv.length
    exact wpAny_pyNext_list_end (I.ok.hd hc) st p.isList (by simp; omega) fun h' eb => ⟨rfl, I.turned (t' := s.toks) (fun b o hb e => eb b o hb e) f0 f1 f3 f4 f5⟩
  self := fun _ _ _ _ _ st h => wpAny_pyIter_listiter st h
theorem turn_tuple {P : Program} {w : World} {K : PySem.W.Frag} {tg : Expr} (a it : Addr) : Turn P w K tg (Itt K a) [it] it (fun i h => h.IsTupleIter it a i) where
  mem := by simp
  obj := fun i h st b hb => by
    have e : b = it := by simpa using hb
    subst e
    obtain ⟨o, e, c, d⟩ := st
    exact ⟨o, e, fun v z => by rw [d] at z; cases z⟩
  keep := fun i h h' st k => st.at fun o e => k it (by simp) o e
  item := by
    intro X hP hw hK hc i pins s σ H E I hf st hg
    subst hP hw hK
    obtain ⟨xs, x, hq, hx⟩ := hg
    obtain ⟨its, rv, p, hz⟩ := I.tuple hq
    obtain ⟨u, hu, ru⟩ := rv.get hx
    obtain ⟨f0, f1, f2, f3, f4, f5⟩ := hf it (by simp)
    refine wpAny_pyNext_tuple_item st (show s.heap.IsTuple a its.toArray from p) (x := u) (by simpa using hu) fun h' st' sb => ?_
    have I1 : Inv X pins σ H { s with heap := h' } := I.turned (t' := s.toks) (fun b o hb e => (sb.2 b hb).trans e) f0 f1 f3 f4 f5
    obtain ⟨o, e, c, d⟩ := id st'
    exact ⟨u, rfl, go_of (s := { s with heap := h' }) e c d (by decide) ⟨x, H, I1, ru, ⟨rfl, fun ys hy => by rw [I.tuple_inj hy hq]; exact hx⟩, st', fun b hb => (hf b hb).1⟩⟩
  done := by
    intro X hP hw hK hc i pins s σ H E I hf st hg
    subst hP hw hK
    obtain ⟨xs, hq, hx⟩ := hg
    obtain ⟨its, rv, p, hz⟩ := I.tuple hq
    obtain ⟨f0, f1, f2, f3, f4, f5⟩ := hf it (by simp)
    have hl := rv.length
    exact wpAny_pyNext_tuple_end (I.ok.hd hc) st (show s.heap.IsTuple a its.toArray from p) (by simp; omega) fun h' eb => ⟨rfl, I.turned (t' := s.toks) (fun b o hb e => eb b o hb e) f0 f1 f3 f4 f5⟩
  self := fun _ _ _ _ _ st h => wpAny_pyIter_tupleiter st h
theorem turn_range {P : Program} {w : World} {K : PySem.W.Frag} {tg : Expr} (it : Addr) (lo : Int) (n : Nat) : Turn P w K tg (Itr lo n) [it] it (fun i h => IsRangeIter h it (lo + (i : Nat) * 1) ((n : Int) - (i : Nat)) 1) where
  mem := by simp
  obj := fun i h st b hb => by
    have e : b = it := by simpa using hb
    subst e
    exact ⟨_, st, fun v z => by
      have z' : Data.fields _ = Data.cell v := z
      cases z'⟩
  keep := fun i h h' st k => k it (by simp) _ st
  item := by
    intro X hP hw hK hc i pins s σ H E I hf st hg
    subst hP hw hK
    obtain ⟨f0, f1, f2, f3, f4, f5⟩ := hf it (by simp)
    have W := Walks.range (prog := X.prog) (w := X.w) (I.ok.hd hc) it lo 1 n
    refine W.item i s _ _ hg st fun v h' tk hv st' kk => ?_
    obtain ⟨t, rfl⟩ := hv
    have I1 : Inv X pins σ H { s with heap := h', toks := tk } := I.turned (fun b o hb e => kk b o (by simpa using hb) e) f0 f1 f3 f4 f5
    refine ⟨_, rfl, go_of (s := { s with heap := h', toks := tk }) (n := "range_iterator") st' rfl rfl (by decide) ⟨.int (lo + i), H, I1, ⟨t, ?_⟩, ⟨rfl, rfl⟩, st', fun b hb => (hf b hb).1⟩⟩
    rw [Int.mul_one]
  done := by
    intro X hP hw hK hc i pins s σ H E I hf st hg
    subst hP hw hK
    obtain ⟨f0, f1, f2, f3, f4, f5⟩ := hf it (by simp)
    exact wpAny_pyNext_range_end (I.ok.hd hc) st (by have : n ≤ i := hg; omega) fun h' eb => ⟨rfl, I.turned (t' := s.toks) (fun b o hb e => eb b o hb e) f0 f1 f3 f4 f5⟩
  self := fun _ _ _ _ _ st h => wpAny_pyIter_rangeiter st h
end L2

namespace L2
open PySem PySem.Spec PyProof.Rows
section
variable {X : Cx} {tg : Expr}
def iList (K : PySem.W.Frag) (tl : TE) : TI := fun σ H R => tl σ H fun x H1 => ∃ a, x = .ref a ∧ (∃ xs, SqL K H1 a xs) ∧ R (Itl K a) H1
def iTup (K : PySem.W.Frag) (tl : TE) : TI := fun σ H R => tl σ H fun x H1 => ∃ a, x = .ref a ∧ (∃ xs, SqT K H1 a xs) ∧ R (Itt K a) H1
theorem pi_list {l : Expr} {tl : TE} (hl : PE X l tl) : PI X tg l (iList X.K tl) := by
  intro pins s σ H R I h
  refine thn (hl pins s σ H _ I h) fun v s1 ⟨x, H1, I1, r1, q1⟩ => ?_
  obtain ⟨a, e, ⟨xs, hq⟩, q⟩ := q1
  subst e
  cases r1
  obtain ⟨its, rv, p, hz⟩ := I1.list hq
  refine wpAny_pyIter_list p.isList ?_
  refine ⟨s1.heap.objs.size, [s1.heap.objs.size], _, _, H1, rfl, I1.kept (t' := s1.toks) fun b o e => Heap.get?_push_of_some _ e, turn_list a _, ⟨_, Heap.get?_push_size _ rfl, rfl, rfl⟩, fun b hb => ?_, q⟩
  have e : b = s1.heap.objs.size := by simpa using hb
  subst e
  exact I1.fpOk (Nat.le_refl _) (I1.hok.fresh (Nat.le_refl _))
theorem pi_tup {l : Expr} {tl : TE} (hl : PE X l tl) : PI X tg l (iTup X.K tl) := by
  intro pins s σ H R I h
  refine thn (hl pins s σ H _ I h) fun v s1 ⟨x, H1, I1, r1, q1⟩ => ?_
  obtain ⟨a, e, ⟨xs, hq⟩, q⟩ := q1
  subst e
  cases r1
  obtain ⟨its, rv, p, hz⟩ := I1.tuple hq
  refine wpAny_pyIter_tuple (show s1.heap.IsTuple a its.toArray from p) ?_
  refine ⟨s1.heap.objs.size, [s1.heap.objs.size], _, _, H1, rfl, I1.kept (t' := s1.toks) fun b o e => Heap.get?_push_of_some _ e, turn_tuple a _, ⟨_, Heap.get?_push_size _ rfl, rfl, rfl⟩, fun b hb => ?_, q⟩
  have e : b = s1.heap.objs.size := by simpa using hb
  subst e
  exact I1.fpOk (Nat.le_refl _) (I1.hok.fresh (Nat.le_refl _))
/-- a range object just made, walked -/
theorem range_it {pins : List (Addr × Obj)} {σ : St} {H : Hp} {s : Shared} {R : It → Hp → Prop} {E : Value → Shared → Prop} {lo hi : Int} {t u v : Tok} {tk : Nat} (I : Inv X pins σ H s) (h1 : -(2 ^ 62) ≤ lo) (h2 : lo < 2 ^ 62) (h3 : -(2 ^ 62) ≤ hi) (h4 : hi < 2 ^ 62)
    (q : R (Itr lo (hi - lo).toNat) H) : wpAny (model X.prog X.w) X.A (pyIter (.ref s.heap.objs.size)) (PIE X pins σ tg R) E { s with heap := s.heap.push { cls := .type "range", data := .fields #[.int lo t, .int hi u, .int 1 v] }, toks := tk } := by
  refine wpAny_pyIter_range (IsRange.new ..) (small_one h1 h2 h3 h4) ?_
  have I1 : Inv X pins σ H { s with heap := s.heap.push { cls := .type "range", data := .fields #[.int lo t, .int hi u, .int 1 v] }, toks := tk } := I.kept fun b o e => Heap.get?_push_of_some _ e
  refine ⟨(s.heap.push { cls := .type "range", data := .fields #[.int lo t, .int hi u, .int 1 v] }).objs.size, [(s.heap.push { cls := .type "range", data := .fields #[.int lo t, .int hi u, .int 1 v] }).objs.size], _, _, H, rfl,
    I1.kept (t' := tk) fun b o e => Heap.get?_push_of_some _ e, turn_range _ lo (hi - lo).toNat, ?_, fun b hb => ?_, q⟩
  · have e1 : lo + ((0 : Nat) : Int) * 1 = lo := by simp
    have e2 : (((hi - lo).toNat : Nat) : Int) - ((0 : Nat) : Int) = Builtin.Range.rangeSize lo hi 1 := by rw [rangeSize_one]; split <;> omega
    show IsRangeIter _ _ (lo + ((0 : Nat) : Int) * 1) ((((hi - lo).toNat : Nat) : Int) - ((0 : Nat) : Int)) 1
    rw [e1, e2]
    exact Heap.get?_push_size _ rfl
  · have e : b = (s.heap.push { cls := .type "range", data := .fields #[.int lo t, .int hi u, .int 1 v] }).objs.size := by simpa using hb
    subst e
    exact I1.fpOk (Nat.le_refl _) (I1.hok.fresh (Nat.le_refl _))
def iRng1 (ta : TA) : TI := fun σ H R => ta σ H fun vs H1 => ∃ j : Int, vs = [.int j] ∧ -(2 ^ 62) ≤ j ∧ j < 2 ^ 62 ∧ R (Itr 0 j.toNat) H1
theorem pi_range1 {a : Expr} {ta : TA} {p pos : Pos} (hg : Gl X "range") (hm : X.mg "range" = none) (ha : PA X [a] ta) (hs : starEach [a] X.env = [(false, eval a X.env)] := by rfl) : PI X tg (.Call (.Name "range" p) [a] [] pos) (iRng1 ta) := by
  intro pins s σ H R I h
  refine Call_ (ld_blt I hg hm boot_range (PyProof.Rows.callWith_type1 (thn (ha pos pins s σ H _ I h) fun us s1 ⟨vs, H1, I1, r1, q1⟩ => ?_) hs rfl))
  obtain ⟨j, e, q1, q2, q⟩ := q1
  subst e
  cases r1 with
  | cons r rr =>
    cases rr
    obtain ⟨t, rfl⟩ := r
    exact call_range_1 (range_it I1 (by omega) (by omega) q1 q2 (by simpa using q))
/-! ### for -/
/-- W: the invariant by the turn and a measure; N: what the body is to reach -/
def tFor (wi : TI) (g : TG) (tb : TS) : TS := fun D σ H => wi σ H fun J H1 => ∃ W : Nat → Nat → St → Hp → Prop, (∃ m, W 0 m σ H1) ∧ ∀ i m σ H, W i m σ H →
  (J.stop i H ∧ D.nx σ H) ∨ (J.go i H ∧ ∃ N : St → Hp → Prop, (∀ σ' H', N σ' H' → ∃ m', m' < m ∧ W (i + 1) m' σ' H') ∧ ∀ x H', J.yld i H x H' → g x σ H' fun σ2 H2 => tb { D with nx := N, ct := N, bk := D.nx } σ2 H2)
/-- the records at fp as they stand -/
def pinsAt (fp : List Addr) (h : Heap) : List (Addr × Obj) := fp.filterMap fun b => (h.get? b).map fun o => (b, o)
theorem mem_pinsAt {fp : List Addr} {h : Heap} {b : Addr} {o : Obj} (hb : b ∈ fp) (e : h.get? b = some o) : (b, o) ∈ pinsAt fp h := List.mem_filterMap.mpr ⟨b, hb, by rw [e]; rfl⟩
theorem of_pinsAt {fp : List Addr} {h : Heap} {p : Addr × Obj} (hp : p ∈ pinsAt fp h) : p.1 ∈ fp ∧ h.get? p.1 = some p.2 := by
  obtain ⟨b, hb, e⟩ := List.mem_filterMap.mp hp
  cases q : h.get? b with
  | none => rw [q] at e; cases e
  | some o =>
    rw [q] at e
    have e' : (b, o) = p := Option.some.inj e
    subst e'
    exact ⟨hb, q⟩
theorem Inv.pinned {pins : List (Addr × Obj)} {σ : St} {H : Hp} {s : Shared} {fp : List Addr} (I : Inv X pins σ H s) (hf : ∀ b ∈ fp, FpOk X pins H b) (ho : ∀ b ∈ fp, ∃ o, s.heap.get? b = some o ∧ ∀ v, o.data ≠ .cell v) : Inv X (pins ++ pinsAt fp s.heap) σ H s :=
  I.pins_of fun p hp => (List.mem_append.mp hp).elim (fun z => I.pin p (List.mem_append_right _ z)) fun z => by
    obtain ⟨hb, e⟩ := of_pinsAt z
    obtain ⟨f0, f1, f2, _⟩ := hf p.1 hb
    obtain ⟨o, e', d⟩ := ho p.1 hb
    rw [e] at e'; cases e'
    exact ⟨e, f0, f1, f2, d⟩
theorem Inv.unpinned {pins pl : List (Addr × Obj)} {σ : St} {H : Hp} {s : Shared} (I : Inv X (pins ++ pl) σ H s) : Inv X pins σ H s := I.pins_of fun p hp => I.pin p (List.mem_append_right _ (List.mem_append_left _ hp))
theorem ps_for {iter : Expr} {body : List Stmt} {wi : TI} {g : TG} {tb : TS} {pos : Pos} (hp : PassesOwn (model X.prog X.w) X.A X.env X.xe) (hc : X.calm = true) (hi : PI X tg iter wi) (hg : PG X tg g) (hb : PSs X body tb)
    (hs : ∀ x, foldedSetIterable iter X.env x = pure x := by intro _; rfl) : PS X (.For tg iter body [] pos) (tFor wi g tb) := by
  intro pins s σ H D I h
  refine wpAny_For (thn (hi pins s σ H _ I h) fun v s1 h1 => thn h1 fun itv s2 h2 => ?_) hs
  obtain ⟨it, fp, tn, J, H2, e, I2, T, st2, f2, W, ⟨m0, w0⟩, turn⟩ := h2
  subst e
  -- what stays true of the iterator's objects through the loop
  have stat : ∀ {H' : Hp}, (∀ b ∈ fp, H' b = none) → ∀ b ∈ fp, FpOk X pins H' b := fun hn b hb => ⟨hn b hb, (f2 b hb).2⟩
  refine codeAny_forLoop_any (fun n s' => ∃ i σ' H', Inv X pins σ' H' s' ∧ tn i s'.heap ∧ (∀ b ∈ fp, H' b = none) ∧ W i n σ' H') ?_ m0 ⟨0, σ, H2, I2, st2, fun b hb => (f2 b hb).1, w0⟩
  rintro n s3 ⟨i, σ3, H3, I3, st3, fr3, w3⟩
  rcases turn i n σ3 H3 w3 with ⟨stop, qn⟩ | ⟨go, N, hN, step⟩
  · refine wpAny_passesOwn hp (thn (T.done X rfl rfl rfl hc i pins s3 σ3 H3 X.xe I3 (stat fr3) st3 stop) fun r s4 ⟨hr, I4⟩ => ?_)
    subst hr
    exact wpAny_execs_nil ⟨σ3, H3, I4, qn⟩
  · refine wpAny_passesOwn hp (thn (T.item X rfl rfl rfl hc i pins s3 σ3 H3 X.xe I3 (stat fr3) st3 go) fun r s4 ⟨u, hr, h4⟩ => ?_)
    subst hr
    refine wpAny_passesOwn hp (thn h4 fun _ s5 ⟨x, H5, I5, r5, y5, st5, fr5⟩ => ?_)
    have I5' := I5.pinned (stat fr5) (T.obj _ _ st5)
    refine wpAny_passesOwn hp (thn (hg _ s5 σ3 H5 x u _ I5' r5 (step x H5 y5)) fun _ s6 ⟨σ6, H6, I6, q6⟩ => ?_)
    refine wpAny_passesOwn hp (thn (hb _ s6 σ6 H6 _ I6 q6) fun f s7 q7 => ?_)
    have again : ∀ {σ7 : St} {H7 : Hp}, Inv X (pins ++ pinsAt fp s5.heap) σ7 H7 s7 → N σ7 H7 → ∃ m, m < n ∧ ∃ i σ' H', Inv X pins σ' H' s7 ∧ tn i s7.heap ∧ (∀ b ∈ fp, H' b = none) ∧ W i m σ' H' := fun {σ7 H7} I7 n7 => by
      obtain ⟨m', hm, w7⟩ := hN σ7 H7 n7
      refine ⟨m', hm, i + 1, σ7, H7, I7.unpinned, T.keep _ _ _ st5 fun b hb o e => (I7.pin (b, o) (List.mem_append_right _ (List.mem_append_right _ (mem_pinsAt hb e)))).1, fun b hb => ?_, w7⟩
      obtain ⟨o, e, d⟩ := T.obj _ _ st5 b hb
      exact (I7.pin (b, o) (List.mem_append_right _ (List.mem_append_right _ (mem_pinsAt hb e)))).2.1
    cases f with
    | next => obtain ⟨σ7, H7, I7, n7⟩ := q7; exact again I7 n7
    | cont => obtain ⟨σ7, H7, I7, n7⟩ := q7; exact again I7 n7
    | brk => obtain ⟨σ7, H7, I7, q7⟩ := q7; exact ⟨σ7, H7, I7.unpinned, q7⟩
    | ret v => obtain ⟨x7, σ7, H7, I7, r7, q7⟩ := q7; exact ⟨x7, σ7, H7, I7.unpinned, r7, q7⟩
end

/-! ### the forms one uses -/
/-- over a list that the body leaves as it is -/
theorem for_list {K : PySem.W.Frag} {a : Addr} {xs : List V} {g : TG} {tb : TS} {D : Ends} {σ : St} {H : Hp} (Pv : Nat → St → Hp → Prop) (h0 : Pv 0 σ H) (hl : ∀ i σ H, i ≤ xs.length → Pv i σ H → SqL K H a xs)
    (hs : ∀ i x σ H, xs[i]? = some x → Pv i σ H → g x σ H fun σ2 H2 => tb { D with nx := Pv (i + 1), ct := Pv (i + 1), bk := D.nx } σ2 H2) (hd : ∀ σ H, Pv xs.length σ H → D.nx σ H) :
    ∃ W : Nat → Nat → St → Hp → Prop, (∃ m, W 0 m σ H) ∧ ∀ i m σ H, W i m σ H →
      ((Itl K a).stop i H ∧ D.nx σ H) ∨ ((Itl K a).go i H ∧ ∃ N : St → Hp → Prop, (∀ σ' H', N σ' H' → ∃ m', m' < m ∧ W (i + 1) m' σ' H') ∧ ∀ x H', (Itl K a).yld i H x H' → g x σ H' fun σ2 H2 => tb { D with nx := N, ct := N, bk := D.nx } σ2 H2) := by
  refine ⟨fun i m σ H => m = xs.length - i ∧ i ≤ xs.length ∧ Pv i σ H, ⟨xs.length, by simp, Nat.zero_le _, h0⟩, ?_⟩
  rintro i m σ H ⟨rfl, hi, p⟩
  have q := hl i σ H hi p
  by_cases hlt : i < xs.length
  · refine .inr ⟨⟨xs, xs[i], q, by simp [hlt]⟩, Pv (i + 1), fun σ' H' p' => ⟨xs.length - (i + 1), by omega, rfl, hlt, p'⟩, fun x H' y => ?_⟩
    obtain ⟨e, y⟩ := y
    subst e
    exact hs i x σ _ (y xs q) p
  · have e : i = xs.length := by omega
    subst e
    exact .inl ⟨⟨xs, q, Nat.le_refl _⟩, hd σ H p⟩
theorem for_tup {K : PySem.W.Frag} {a : Addr} {xs : List V} {g : TG} {tb : TS} {D : Ends} {σ : St} {H : Hp} (Pv : Nat → St → Hp → Prop) (h0 : Pv 0 σ H) (hl : ∀ i σ H, i ≤ xs.length → Pv i σ H → SqT K H a xs)
    (hs : ∀ i x σ H, xs[i]? = some x → Pv i σ H → g x σ H fun σ2 H2 => tb { D with nx := Pv (i + 1), ct := Pv (i + 1), bk := D.nx } σ2 H2) (hd : ∀ σ H, Pv xs.length σ H → D.nx σ H) :
    ∃ W : Nat → Nat → St → Hp → Prop, (∃ m, W 0 m σ H) ∧ ∀ i m σ H, W i m σ H →
      ((Itt K a).stop i H ∧ D.nx σ H) ∨ ((Itt K a).go i H ∧ ∃ N : St → Hp → Prop, (∀ σ' H', N σ' H' → ∃ m', m' < m ∧ W (i + 1) m' σ' H') ∧ ∀ x H', (Itt K a).yld i H x H' → g x σ H' fun σ2 H2 => tb { D with nx := N, ct := N, bk := D.nx } σ2 H2) := by
  refine ⟨fun i m σ H => m = xs.length - i ∧ i ≤ xs.length ∧ Pv i σ H, ⟨xs.length, by simp, Nat.zero_le _, h0⟩, ?_⟩
  rintro i m σ H ⟨rfl, hi, p⟩
  have q := hl i σ H hi p
  by_cases hlt : i < xs.length
  · refine .inr ⟨⟨xs, xs[i], q, by simp [hlt]⟩, Pv (i + 1), fun σ' H' p' => ⟨xs.length - (i + 1), by omega, rfl, hlt, p'⟩, fun x H' y => ?_⟩
    obtain ⟨e, y⟩ := y
    subst e
    exact hs i x σ _ (y xs q) p
  · have e : i = xs.length := by omega
    subst e
    exact .inl ⟨⟨xs, q, Nat.le_refl _⟩, hd σ H p⟩
theorem for_range {lo : Int} {n : Nat} {g : TG} {tb : TS} {D : Ends} {σ : St} {H : Hp} (Pv : Nat → St → Hp → Prop) (h0 : Pv 0 σ H)
    (hs : ∀ i σ H, i < n → Pv i σ H → g (.int (lo + i)) σ H fun σ2 H2 => tb { D with nx := Pv (i + 1), ct := Pv (i + 1), bk := D.nx } σ2 H2) (hd : ∀ σ H, Pv n σ H → D.nx σ H) :
    ∃ W : Nat → Nat → St → Hp → Prop, (∃ m, W 0 m σ H) ∧ ∀ i m σ H, W i m σ H →
      ((Itr lo n).stop i H ∧ D.nx σ H) ∨ ((Itr lo n).go i H ∧ ∃ N : St → Hp → Prop, (∀ σ' H', N σ' H' → ∃ m', m' < m ∧ W (i + 1) m' σ' H') ∧ ∀ x H', (Itr lo n).yld i H x H' → g x σ H' fun σ2 H2 => tb { D with nx := N, ct := N, bk := D.nx } σ2 H2) := by
  refine ⟨fun i m σ H => m = n - i ∧ i ≤ n ∧ Pv i σ H, ⟨n, by simp, Nat.zero_le _, h0⟩, ?_⟩
  rintro i m σ H ⟨rfl, hi, p⟩
  by_cases hlt : i < n
  · refine .inr ⟨hlt, Pv (i + 1), fun σ' H' p' => ⟨n - (i + 1), by omega, rfl, hlt, p'⟩, fun x H' y => ?_⟩
    obtain ⟨e, y⟩ := y
    subst e y
    exact hs i σ _ hlt p
  · have e : i = n := by omega
    subst e
    exact .inl ⟨Nat.le_refl _, hd σ H p⟩
end L2

namespace L2
open PySem PySem.Spec PyProof.Rows

abbrev R2 := V → V → Hp → VK → Prop
/-- a two-place operation on values: f is binaryOp op, inplaceOp op or compareOp op -/
def OpR (X : Cx) (f : Value → Value → Sem Value) (r : R2) : Prop :=
  ∀ (pins : List (Addr × Obj)) (s : Shared) (σ : St) (H : Hp) (x y : V) (v u : Value) (Q : VK), Inv X pins σ H s → RelV x v → RelV y u → r x y H Q →
    wpAny (model X.prog X.w) X.A (f v u) (EP X pins σ Q) X.xe s
/-- a one-place operation -/
def UnR (X : Cx) (f : Value → Sem Value) (r : V → Hp → VK → Prop) : Prop :=
  ∀ (pins : List (Addr × Obj)) (s : Shared) (σ : St) (H : Hp) (x : V) (v : Value) (Q : VK), Inv X pins σ H s → RelV x v → r x H Q →
    wpAny (model X.prog X.w) X.A (f v) (EP X pins σ Q) X.xe s
/-- a call of a value that is known (a builtin, a type) with values -/
def CallR (X : Cx) (f : Value) (r : List V → Hp → VK → Prop) : Prop :=
  ∀ (pins : List (Addr × Obj)) (s : Shared) (σ : St) (H : Hp) (xs : List V) (us : List Value) (Q : VK), Inv X pins σ H s → Vals xs us → r xs H Q →
    wpAny (model X.prog X.w) X.A (call f us) (EP X pins σ Q) X.xe s
def tOp (r : R2) (ta tb : TE) : TE := fun σ H Q => ta σ H fun x H1 => tb σ H1 fun y H2 => r x y H2 Q
def tUn (r : V → Hp → VK → Prop) (ta : TE) : TE := fun σ H Q => ta σ H fun x H1 => r x H1 Q
/-- ints in, under C, and a value out -/
def rI (C : Int → Int → Prop) (g : Int → Int → V) : R2 := fun x y H Q => ∃ i j, x = .int i ∧ y = .int j ∧ C i j ∧ Q (g i j) H
def rI0 (g : Int → Int → V) : R2 := fun x y H Q => ∃ i j, x = .int i ∧ y = .int j ∧ Q (g i j) H
def rU (g : Int → V) : V → Hp → VK → Prop := fun x H Q => ∃ i, x = .int i ∧ Q (g i) H

section
variable {X : Cx} {a b c : Expr} {ta tb tc : TE} {pos : Pos}

theorem binT (ha : PE X a ta) (hb : PE X b tb) {pins : List (Addr × Obj)} {s : Shared} {σ : St} {H : Hp} {R : V → V → Hp → Prop} (I : Inv X pins σ H s)
    (h : ta σ H fun x H1 => tb σ H1 fun y H2 => R x y H2) {Q : Value → Shared → Prop} {f : Value → Value → Sem Value}
    (hf : ∀ v u s2 x y H2, Inv X pins σ H2 s2 → RelV x v → RelV y u → R x y H2 → wpAny (model X.prog X.w) X.A (f v u) Q X.xe s2) :
    wpAny (model X.prog X.w) X.A (eval a X.env) (fun v s₁ => wpAny (model X.prog X.w) X.A (eval b X.env) (fun u s₂ => wpAny (model X.prog X.w) X.A (f v u) Q X.xe s₂) X.xe s₁) X.xe s := by
  refine thn (ha pins s σ H _ I h) fun v s1 ⟨x, H1, I1, r1, q1⟩ => ?_
  refine thn (hb pins s1 σ H1 _ I1 q1) fun u s2 ⟨y, H2, I2, r2, q2⟩ => ?_
  exact hf v u s2 x y H2 I2 r1 r2 q2

theorem pe_op {op : Operator} {r : R2} (ho : OpR X (binaryOp op) r) (ha : PE X a ta) (hb : PE X b tb) : PE X (.BinOp a op b pos) (tOp r ta tb) := by
  intro pins s σ H Q I h
  exact wpAny_BinOp (binT ha hb I h fun v u s2 x y H2 I2 rx ry q => ho pins s2 σ H2 x y v u Q I2 rx ry q)
theorem pe_un {op : UnaryOp} {r : V → Hp → VK → Prop} (ho : UnR X (unaryOp op) r) (ha : PE X a ta) : PE X (.UnaryOp op a pos) (tUn r ta) := by
  intro pins s σ H Q I h
  exact UnaryOp_ (thn (ha pins s σ H _ I h) fun v s1 ⟨x, H1, I1, r1, q1⟩ => ho pins s1 σ H1 x v Q I1 r1 q1)
/-! ### ints -/
theorem opI {f : Value → Value → Sem Value} {C : Int → Int → Prop} {g : Int → Int → Int}
    (rule : ∀ (i j : Int) (t u : Tok) (s : Shared) (Q : Value → Shared → Prop) (E : Value → Shared → Prop), C i j → Q (.int (g i j) s.toks) { s with toks := s.toks + 1 } → wpAny (model X.prog X.w) X.A (f (.int i t) (.int j u)) Q E s) :
    OpR X f (rI C fun i j => .int (g i j)) := by
  intro pins s σ H x y v u Q I rx ry h
  obtain ⟨i, j, rfl, rfl, hc, q⟩ := h
  obtain ⟨t, rfl⟩ := rx
  obtain ⟨t', rfl⟩ := ry
  exact rule i j t t' s _ _ hc ⟨.int (g i j), H, I.tok _, ⟨_, rfl⟩, q⟩
theorem opI0 {f : Value → Value → Sem Value} {g : Int → Int → Int}
    (rule : ∀ (i j : Int) (t u : Tok) (s : Shared) (Q : Value → Shared → Prop) (E : Value → Shared → Prop), Q (.int (g i j) s.toks) { s with toks := s.toks + 1 } → wpAny (model X.prog X.w) X.A (f (.int i t) (.int j u)) Q E s) :
    OpR X f (rI0 fun i j => .int (g i j)) := by
  intro pins s σ H x y v u Q I rx ry h
  obtain ⟨i, j, rfl, rfl, q⟩ := h
  obtain ⟨t, rfl⟩ := rx
  obtain ⟨t', rfl⟩ := ry
  exact rule i j t t' s _ _ ⟨.int (g i j), H, I.tok _, ⟨_, rfl⟩, q⟩
theorem opB0 {f : Value → Value → Sem Value} {g : Int → Int → Bool}
    (rule : ∀ (i j : Int) (t u : Tok) (s : Shared) (Q : Value → Shared → Prop) (E : Value → Shared → Prop), Q (.bool (g i j)) s → wpAny (model X.prog X.w) X.A (f (.int i t) (.int j u)) Q E s) :
    OpR X f (rI0 fun i j => .bl (g i j)) := by
  intro pins s σ H x y v u Q I rx ry h
  obtain ⟨i, j, rfl, rfl, q⟩ := h
  obtain ⟨t, rfl⟩ := rx
  obtain ⟨t', rfl⟩ := ry
  exact rule i j t t' s _ _ ⟨.bl (g i j), H, I, rfl, q⟩

def CPow (i j : Int) : Prop := 0 ≤ j ∧ j ≤ 1000000 ∧ i.natAbs < 2 ^ 64
theorem op_add : OpR X (binaryOp .Add) (rI0 fun i j => .int (i + j)) := opI0 fun _ _ _ _ _ _ _ q => add_int q
theorem op_sub : OpR X (binaryOp .Sub) (rI0 fun i j => .int (i - j)) := opI0 fun _ _ _ _ _ _ _ q => sub_int q
/-- % by a positive divisor of any size -/
theorem op_mod : OpR X (binaryOp .Mod) (rI (fun _ j => 0 < j) fun i j => .int (i % j)) := opI fun i j _ _ _ _ _ hc q => by
  have h1 : (0 : Int) < j := hc
  exact mod_int' (by omega) (by rw [Int.fmod_eq_emod_of_nonneg i (by omega)]; exact q)
theorem op_pow : OpR X (binaryOp .Pow) (rI CPow fun i j => .int (i ^ j.toNat)) := opI fun _ _ _ _ _ _ _ hc q => pow_int_small hc.1 hc.2.1 hc.2.2 q
theorem unI {f : Value → Sem Value} {g : Int → Int}
    (rule : ∀ (i : Int) (t : Tok) (s : Shared) (Q : Value → Shared → Prop) (E : Value → Shared → Prop), Q (.int (g i) s.toks) { s with toks := s.toks + 1 } → wpAny (model X.prog X.w) X.A (f (.int i t)) Q E s) :
    UnR X f (rU fun i => .int (g i)) := by
  intro pins s σ H x v Q I rx h
  obtain ⟨i, rfl, q⟩ := h
  obtain ⟨t, rfl⟩ := rx
  exact rule i t s _ _ ⟨.int (g i), H, I.tok _, ⟨_, rfl⟩, q⟩
theorem un_neg : UnR X (unaryOp .USub) (rU fun i => .int (-i)) := unI fun _ _ _ _ _ q => neg_int q
/-! ### bools among ints: n += (a < b) -/
end

/-! ### comparisons -/
/-- the scalars that == tells apart as data does -/
def scal : V → V → Bool
  | .non, .non => true | .non, .int _ => true | .int _, .non => true | .non, .bl _ => true | .bl _, .non => true | .non, .str _ => true | .str _, .non => true
  | .int _, .int _ => true | .bl _, .bl _ => true | .str _, .str _ => true | .byt _, .byt _ => true
  | .int _, .str _ => true | .str _, .int _ => true | .bl _, .str _ => true | .str _, .bl _ => true
  | _, _ => false
def rEq : R2 := fun x y H Q => scal x y = true ∧ Q (.bl (decide (x = y))) H
def rNe : R2 := fun x y H Q => scal x y = true ∧ Q (.bl (!decide (x = y))) H

theorem dec_int {i j : Int} : decide (V.int i = V.int j) = (i == j) := by
  rw [Bool.eq_iff_iff]
  simp
theorem dec_bl {i j : Bool} : decide (V.bl i = V.bl j) = (i == j) := by
  rw [Bool.eq_iff_iff]
  simp
theorem dec_str {i j : Str} : decide (V.str i = V.str j) = (i == j) := by
  rw [Bool.eq_iff_iff]
  simp
theorem dec_byt {i j : Array UInt8} : decide (V.byt i = V.byt j) = (i.toList == j.toList) := by
  rw [Bool.eq_iff_iff]
  cases i
  cases j
  simp

section
variable {X : Cx} {a b c : Expr} {ta tb tc : TE} {pos : Pos}
theorem fin_bl {pins : List (Addr × Obj)} {σ : St} {H : Hp} {s : Shared} {Q : VK} {k k' : Bool} (I : Inv X pins σ H s) (q : Q (.bl k) H) (e : k = k') : EP X pins σ Q (.bool k') s := by
  subst e
  exact ⟨.bl k, H, I, rfl, q⟩
theorem op_eq : OpR X (compareOp .Eq) rEq := by
  intro pins s σ H x y v u Q I rx ry h
  obtain ⟨hs, q⟩ := h
  cases x with
  | non =>
    cases rx
    cases y with
    | non => cases ry; exact PySem.EqNone.eq_none_none (fin_bl I q (by simp))
    | bl j => cases ry; exact PySem.EqNone.eq_none_bool (fin_bl I q (by simp))
    | int j => obtain ⟨t', rfl⟩ := ry; exact PySem.EqNone.eq_none_int (fin_bl I q (by simp))
    | str j => obtain ⟨t', rfl⟩ := ry; exact PySem.EqNone.eq_none_str (fin_bl I q (by simp))
    | _ => exact absurd (show false = true from hs) Bool.false_ne_true
  | bl i =>
    cases rx
    cases y with
    | non => cases ry; exact PySem.EqNone.eq_bool_none (fin_bl I q (by simp))
    | bl j => cases ry; exact eq_bool (fin_bl I q dec_bl)
    | str j => obtain ⟨t', rfl⟩ := ry; exact PySem.EqMixed.eq_bool_str (fin_bl I q (by simp))
    | _ => exact absurd (show false = true from hs) Bool.false_ne_true
  | int i =>
    obtain ⟨t, rfl⟩ := rx
    cases y with
    | non => cases ry; exact PySem.EqNone.eq_int_none (fin_bl I q (by simp))
    | int j => obtain ⟨t', rfl⟩ := ry; exact eq_int (fin_bl I q dec_int)
    | str j => obtain ⟨t', rfl⟩ := ry; exact PySem.EqMixed.eq_int_str (fin_bl I q (by simp))
    | _ => exact absurd (show false = true from hs) Bool.false_ne_true
  | str i =>
    obtain ⟨t, rfl⟩ := rx
    cases y with
    | non => cases ry; exact PySem.EqNone.eq_str_none (fin_bl I q (by simp))
    | bl j => cases ry; exact PySem.EqMixed.eq_str_bool (fin_bl I q (by simp))
    | int j => obtain ⟨t', rfl⟩ := ry; exact PySem.EqMixed.eq_str_int (fin_bl I q (by simp))
    | str j => obtain ⟨t', rfl⟩ := ry; exact eq_str (fin_bl I q dec_str)
    | _ => exact absurd (show false = true from hs) Bool.false_ne_true
  | byt i =>
    obtain ⟨t, rfl⟩ := rx
    cases y with
    | byt j => obtain ⟨t', rfl⟩ := ry; exact PySem.W.eq_bytes (fin_bl I q dec_byt)
    | _ => exact absurd (show false = true from hs) Bool.false_ne_true
  | _ => cases y <;> exact absurd (show false = true from hs) Bool.false_ne_true
theorem op_ne : OpR X (compareOp .NotEq) rNe := by
  intro pins s σ H x y v u Q I rx ry h
  obtain ⟨hs, q⟩ := h
  cases x with
  | non =>
    cases rx
    cases y with
    | non => cases ry; exact PySem.EqNone.ne_none_none (fin_bl I q (by simp))
    | bl j => cases ry; exact PySem.EqNone.ne_none_bool (fin_bl I q (by simp))
    | int j => obtain ⟨t', rfl⟩ := ry; exact PySem.EqNone.ne_none_int (fin_bl I q (by simp))
    | str j => obtain ⟨t', rfl⟩ := ry; exact PySem.EqNone.ne_none_str (fin_bl I q (by simp))
    | _ => exact absurd (show false = true from hs) Bool.false_ne_true
  | bl i =>
    cases rx
    cases y with
    | non => cases ry; exact PySem.EqNone.ne_bool_none (fin_bl I q (by simp))
    | bl j => cases ry; exact ne_bool (fin_bl I q (congrArg not dec_bl))
    | str j => obtain ⟨t', rfl⟩ := ry; exact PySem.EqMixed.ne_bool_str (fin_bl I q (by simp))
    | _ => exact absurd (show false = true from hs) Bool.false_ne_true
  | int i =>
    obtain ⟨t, rfl⟩ := rx
    cases y with
    | non => cases ry; exact PySem.EqNone.ne_int_none (fin_bl I q (by simp))
    | int j => obtain ⟨t', rfl⟩ := ry; exact ne_int (fin_bl I q (congrArg not dec_int))
    | str j => obtain ⟨t', rfl⟩ := ry; exact PySem.EqMixed.ne_int_str (fin_bl I q (by simp))
    | _ => exact absurd (show false = true from hs) Bool.false_ne_true
  | str i =>
    obtain ⟨t, rfl⟩ := rx
    cases y with
    | non => cases ry; exact PySem.EqNone.ne_str_none (fin_bl I q (by simp))
    | bl j => cases ry; exact PySem.EqMixed.ne_str_bool (fin_bl I q (by simp))
    | int j => obtain ⟨t', rfl⟩ := ry; exact PySem.EqMixed.ne_str_int (fin_bl I q (by simp))
    | str j => obtain ⟨t', rfl⟩ := ry; exact ne_str (fin_bl I q (congrArg not dec_str))
    | _ => exact absurd (show false = true from hs) Bool.false_ne_true
  | byt i =>
    obtain ⟨t, rfl⟩ := rx
    cases y with
    | byt j => obtain ⟨t', rfl⟩ := ry; exact PySem.W.ne_bytes (fin_bl I q (congrArg not dec_byt))
    | _ => exact absurd (show false = true from hs) Bool.false_ne_true
  | _ => cases y <;> exact absurd (show false = true from hs) Bool.false_ne_true

theorem op_lt : OpR X (compareOp .Lt) (rI0 fun i j => .bl (decide (i < j))) := opB0 fun _ _ _ _ _ _ _ q => lt_int q
theorem op_le : OpR X (compareOp .LtE) (rI0 fun i j => .bl (decide (i ≤ j))) := opB0 fun _ _ _ _ _ _ _ q => le_int q
theorem op_gt : OpR X (compareOp .Gt) (rI0 fun i j => .bl (decide (j < i))) := opB0 fun _ _ _ _ _ _ _ q => gt_int q
theorem op_ge : OpR X (compareOp .GtE) (rI0 fun i j => .bl (decide (j ≤ i))) := opB0 fun _ _ _ _ _ _ _ q => ge_int q
theorem nomark (b : Expr) {op : CmpOp} (h : op ≠ .In := by decide) (h2 : op ≠ .NotIn := by decide) : behindInMarks op b = false := by
  have e1 : (op == CmpOp.In) = false := by cases op <;> first | rfl | exact absurd rfl h
  have e2 : (op == CmpOp.NotIn) = false := by cases op <;> first | rfl | exact absurd rfl h2
  cases b <;> simp [behindInMarks, e1, e2]
/-- a comparison as a value; hm: nomark b, or (for in, not in) by with_unfolding_all rfl -/
theorem pe_cmpR {op : CmpOp} {r : R2} (ho : OpR X (compareOp op) r) (ha : PE X a ta) (hb : PE X b tb) (hm : behindInMarks op b = false) : PE X (.Compare a [op] [b] pos) (tOp r ta tb) := by
  intro pins s σ H Q I h
  exact wpAny_Compare1 (binT ha hb I h fun v u s2 x y H2 I2 rx ry q => ho pins s2 σ H2 x y v u Q I2 rx ry q) hm
/-- a reading of a value as a test -/
def tTest (t : TE) : TT := fun σ H Q => t σ H fun x H' => ∃ k, x = .bl k ∧ Q k H'
theorem pt_cmpR {op : CmpOp} {r : R2} (ho : OpR X (compareOp op) r) (ha : PE X a ta) (hb : PE X b tb) (hm : behindInMarks op b = false) : PT X (.Compare a [op] [b] pos) (tTest (tOp r ta tb)) := by
  intro pins s σ H Q I h
  refine wpAny_isTrue_Compare1 (thn (ha pins s σ H _ I h) fun v s1 ⟨x, H1, I1, r1, q1⟩ => thn (hb pins s1 σ H1 _ I1 q1) fun u s2 ⟨y, H2, I2, r2, q2⟩ =>
    thn (ho pins s2 σ H2 x y v u _ I2 r1 r2 q2) fun c s3 ⟨z, H3, I3, r3, k, e, q3⟩ => ?_) hm
  subst e
  cases r3
  exact wpAny_truthy_bool ⟨H3, I3, q3⟩
/-- a op1 b op2 c -/
def tChain (r r' : R2) (ta tb tc : TE) : TE := fun σ H Q => ta σ H fun x H1 => tb σ H1 fun y H2 => r x y H2 fun z H3 => ∃ k, z = .bl k ∧
  (if k = true then tc σ H3 fun w' H4 => r' y w' H4 Q else Q (.bl false) H3)
theorem pe_chain {op op' : CmpOp} {r r' : R2} (ho : OpR X (compareOp op) r) (ho' : OpR X (compareOp op') r') (ha : PE X a ta) (hb : PE X b tb) (hc : PE X c tc)
    (hm : lastMarks [op, op'] [b, c] = false := by with_unfolding_all rfl) : PE X (.Compare a [op, op'] [b, c] pos) (tChain r r' ta tb tc) := by
  intro pins s σ H Q I h
  refine Compare_chain (thn (ha pins s σ H _ I h) fun v s1 ⟨x, H1, I1, r1, q1⟩ => chain_link (thn (hb pins s1 σ H1 _ I1 q1) fun u s2 ⟨y, H2, I2, r2, q2⟩ =>
    thn (ho pins s2 σ H2 x y v u _ I2 r1 r2 q2) fun d s3 ⟨z, H3, I3, r3, k, e, q3⟩ => ?_)) hm
  subst e
  cases r3
  refine wpAny_truthy_bool ?_
  cases k with
  | false => exact ite_ff ⟨.bl false, H3, I3, rfl, q3⟩
  | true => exact ite_tt (chain_last (thn (hc pins s3 σ H3 _ I3 q3) fun w' s4 ⟨z', H4, I4, r4, q4⟩ => ho' pins s4 σ H4 y z' u w' Q I4 r2 r4 q4))
/-! ### truth -/
theorem line63 : (sizeLine : Nat) < 2 ^ 63 := by rw [sizeLine_eq]; decide
/-! ### strs and bytes -/
/-! ### scalar builtins, by CallR -/
theorem vals1 {x : V} {us : List Value} (r : Vals [x] us) : ∃ u, us = [u] ∧ RelV x u := by
  cases r with
  | cons r1 r2 => cases r2; exact ⟨_, rfl, r1⟩
theorem vals2 {x y : V} {us : List Value} (r : Vals [x, y] us) : ∃ u w', us = [u, w'] ∧ RelV x u ∧ RelV y w' := by
  cases r with
  | cons r1 r2 =>
    cases r2 with
    | cons r3 r4 => cases r4; exact ⟨_, _, rfl, r1, r3⟩
theorem call_max2 (hc : X.calm = true) : CallR X (.builtin "max") (fun xs H Q => ∃ i j, xs = [.int i, .int j] ∧ Q (.int (if j > i then j else i)) H) := by
  intro pins s σ H xs us Q I r h
  obtain ⟨i, j, rfl, q⟩ := h
  obtain ⟨u, w', rfl, ⟨t, rfl⟩, ⟨t', rfl⟩⟩ := vals2 r
  refine max_two_ints (I.ok.hd hc) fun h' tk k => ⟨_, H, I.kept k, ?_, q⟩
  by_cases hj : j > i
  · rw [if_pos hj, if_pos hj]; exact ⟨_, rfl⟩
  · rw [if_neg hj, if_neg hj]; exact ⟨_, rfl⟩
theorem call_min2 (hc : X.calm = true) : CallR X (.builtin "min") (fun xs H Q => ∃ i j, xs = [.int i, .int j] ∧ Q (.int (if j < i then j else i)) H) := by
  intro pins s σ H xs us Q I r h
  obtain ⟨i, j, rfl, q⟩ := h
  obtain ⟨u, w', rfl, ⟨t, rfl⟩, ⟨t', rfl⟩⟩ := vals2 r
  refine min_two_ints (I.ok.hd hc) fun h' tk k => ⟨_, H, I.kept k, ?_, q⟩
  by_cases hj : j < i
  · rw [if_pos hj, if_pos hj]; exact ⟨_, rfl⟩
  · rw [if_neg hj, if_neg hj]; exact ⟨_, rfl⟩
end
end L2

namespace L2
open PySem PySem.Spec PyProof.Rows

/-! ### an instance, its attributes a map -/
structure ObjM (h : Heap) (x dx C : Addr) (mA : Str → Option Value) : Prop where
  obj : h.get? x = some (PySem.W.instObj C dx)
  ns : h.Ns1 dx mA
  ne : dx ≠ x

theorem lookIn_ns {h : Heap} {dx : Addr} {mA : Str → Option Value} (n : h.Ns1 dx mA) : ∃ od, h.get? dx = some od ∧ ∀ name, PySem.W.lookIn name od = some (mA name) := by
  obtain ⟨o, es, ep, ho, hd, hk, _, hm⟩ := n
  refine ⟨o, ho, fun name => ?_⟩
  have e := hm name
  unfold nsFind findBy at e
  rw [← Array.find?_toList] at e
  unfold PySem.W.lookIn
  rw [hd]
  dsimp only
  split
  · rename_i y q
    rw [q] at e
    exact congrArg some e
  · rename_i q
    rw [q] at e
    have a : es.toList.any (·.refKey) = false := by
      rw [List.any_eq_false]
      intro y hy
      obtain ⟨z, t, hkey⟩ := hk y (Array.mem_toList_iff.mp hy)
      simp [DictEntry.refKey, hkey]
    have a' : ¬ es.toList.any (·.refKey) = true := by rw [a]; exact Bool.false_ne_true
    rw [if_neg a']
    exact congrArg some e

theorem ObjM.look {h : Heap} {x dx C : Addr} {mA : Str → Option Value} (I : ObjM h x dx C mA) : ∃ od, PySem.W.InstAt h x (PySem.W.instObj C dx) C (some od) ∧ ∀ name, PySem.W.lookIn name od = some (mA name) :=
  let ⟨od, ho, hl⟩ := lookIn_ns I.ns
  ⟨od, ⟨I.obj, rfl, rfl, ho⟩, hl⟩

section
variable {prog : Program} {w : World} {A : Around} {E : Value → Shared → Prop} {s : Shared} {K : PySem.W.Frag} {x dx C f : Addr} {mA : Str → Option Value} {name : Str} {v : Value}

theorem get_map {expr : Bool} {Q : Value → Shared → Prop} (X : K.In s.heap) (I : ObjM s.heap x dx C mA) (hg : PySem.W.plainGet K C name = true) (hh : PySem.W.hasDictIn K C = true)
    (ha : PySem.W.findIn K (.ref C) name = some none) (hv : mA name = some v) (hv' : PySem.W.handedIn v = true) (h : Q v { s with toks := s.toks + 1 }) :
    wpAny (model prog w) A (getAttr (.ref x) name expr) Q E s := by
  obtain ⟨od, J, hl⟩ := I.look
  exact PySem.W.get_value X J (PySem.W.plainGet_of hg).1 (PySem.W.findObj_own hh ha rfl (by rw [hl, hv])) hv' h

theorem get_meth {pl : Sem Bool} {Q : Value × List Value → Shared → Prop} (X : K.In s.heap) (I : ObjM s.heap x dx C mA) (hg : PySem.W.plainGet K C name = true)
    (hf : PySem.W.findIn K (.ref C) name = some (some (.ref f))) (ht : PySem.W.isFn K (.ref f) = true) (hv : mA name = none) (h : Q (.ref f, [.ref x]) s) :
    wpAny (model prog w) A (getMethod (.ref x) name pl) Q E s := by
  obtain ⟨od, J, hl⟩ := I.look
  exact PySem.W.method_fn X J (PySem.W.plainGet_of hg).1 (PySem.W.plainGet_of hg).2 hf (beq_iff_eq.mp ht) (by show (PySem.W.lookIn name od).map (·.isSome) = some false; rw [hl, hv]; rfl) h

theorem set_map {ns : List Str} {Q : Unit → Shared → Prop} (X : K.In s.heap) (I : ObjM s.heap x dx C mA)
    (hs : PySem.W.findIn K (.ref C) "__setattr__" = some (some (.builtin "object.__setattr__"))) (hp : PySem.W.plainOver K C = true) (ht : PySem.W.takerIn K C name = some none) (hh : PySem.W.hasDictIn K C = true)
    (hw : PySem.Within mA ns) (hsz : ns.length ≤ sizeLine)
    (h : ∀ h', ObjM h' x dx C (fun y => if y = name then some v else mA y) → Heap.SameBut dx s.heap h' → Q () { s with heap := h', toks := s.toks + 2 }) :
    wpAny (model prog w) A (setAttr (.ref x) name v) Q E s := by
  obtain ⟨od, J, hl⟩ := I.look
  refine PySem.W.set_plain X J hs (PySem.W.osa_open (s := { s with toks := s.toks + 1 }) (r := none) X J hp ht fun b => ?_)
  obtain ⟨cd, hc, hd'⟩ := PySem.W.any_some hh
  have hx : s.heap.get? x = some ⟨.ref C, some dx, .plain, #[]⟩ := I.obj
  refine wpAny_bind (wpAny_pure (wpAny_bind (wpAny_bind (wpAny_loadPart hx (wpAny_bind (PySem.W.Looks.here (s := { s with toks := s.toks + 1 }) (PySem.W.looks_clsIn X hc) ?_))))))
  rw [hd']
  refine wpAny_pure (a := some dx) (wpAny_bind (wpAny_pure (wpAny_bind ?_)))
  refine wpAny_nsSet1 (s := { s with toks := s.toks + 1 }) I.ns fun h' hn2 hs2 => ?_
  obtain ⟨oD, esD, epD, hoD, hdD, hcD⟩ := hn2.count (PySem.Within.cons name v hw)
  refine wpAny_bind (wpAny_lookBehind hoD (by rw [hdD]; exact pastItsLine_dict (Nat.le_trans hcD (by rw [List.length_cons]; omega))) ?_)
  exact wpAny_pure (h _ ⟨(hs2.2 _ (Ne.symm I.ne)).trans I.obj, hn2, I.ne⟩ hs2)

/-- C(..): the dict at the heap's end, the instance behind it; then its __init__ -/
theorem make_map {R : Result → Shared → Prop} {vs : List Value} {kw : List (Str × Value)} (X : K.In s.heap) (hm : PySem.W.makesIn K C = true)
    (hi : PySem.W.findIn K (.ref C) "__init__" = some (some (.ref f))) (hf : PySem.W.typeIn K (.ref f) = some (.type "function"))
    (h : codeAny (model prog w) (A.under (.builtin "type.__call__" ⟨.ref C :: vs, kw⟩)) (.call (.ref f) ⟨.ref (s.heap.objs.size + 1) :: vs, kw⟩) (PySem.W.InitBack (s.heap.objs.size + 1) R)
      { s with heap := (s.heap.push PySem.W.emptyDict).push (PySem.W.instObj C s.heap.objs.size) }) :
    codeAny (model prog w) A (.call (.ref C) ⟨vs, kw⟩) R s := by
  obtain ⟨hh, g, d, t, os⟩ := s
  exact PySem.W.make_core (PySem.W.makes_of X hm) (PySem.W.looks_findIn X hi) (fun self => PySem.W.bind_fn X self hf) (.inl rfl) h
end

/-! ### the attributes as a list of pairs -/
def putF (f : Str) (v : V) : List (Str × V) → List (Str × V)
  | [] => [(f, v)]
  | (g, x) :: r => if g = f then (g, v) :: r else (g, x) :: putF f v r
theorem lookup_putF (f g : Str) (v : V) : ∀ fs : List (Str × V), (putF f v fs).lookup g = if g = f then some v else fs.lookup g
  | [] => by
    show List.lookup g [(f, v)] = _
    by_cases h : g = f
    · have hb : (g == f) = true := beq_iff_eq.mpr h
      simp only [List.lookup, hb, if_pos h]
    · have hb : (g == f) = false := beq_eq_false_iff_ne.mpr h
      simp only [List.lookup, hb, if_neg h]
  | (k, x) :: r => by
    have ih := lookup_putF f g v r
    rw [show putF f v ((k, x) :: r) = (if k = f then (k, v) :: r else (k, x) :: putF f v r) from rfl]
    by_cases hk : k = f
    · rw [if_pos hk]
      by_cases h : g = k
      · have hb : (g == k) = true := beq_iff_eq.mpr h
        simp only [List.lookup, hb, if_pos (h.trans hk)]
      · have hb : (g == k) = false := beq_eq_false_iff_ne.mpr h
        simp only [List.lookup, hb, if_neg (fun e : g = f => h (e.trans hk.symm))]
    · rw [if_neg hk]
      by_cases h : g = k
      · have hb : (g == k) = true := beq_iff_eq.mpr h
        simp only [List.lookup, hb, if_neg (fun e : g = f => hk (h.symm.trans e))]
      · have hb : (g == k) = false := beq_eq_false_iff_ne.mpr h
        simp only [List.lookup, hb]
        exact ih
theorem keys_putF (f : Str) (v : V) : ∀ fs : List (Str × V), f ∈ (putF f v fs).map (·.1) ∧ ∀ g, g ∈ fs.map (·.1) → g ∈ (putF f v fs).map (·.1)
  | [] => ⟨by simp [putF], fun g h => by simp at h⟩
  | (k, x) :: r => by
    obtain ⟨i1, i2⟩ := keys_putF f v r
    rw [show putF f v ((k, x) :: r) = (if k = f then (k, v) :: r else (k, x) :: putF f v r) from rfl]
    by_cases hk : k = f
    · rw [if_pos hk]
      subst hk
      exact ⟨by simp, fun g h => by simpa using h⟩
    · rw [if_neg hk]
      refine ⟨?_, fun g h => ?_⟩
      · rw [List.map_cons]
        exact List.mem_cons_of_mem _ i1
      · rw [List.map_cons] at h ⊢
        rcases List.mem_cons.mp h with e | e
        · exact List.mem_cons.mpr (.inl e)
        · exact List.mem_cons_of_mem _ (i2 g e)
theorem length_putF (f : Str) (v : V) : ∀ fs : List (Str × V), (putF f v fs).length ≤ fs.length + 1
  | [] => by simp [putF]
  | (k, x) :: r => by
    have ih := length_putF f v r
    rw [show putF f v ((k, x) :: r) = (if k = f then (k, v) :: r else (k, x) :: putF f v r) from rfl]
    by_cases hk : k = f
    · rw [if_pos hk, List.length_cons, List.length_cons]; omega
    · rw [if_neg hk, List.length_cons, List.length_cons]; omega

theorem RelO.some_of {v : V} {o : Option Value} (r : RelO (some v) o) : ∃ u, o = some u ∧ RelV v u := by
  cases o with
  | none => exact (show False from r).elim
  | some u => exact ⟨u, rfl, r⟩
theorem RelO.none_of {o : Option Value} (r : RelO none o) : o = none := by
  cases o with
  | none => rfl
  | some u => exact (show False from r).elim
theorem handed_of {v : V} {u : Value} (r : RelV v u) : PySem.W.handedIn u = true := by
  cases v with
  | non => cases (show u = Value.none from r); rfl
  | bl b => cases (show u = Value.bool b from r); rfl
  | int i => obtain ⟨t, e⟩ := (show ∃ t, u = Value.int i t from r); cases e; rfl
  | str x => obtain ⟨t, e⟩ := (show ∃ t, u = Value.str x t from r); cases e; rfl
  | byt b => obtain ⟨t, e⟩ := (show ∃ t, u = Value.bytes b t from r); cases e; rfl
  | flt b => obtain ⟨t, e⟩ := (show ∃ t, u = Value.float b t from r); cases e; rfl
  | ref a => cases (show u = Value.ref a from r); rfl
  | ty n => cases (show u = Value.type n from r); rfl

section
variable {P : Program} {w : World} {H H' : Hp} {h h' : Heap} {a C dx : Addr} {fs fs' : List (Str × V)}
theorem ins_get (hok : HOk P w H h) (e : H a = some (.ins C dx fs)) : ∃ mA, ObjM h a dx C mA ∧ (∀ f, RelO (fs.lookup f) (mA f)) ∧ PySem.Within mA (fs.map (·.1)) ∧ fs.length ≤ 1000 ∧ H dx = some (.own a) := by
  obtain ⟨d, z, ne, ob, mA, n, r, q⟩ := (show ObjOk P w H h a (.ins C dx fs) from hok a _ e)
  exact ⟨mA, ⟨ob, n, ne⟩, r, q, z, d⟩
end

/-! ### what of the text a class must have -/
structure Cls (K : PySem.W.Frag) (C : Addr) : Prop where
  pg : PySem.W.plainGet K C Str.empty = true
  hd : PySem.W.hasDictIn K C = true
  po : PySem.W.plainOver K C = true
  sa : PySem.W.findIn K (.ref C) "__setattr__" = some (some (.builtin "object.__setattr__"))
theorem Cls.get {K : PySem.W.Frag} {C : Addr} (c : Cls K C) (f : Str) : PySem.W.plainGet K C f = true := c.pg
/-- no class of it has the name -/
def NoAttr (K : PySem.W.Frag) (C : Addr) (f : Str) : Prop := PySem.W.findIn K (.ref C) f = some none
theorem NoAttr.taker {K : PySem.W.Frag} {C : Addr} {f : Str} (n : NoAttr K C f) : PySem.W.takerIn K C f = some none := by
  unfold PySem.W.takerIn
  rw [show PySem.W.findIn K (.ref C) f = some none from n]
  rfl
/-- a constant of the class -/
structure Con (K : PySem.W.Frag) (C : Addr) (f : Str) (v : V) (u : Value) : Prop where
  at_ : PySem.W.findIn K (.ref C) f = some (some u)
  rel : RelV v u
  get : PySem.W.specialIn K u "__get__" = some none
  cp : PySem.W.copiedNames.contains f = false
/-- a method: a plain def of the class or of one above it -/
structure Meth (K : PySem.W.Frag) (C : Addr) (m : Str) (f : Addr) : Prop where
  at_ : PySem.W.findIn K (.ref C) m = some (some (.ref f))
  fn : PySem.W.isFn K (.ref f) = true
  kp : PySem.W.keepIn K (.ref f) = true

section
variable {X : Cx} {pins : List (Addr × Obj)} {σ : St} {H : Hp} {s : Shared} {a C dx : Addr} {fs : List (Str × V)} {f : Str} {v : V} {A : Around} {E : Value → Shared → Prop}

theorem getattr_ok {b : Bool} {Q : Value → Shared → Prop} (I : Inv X pins σ H s) (e : H a = some (.ins C dx fs)) (c : Cls X.K C) (n : NoAttr X.K C f) (l : fs.lookup f = some v)
    (h : ∀ u s', Inv X pins σ H s' → RelV v u → Q u s') : wpAny (model X.prog X.w) A (getAttr (.ref a) f b) Q E s := by
  obtain ⟨mA, O, r, _, _, _⟩ := ins_get I.hok e
  obtain ⟨u, hu, ru⟩ := RelO.some_of (v := v) (o := mA f) (by rw [← l]; exact r f)
  exact get_map I.kIn O (c.get f) c.hd n hu (handed_of ru) (h u _ (I.tok _) ru)

theorem getmeth_ok {m : Str} {g : Addr} {pl : Sem Bool} {Q : Value × List Value → Shared → Prop} (I : Inv X pins σ H s) (e : H a = some (.ins C dx fs)) (c : Cls X.K C) (k : Meth X.K C m g) (l : fs.lookup m = none)
    (h : Q (.ref g, [.ref a]) s) : wpAny (model X.prog X.w) A (getMethod (.ref a) m pl) Q E s := by
  obtain ⟨mA, O, r, _, _, _⟩ := ins_get I.hok e
  have hn : mA m = none := RelO.none_of (by rw [← l]; exact r m)
  exact get_meth I.kIn O (c.get m) k.at_ k.fn hn h

theorem setattr_ok {y : V} {u : Value} {Q : Unit → Shared → Prop} (I : Inv X pins σ H s) (e : H a = some (.ins C dx fs)) (c : Cls X.K C) (n : NoAttr X.K C f) (hl : fs.length < 1000) (ry : RelV y u)
    (h : ∀ s', Inv X pins σ (upd H a (.ins C dx (putF f y fs))) s' → Q () s') : wpAny (model X.prog X.w) A (setAttr (.ref a) f u) Q E s := by
  obtain ⟨mA, O, r, wi, _, ho⟩ := ins_get I.hok e
  have hz : (fs.map (·.1)).length ≤ sizeLine := by rw [List.length_map, sizeLine_eq]; omega
  refine set_map I.kIn O c.sa c.po n.taker c.hd wi hz fun h' O' sb => h _ ?_
  have hd : ∃ o, h'.get? dx = some o := let ⟨o, _, _, e', _⟩ := O'.ns; ⟨o, e'⟩
  refine I.write (x := a) (e := dx) (by rw [e]; exact True.intro) (.inr ho) (fun b q hb z => (sb.2 b hb).trans z) hd ?_
  refine ⟨by rw [upd_ne O.ne]; exact ho, ?_, O.ne, O'.obj, _, O'.ns, fun g => ?_, fun g hg => ?_⟩
  · have := length_putF f y fs; omega
  · show RelO ((putF f y fs).lookup g) (if g = f then some u else mA g)
    rw [lookup_putF]
    by_cases q : g = f
    · rw [if_pos q, if_pos q]; exact ry
    · rw [if_neg q, if_neg q]; exact r g
  · by_cases q : g = f
    · rw [q]; exact (keys_putF f y fs).1
    · refine (keys_putF f y fs).2 g (wi g fun z => hg ?_)
      show (if g = f then some u else mA g) = none
      rw [if_neg q]; exact z

/-- a new instance, tracked, without attributes -/
theorem Inv.made (I : Inv X pins σ H s) : Inv X pins σ (upd (upd H s.heap.objs.size (.own (s.heap.objs.size + 1))) (s.heap.objs.size + 1) (.ins C s.heap.objs.size []))
    { s with heap := (s.heap.push PySem.W.emptyDict).push (PySem.W.instObj C s.heap.objs.size) } := by
  have e1 : (s.heap.push PySem.W.emptyDict).get? s.heap.objs.size = some PySem.W.emptyDict := Heap.get?_push_size s.heap rfl
  have e2 : ((s.heap.push PySem.W.emptyDict).push (PySem.W.instObj C s.heap.objs.size)).get? (s.heap.objs.size + 1) = some (PySem.W.instObj C s.heap.objs.size) := by
    have := Heap.get?_push_size (s.heap.push PySem.W.emptyDict) (o := PySem.W.instObj C s.heap.objs.size) rfl
    rwa [Heap.size_push] at this
  have e3 : (s.heap.push PySem.W.emptyDict).Ns s.heap.objs.size (fun _ => none) := ⟨PySem.W.emptyDict, #[], _, e1, rfl, (fun e he => absurd he (by simp)), fun _ => rfl⟩
  have I1 := I.laid (a := s.heap.objs.size) (o := .own (s.heap.objs.size + 1)) (h' := s.heap.push PySem.W.emptyDict) (t' := s.toks) (fun b u q => Heap.get?_push_of_some _ q) (Nat.le_refl _) ⟨_, e1⟩
  refine I1.laid (a := s.heap.objs.size + 1) (o := .ins C s.heap.objs.size []) (t' := s.toks) (fun b u q => Heap.get?_push_of_some _ q) (Nat.le_of_eq (Heap.size_push _ _)) ?_
  have ne : s.heap.objs.size ≠ s.heap.objs.size + 1 := Nat.ne_of_lt (Nat.lt_succ_self _)
  refine ⟨by rw [upd_ne ne, upd_same], Nat.zero_le _, ne, e2, fun _ => none, (Heap.Ns1.of_empty e3).at fun o q => Heap.get?_push_of_some _ q, fun _ => True.intro, fun y hy => absurd rfl hy⟩

/-- e.f where nothing but the object is asked: through attributeBase (super) and the last hold -/
theorem attr_of {prog : Program} {w : World} {env : Env} {e : Expr} {f : Str} {pos : Pos} {s : Shared} {Q : Value → Shared → Prop} (hb : attributeBase e f env (eval e env) = eval e env)
    (h : wpAny (model prog w) A (eval e env) (fun o s₁ => wpAny (model prog w) A (getAttr o f true) Q E s₁) E s) : wpAny (model prog w) A (eval (.Attribute e f pos) env) Q E s :=
  Attribute_any_ h (by rw [arm_eval_Attribute, hb])
end

/-! ### readings and rules -/
/-- e.f, an attribute of the instance -/
def tFld (K : PySem.W.Frag) (ta : TE) (f : Str) : TE := fun σ H Q => ta σ H fun x H1 => ∃ a C dx fs v, x = .ref a ∧ H1 a = some (.ins C dx fs) ∧ Cls K C ∧ NoAttr K C f ∧ fs.lookup f = some v ∧ Q v H1
/-- e.f = value -/
def sFld (K : PySem.W.Frag) (ta tv : TE) (f : Str) : TS := fun D σ H => tv σ H fun y H1 => ta σ H1 fun x H2 => ∃ a C dx fs, x = .ref a ∧ H2 a = some (.ins C dx fs) ∧ Cls K C ∧ NoAttr K C f ∧ fs.length < 1000 ∧
  D.nx σ (upd H2 a (.ins C dx (putF f y fs)))
section
variable {X : Cx} {o e value : Expr} {f : Str} {pos pos' tpos : Pos} {ta tv : TE}
theorem pe_fld (he : PE X e ta) (hb : attributeBase e f X.env (eval e X.env) = eval e X.env) : PE X (.Attribute e f pos) (tFld X.K ta f) := by
  intro pins s σ H Q I h
  refine attr_of hb (thn (he pins s σ H _ I h) fun u s1 ⟨x, H1, I1, rx, a, C, dx, fs, v, ex, ea, c, n, l, q⟩ => ?_)
  subst ex
  obtain rfl : u = Value.ref a := rx
  exact getattr_ok I1 ea c n l fun u' s2 I2 ru => ⟨v, H1, I2, ru, q⟩
theorem ps_fld (ha : PE X o ta) (hv : PE X value tv) (hs : swapsWith value (some (.Attribute o f pos')) pos.line X.env = pure false) : PS X (.Assign [.Attribute o f pos'] value pos) (sFld X.K ta tv f) := by
  intro pins s σ H D I h
  refine plainObj_wpAny_Assign_Attribute (thn (hv pins s σ H _ I h) fun u s1 ⟨y, H1, I1, ry, q⟩ => thn (ha pins s1 σ H1 _ I1 q) fun ov s2 ⟨x, H2, I2, rx, a, C, dx, fs, ex, ea, c, n, l, q2⟩ => ?_) hs
  subst ex
  obtain rfl : ov = Value.ref a := rx
  exact setattr_ok I2 ea c n l ry fun s3 I3 => ⟨σ, _, I3, q2⟩
/-- what is between an instance and its method: the tree of a method call -/
theorem methcall_of {pl : Sem Bool} {m : Str} {apos : Pos} {args : List Expr} {pins : List (Addr × Obj)} {s : Shared} {σ : St} {H : Hp} {Q : Value → Shared → Prop} {te : TE} (he : PE X e te) (I : Inv X pins σ H s)
    (h : te σ H fun x H1 => ∃ a C dx fs g, x = .ref a ∧ H1 a = some (.ins C dx fs) ∧ Cls X.K C ∧ Meth X.K C m g ∧ fs.lookup m = none ∧
      ∀ s1, Inv X pins σ H1 s1 → wpAny (model X.prog X.w) X.A (callWith pos (.ref g) [.ref a] (backTo pos (starEach args X.env)) (backToKw pos (keywordEach [] X.env))) Q X.xe s1)
    (ht : eval (.Call (.Attribute e m apos) args [] pos) X.env = (do
      let ov ← eval e X.env
      standAt apos.atName
      let (f, first) ← holding [ov] (getMethod ov m pl)
      callWith pos f first (backTo pos (starEach args X.env)) (backToKw pos (keywordEach [] X.env)))) :
    wpAny (model X.prog X.w) X.A (eval (.Call (.Attribute e m apos) args [] pos) X.env) Q X.xe s := by
  refine PySem.W.methodCall_KW (pl := pl) (thn (he pins s σ H _ I h) fun u s1 ⟨x, H1, I1, rx, a, C, dx, fs, g, ex, ea, c, k, l, q⟩ => ?_) ht
  subst ex
  obtain rfl : u = Value.ref a := rx
  exact getmeth_ok I1 ea c k l (q s1 I1)
end

/-! ### isinstance -/
section
variable {X : Cx} {pins : List (Addr × Obj)} {σ : St} {H : Hp} {s : Shared} {A : Around} {E : Value → Shared → Prop} {Q : Value → Shared → Prop} {c : Value} {b : Bool}
/-- the type of a value, as the fragment's deciders take it; for an instance its class -/
inductive TyOf (K : PySem.W.Frag) (H : Hp) : V → Value → Prop where
  | non : TyOf K H .non (.type "NoneType")
  | bl (x : Bool) : TyOf K H (.bl x) (.type "bool")
  | int (i : Int) : TyOf K H (.int i) (.type "int")
  | str (x : Str) : TyOf K H (.str x) (.type "str")
  | flt (x : UInt64) : TyOf K H (.flt x) (.type "float")
  | lst {a : Addr} {xs : List V} (e : H a = some (.lst xs)) : TyOf K H (.ref a) (.type "list")
  | frz {a : Addr} {o : Obj} {xs : List V} (e : H a = some (.frz o (.lst xs))) : TyOf K H (.ref a) (.type "list")
  | tup {a : Addr} {xs : List V} (e : H a = some (.tup xs)) : TyOf K H (.ref a) (.type "tuple")
  | dK {a : Addr} {kvs : List (Key × V)} (e : H a = some (.dK kvs)) : TyOf K H (.ref a) (.type "dict")
  | dT {a : Addr} {kvs : List (List Key × V)} (e : H a = some (.dT kvs)) : TyOf K H (.ref a) (.type "dict")
  | ins {a C dx : Addr} {fs : List (Str × V)} (e : H a = some (.ins C dx fs)) (cl : Cls K C) (ha : PySem.W.findIn K (.ref C) "__class__" = some (some (.builtin "object.__class__")))
      (hn : PySem.W.specialIn K (.builtin "object.__class__") "__get__" = some (some (.builtin "getset_descriptor.__get__"))) (htk : PySem.W.takesIn K (.builtin "object.__class__") = some true)
      (hm : PySem.W.mroIn K C (.type "object") = some true) : TyOf K H (.ref a) (.ref C)
/-- isinstance(x, c) for one class c, a built-in or an own one: kitOne's answer -/
theorem isinst_ok {x : V} {u t : Value} (I : Inv X pins σ H s) (rx : RelV x u) (ty : TyOf X.K H x t) (e : PySem.W.kitOne X.K t c = some b) (h : ∀ tk, Q (.bool b) { s with toks := tk }) :
    wpAny (model X.prog X.w) A (call (.builtin "isinstance") [u, c]) Q E s := by
  cases ty with
  | non => cases (show u = Value.none from rx); exact PySem.W.kia_one PySem.W.kitx_none I.kIn True.intro e (fun z => nomatch z) h
  | bl y => cases (show u = Value.bool y from rx); exact PySem.W.kia_one PySem.W.kitx_bool I.kIn True.intro e (fun z => nomatch z) h
  | int i => obtain ⟨t, q⟩ := (show ∃ t, u = Value.int i t from rx); cases q; exact PySem.W.kia_one PySem.W.kitx_int I.kIn True.intro e (fun z => nomatch z) h
  | str y => obtain ⟨t, q⟩ := (show ∃ t, u = Value.str y t from rx); cases q; exact PySem.W.kia_one PySem.W.kitx_str I.kIn True.intro e (fun z => nomatch z) h
  | flt y => obtain ⟨t, q⟩ := (show ∃ t, u = Value.float y t from rx); cases q; exact PySem.W.kia_one PySem.W.kitx_float I.kIn True.intro e (fun z => nomatch z) h
  | @lst a xs ea =>
    cases (show u = Value.ref a from rx)
    obtain ⟨_, _, n, _, h1⟩ := (show ObjOk X.prog X.w H s.heap a (.lst xs) from I.hok a _ ea)
    exact PySem.W.kia_one PySem.W.kitx_list I.kIn ⟨_, h1, rfl⟩ e (fun z => nomatch z) h
  | @frz a ob xs ea =>
    cases (show u = Value.ref a from rx)
    obtain ⟨_, _, _, n, _, h1⟩ := (show ObjOk X.prog X.w H s.heap a (.frz ob (.lst xs)) from I.hok a _ ea)
    exact PySem.W.kia_one PySem.W.kitx_list I.kIn ⟨_, h1, rfl⟩ e (fun z => nomatch z) h
  | @tup a xs ea =>
    cases (show u = Value.ref a from rx)
    obtain ⟨_, _, _, p⟩ := (show ObjOk X.prog X.w H s.heap a (.tup xs) from I.hok a _ ea)
    obtain ⟨o, h1, h2, _⟩ := p
    exact PySem.W.kia_one PySem.W.kitx_tuple I.kIn ⟨o, h1, h2⟩ e (fun z => nomatch z) h
  | @dK a kvs ea =>
    cases (show u = Value.ref a from rx)
    obtain ⟨_, _, vs, _, p⟩ := (show ObjOk X.prog X.w H s.heap a (.dK kvs) from I.hok a _ ea)
    obtain ⟨o, es, ep, h1, h2, _⟩ := p
    exact PySem.W.kia_one PySem.W.kitx_dict I.kIn ⟨o, h1, h2.1⟩ e (fun z => nomatch z) h
  | @dT a kvs ea =>
    cases (show u = Value.ref a from rx)
    obtain ⟨_, _, xs, _, o, es, ep, h1, h2, _⟩ := (show ObjOk X.prog X.w H s.heap a (.dT kvs) from I.hok a _ ea)
    exact PySem.W.kia_one PySem.W.kitx_dict I.kIn ⟨o, h1, h2.1⟩ e (fun z => nomatch z) h
  | @ins a C dx fs ea cl ha hn htk hm =>
    cases (show u = Value.ref a from rx)
    obtain ⟨mA, O, _⟩ := ins_get I.hok ea
    obtain ⟨od, J, _⟩ := O.look
    exact PySem.W.kia_one (PySem.W.kitx_own (cl.get _) cl.hd ha hn htk hm) I.kIn J e (fun z => nomatch z) h
end
end L2

namespace L2
open PySem PySem.Spec PyProof.Rows

/-! ### room -/
structure Room (k : Nat) (A : Around) : Prop where
  hd : A.handled = none
  dp : A.depth + 3 * k + 5 < recursionLimit
  un : A.units + 16 * k + 200 < cLine
theorem Room.mono {j k : Nat} {A : Around} (r : Room k A) (h : j ≤ k) : Room j A := ⟨r.hd, by have := r.dp; omega, by have := r.un; omega⟩
theorem Room.deeper {k : Nat} {A : Around} (r : Room (k + 1) A) (env : Env) : Room k (A.deeper env) :=
  ⟨r.hd, by have := r.dp; show A.depth + 1 + 3 * k + 5 < _; omega, by have := r.un; show A.units + 3 + 16 * k + 200 < _; omega⟩
theorem make_depth {A : Around} {C : Addr} {us : List Value} {kw : List (Str × Value)} : (A.under (.builtin "type.__call__" ⟨.ref C :: us, kw⟩)).depth = A.depth + 1 := by
  first | rfl | simp [Around.under, Code.weight, Code.isCreation, Code.isGuard, Code.isCaller, Code.frames, Code.isFrame, guardIds]
theorem make_units {A : Around} {C : Addr} {us : List Value} {kw : List (Str × Value)} : (A.under (.builtin "type.__call__" ⟨.ref C :: us, kw⟩)).units = A.units + 1 := by
  first | rfl | simp [Around.under, Code.cUnits, Code.frames, Code.isFrame]
theorem Room.make {k : Nat} {A : Around} (r : Room (k + 1) A) (C : Addr) (us : List Value) (kw : List (Str × Value)) : Room k (A.under (.builtin "type.__call__" ⟨.ref C :: us, kw⟩)) :=
  ⟨r.hd, by have := r.dp; rw [make_depth]; omega, by have := r.un; rw [make_units]; omega⟩
theorem Room.depth {k : Nat} {A : Around} (r : Room k A) : A.depth < recursionLimit := by have := r.dp; omega
theorem Room.units {k : Nat} {A : Around} (r : Room k A) : A.units + 64 < cLine := by have := r.un; omega
/-! ### argument lists and displays -/
def tNil : TA := fun _ H Q => Q [] H
def tCons (ta : TE) (tr : TA) : TA := fun σ H Q => ta σ H fun x H1 => tr σ H1 fun xs H2 => Q (x :: xs) H2
section
variable {X : Cx} {e : Expr} {es : List Expr} {te : TE} {t : TA} {pos : Pos}
theorem pa_nil : PA X [] tNil := fun _ _ _ _ H Q I h => Calls.spliced_nil ⟨[], H, I, .nil, h⟩
theorem pa_cons (ha : PE X e te) (hr : PA X es t) (hs : starEach (e :: es) X.env = (false, eval e X.env) :: starEach es X.env := by rfl) : PA X (e :: es) (tCons te t) := by
  intro pos pins s σ H Q I h
  rw [hs]
  show wpAny _ _ (spliced ((false, eval e X.env) :: backTo pos (starEach es X.env))) _ _ s
  refine Calls.spliced_cons (thn (ha pins s σ H _ I h) fun u s1 ⟨x, H1, I1, r1, q1⟩ => ?_)
  exact thn (hr pos pins s1 σ H1 _ I1 q1) fun us s2 ⟨xs, H2, I2, r2, q2⟩ => ⟨x :: xs, H2, I2, .cons r1 r2, q2⟩

/-- a tuple, a list of written items -/
def tTup (t : TA) : TE := fun σ H Q => t σ H fun xs H1 => xs.length ≤ sizeLine ∧ ∀ p, H1 p = none → Q (.ref p) (upd H1 p (.tup xs))
def tLst (t : TA) : TE := fun σ H Q => t σ H fun xs H1 => xs.length ≤ sizeLine ∧ ∀ p, H1 p = none → Q (.ref p) (upd H1 p (.lst xs))
theorem pe_tup {x1} (h : PA X es t) : PE X (.Tuple es x1 pos) (tTup t) := by
  intro pins s σ H Q I hq
  refine wpAny_Tuple_spliced (thn (h pos pins s σ H _ I hq) fun us s1 ⟨xs, H1, I1, r, z, q⟩ => ⟨by rw [← r.length]; exact z, ?_⟩)
  have hf : H1 s1.heap.objs.size = none := I1.hok.fresh (Nat.le_refl _)
  refine ⟨.ref s1.heap.objs.size, upd H1 s1.heap.objs.size (.tup xs), I1.laid (t' := s1.toks) (fun b u e => Heap.get?_push_of_some _ e) (Nat.le_refl _) ?_, rfl, q _ hf⟩
  exact ⟨z, us, r, ⟨_, Heap.get?_push_size _ rfl, rfl, _, rfl⟩⟩
theorem pe_lst (h : PA X es t) : PE X (.List es pos) (tLst t) := by
  intro pins s σ H Q I hq
  refine wpAny_List_spliced (thn (h pos pins s σ H _ I hq) fun us s1 ⟨xs, H1, I1, r, z, q⟩ => ⟨by rw [← r.length]; exact z, ?_⟩)
  have hf : H1 s1.heap.objs.size = none := I1.hok.fresh (Nat.le_refl _)
  refine ⟨.ref s1.heap.objs.size, upd H1 s1.heap.objs.size (.lst xs), I1.laid (t' := s1.toks) (fun b u e => Heap.get?_push_of_some _ e) (Nat.le_refl _) ?_, rfl, q _ hf⟩
  exact ⟨z, us, 0, r, Heap.get?_push_size _ rfl⟩
end

/-! ### what a def promises -/
/-- a def's promise: the bound arguments in the parameters' order, the heap, the wanted end, the wanted exception -/
abbrev Sp := List V → Hp → VK → XK → Prop
/-- how an exception lies behind a call (file 08 gives it): the callers' frames, abstract heap and state ahead of the call, the wish, the exception, the state -/
abbrev CXT := List Env → Hp → Shared → XK → Value → Shared → Prop

/-- the state at a call -/
structure Env0 (P : Program) (w : World) (K : PySem.W.Frag) (mg : Str → Option Value) (base : Heap) (A : Around) (outer : List Env) (s : Shared) (H : Hp) : Prop where
  frames : A.frames = some outer
  mod : Mod K mg base
  bs : ∀ b o, base.get? b = some o → s.heap.get? b = some o ∧ H b = none
  bsz : base.objs.size ≤ s.heap.objs.size
  funs : s.heap.FunFrames base outer
  frf : ∀ b ∈ frs outer, H b = none
  hok : HOk P w H s.heap
  bare : AllBare s.gens
/-- a call's end -/
def CE (outer : List Env) (P : Program) (w : World) (H : Hp) (s : Shared) (Q : VK) (u : Value) (s' : Shared) : Prop :=
  ∃ v H', s'.os = s.os ∧ AllBare s'.gens ∧ Un (frs outer) [] H H' s.heap s'.heap ∧ HOk P w H' s'.heap ∧ RelV v u ∧ Q v H'
def CR (CX : CXT) (outer : List Env) (P : Program) (w : World) (H : Hp) (s : Shared) (Q : VK) (E : XK) (r : Result) (s' : Shared) : Prop :=
  match r with
  | .ok (.ret u) => CE outer P w H s Q u s'
  | .ok _ => False
  | .error e => CX outer H s E e s'
structure FnOk (P : Program) (w : World) (K : PySem.W.Frag) (mg : Str → Option Value) (base : Heap) (CX : CXT) (k : Nat) (f : Addr) (fd : FuncData) (ps : List Str) (sp : Sp) : Prop where
  len : ∀ vs H Q E, sp vs H Q E → vs.length = ps.length
  run : ∀ (A : Around) (outer : List Env) (s : Shared) (H : Hp) (args : Args) (us : List Value) (vs : List V) (Q : VK) (E : XK), Room k A → Env0 P w K mg base A outer s H → BindsTo s fd args (ps.zip us) → Vals vs us → sp vs H Q E →
    codeAny (model P w) A (.call (.ref f) args) (CR CX outer P w H s Q E) s
theorem Env0.make {P : Program} {w : World} {K : PySem.W.Frag} {mg : Str → Option Value} {base : Heap} {A : Around} {outer : List Env} {s : Shared} {H : Hp} (e : Env0 P w K mg base A outer s H) (C : Addr) (us : List Value) (kw : List (Str × Value)) :
    Env0 P w K mg base (A.under (.builtin "type.__call__" ⟨.ref C :: us, kw⟩)) outer s H := ⟨by first | exact e.frames | (simpa [Around.under, Code.envs, Code.isFrame, pushEnvs] using e.frames), e.mod, e.bs, e.bsz, e.funs, e.frf, e.hok, e.bare⟩
section
variable {X : Cx} {pins : List (Addr × Obj)} {σ : St} {H : Hp} {s s' : Shared}
/-- from a body: what a callee wants -/
theorem Inv.env0 (I : Inv X pins σ H s) : Env0 X.prog X.w X.K X.mg X.base X.A X.stack s H :=
  ⟨I.ok.frames, I.ok.mod, I.bs, Nat.le_trans I.ok.bsz I.sz, I.stack, I.stkFree, I.hok, I.bare⟩
/-- behind a call -/
theorem Inv.after {Q : VK} {u : Value} (I : Inv X pins σ H s) (h : CE X.stack X.prog X.w H s Q u s') : EP X pins σ Q u s' := by
  obtain ⟨v, H', os, bare, un, hok, r, q⟩ := h
  obtain ⟨hh, g, d, t, os'⟩ := s'
  obtain rfl : os' = s.os := os
  exact ⟨v, H', I.call (h' := hh) (g' := g) (d' := d) (t' := t) (ch := []) un hok bare (fun b z => absurd z (by simp)), r, q⟩
end

/-! ### calls -/
/-- f(..): the written arguments, then the defaults dvs; E: what is wanted of an exception -/
def tCall (sp : Sp) (dvs : List V) (E : XK) (t : TA) : TE := fun σ H Q => t σ H fun vs H1 => sp (vs ++ dvs) H1 Q E
/-- o.m(..) of an instance of the class at C -/
def tMeth (C : Addr) (m : Str) (sp : Sp) (dvs : List V) (E : XK) (ta : TE) (t : TA) : TE := fun σ H Q => ta σ H fun x H1 => ∃ a dx fs, x = .ref a ∧ H1 a = some (.ins C dx fs) ∧ fs.lookup m = none ∧
  t σ H1 fun vs H2 => sp (x :: (vs ++ dvs)) H2 Q E
/-- C(..): a new instance and its dict, then __init__ -/
def tMake (C : Addr) (sp : Sp) (dvs : List V) (E : XK) (t : TA) : TE := fun σ H Q => t σ H fun vs H1 => ∀ x dx, H1 x = none → H1 dx = none → dx ≠ x →
  sp (.ref x :: (vs ++ dvs)) (upd (upd H1 dx (.own x)) x (.ins C dx [])) (fun v H2 => v = .non ∧ Q (.ref x) H2) E

/-- how the parameters are bound: us the positional arguments, kw the keywords' values by name, ds the defaults that fill up -/
def Binds (K : PySem.W.Frag) (fd : FuncData) (ps : List Str) (ds : List Value) : Prop :=
  ∀ (s : Shared) (us : List Value), K.In s.heap → (us ++ ds).length = ps.length → BindsTo s fd ⟨us, []⟩ (ps.zip (us ++ ds))
/-- every parameter is given -/
theorem Binds.all {K : PySem.W.Frag} {fd : FuncData} {ps : List Str} (h : ∀ us : List Value, us.length = ps.length → bindArgs fd ⟨us, []⟩ = pure (ps.zip us)) : Binds K fd ps [] := fun s us _ hl => by
  rw [List.append_nil] at hl ⊢
  exact .of_eq (h us hl)

/-- an exception of a callee reaches what this body wants of exceptions -/
def Passes (CX : CXT) (X : Cx) (E : XK) : Prop := ∀ (pins : List (Addr × Obj)) (σ : St) (H : Hp) (s : Shared) (e : Value) (s' : Shared), Inv X pins σ H s → CX X.stack H s E e s' → X.xe e s'

section
variable {X : Cx} {CX : CXT} {k : Nat} {f C : Addr} {fd : FuncData} {ps : List Str} {sp : Sp} {dvs : List V} {ds : List Value} {E : XK} {x m : Str} {p pos apos : Pos} {e o : Expr} {es : List Expr} {ta : TE} {t : TA}

/-- the callee runs -/
theorem run_fn {pins : List (Addr × Obj)} {σ : St} {H : Hp} {s : Shared} {Q : VK} {us : List Value} {vs : List V} (F : FnOk X.prog X.w X.K X.mg X.base CX k f fd ps sp) (hr : Room k X.A) (hb : Binds X.K fd ps ds) (hd : Vals dvs ds) (hx : Passes CX X E)
    (I : Inv X pins σ H s) (r : Vals vs us) (h : sp (vs ++ dvs) H Q E) : wpAny (model X.prog X.w) X.A (call (.ref f) us) (EP X pins σ Q) X.xe s := by
  have r2 : Vals (vs ++ dvs) (us ++ ds) := r.append hd
  have hl : (us ++ ds).length = ps.length := by rw [← r2.length]; exact F.len _ _ _ _ h
  refine wpAny_call (codeAny_mono (F.run X.A X.stack s H ⟨us, []⟩ (us ++ ds) (vs ++ dvs) Q E hr I.env0 (hb s us I.kIn hl) r2 h) fun r s' hq => ?_)
  cases r with
  | error e => exact hx pins σ H s e s' I hq
  | ok fl =>
    cases fl with
    | ret u => exact I.after hq
    | next => exact False.elim hq
    | brk => exact False.elim hq
    | cont => exact False.elim hq

theorem pe_call (F : FnOk X.prog X.w X.K X.mg X.base CX k f fd ps sp) (hr : Room k X.A) (hg : Gl X x) (hm : X.mg x = some (.ref f)) (hk : PySem.W.keepIn X.K (.ref f) = true) (hb : Binds X.K fd ps ds) (hd : Vals dvs ds) (hx : Passes CX X E)
    (ha : PA X (e :: es) t) (hdb : (x == ("__debug__" : Str)) = false := by decide) (he : starEach (e :: es) X.env = (false, eval e X.env) :: starEach es X.env := by rfl) (hpl : (backTo pos (starEach es X.env)).any (·.1) = false := by rfl) :
    PE X (.Call (.Name x p) (e :: es) [] pos) (tCall sp dvs E t) := by
  intro pins s σ H Q I h
  refine wpAny_Call_Name_kw (ld_glob I hg hm ?_ hdb)
  refine PySem.W.callWith_K (h₀ := X.base) I.ok.mod.kin hk (thn (ha pos pins s σ H _ I h) fun us s1 ⟨vs, H1, I1, r, q⟩ => ⟨I1.kIn, ?_⟩) he hpl
  exact run_fn F hr hb hd hx I1 r q
theorem pe_call0 (F : FnOk X.prog X.w X.K X.mg X.base CX k f fd ps sp) (hr : Room k X.A) (hg : Gl X x) (hm : X.mg x = some (.ref f)) (hk : PySem.W.keepIn X.K (.ref f) = true) (hb : Binds X.K fd ps ds) (hd : Vals dvs ds) (hx : Passes CX X E)
    (hdb : (x == ("__debug__" : Str)) = false := by decide) : PE X (.Call (.Name x p) [] [] pos) (tCall sp dvs E tNil) := by
  intro pins s σ H Q I h
  refine wpAny_Call_Name_kw (ld_glob I hg hm ?_ hdb)
  exact PySem.W.callWith_K0 I.kIn hk (run_fn (us := []) F hr hb hd hx I .nil h)

/-- o.m(e, ..) -/
theorem pe_meth {pl : Sem Bool} (he : PE X o ta) (c : Cls X.K C) (hm : Meth X.K C m f) (F : FnOk X.prog X.w X.K X.mg X.base CX k f fd ps sp) (hr : Room k X.A) (hb : Binds X.K fd ps ds) (hd : Vals dvs ds) (hx : Passes CX X E) (ha : PA X (e :: es) t)
    (hst : starEach (e :: es) X.env = (false, eval e X.env) :: starEach es X.env := by rfl) (hpl : (backTo pos (starEach es X.env)).any (·.1) = false := by rfl)
    (ht : eval (.Call (.Attribute o m apos) (e :: es) [] pos) X.env = (do
      let ov ← eval o X.env
      standAt apos.atName
      let (f, first) ← holding [ov] (getMethod ov m pl)
      callWith pos f first (backTo pos (starEach (e :: es) X.env)) (backToKw pos (keywordEach [] X.env))) := by rfl) :
    PE X (.Call (.Attribute o m apos) (e :: es) [] pos) (tMeth C m sp dvs E ta t) := by
  intro pins s σ H Q I h
  refine PySem.W.methodCall_KW (pl := pl) (thn (he pins s σ H _ I h) fun u s1 ⟨x, H1, I1, rx, a, dx, fs, ex, ea, l, q⟩ => ?_) ht
  subst ex
  obtain rfl : u = Value.ref a := rx
  refine getmeth_ok I1 ea c hm l ?_
  refine PySem.W.callWith_K (first := [.ref a]) (h₀ := X.base) I.ok.mod.kin hm.kp (thn (ha pos pins s1 σ H1 _ I1 q) fun us s2 ⟨vs, H2, I2, r, q2⟩ => ⟨I2.kIn, ?_⟩) hst hpl
  exact run_fn (us := .ref a :: us) (vs := .ref a :: vs) F hr hb hd hx I2 (.cons rfl r) q2
/-- what a class must have to be made -/
structure Mk (K : PySem.W.Frag) (C f : Addr) : Prop where
  makes : PySem.W.makesIn K C = true
  init : PySem.W.findIn K (.ref C) "__init__" = some (some (.ref f))
  fn : PySem.W.isFn K (.ref f) = true
  kp : PySem.W.keepIn K (.ref C) = true

theorem run_make {pins : List (Addr × Obj)} {σ : St} {H : Hp} {s : Shared} {Q : VK} {us : List Value} {vs : List V} (M : Mk X.K C f) (F : FnOk X.prog X.w X.K X.mg X.base CX k f fd ps sp) (hr : Room (k + 1) X.A) (hb : Binds X.K fd ps ds) (hd : Vals dvs ds)
    (hx : Passes CX X E) (I : Inv X pins σ H s) (r : Vals vs us)
    (h : ∀ x dx, H x = none → H dx = none → dx ≠ x → sp (.ref x :: (vs ++ dvs)) (upd (upd H dx (.own x)) x (.ins C dx [])) (fun v H2 => v = .non ∧ Q (.ref x) H2) E) :
    wpAny (model X.prog X.w) X.A (call (.ref C) us) (EP X pins σ Q) X.xe s := by
  have hq := h (s.heap.objs.size + 1) s.heap.objs.size (I.hok.fresh (Nat.le_succ _)) (I.hok.fresh (Nat.le_refl _)) (Nat.ne_of_lt (Nat.lt_succ_self _))
  have I2 := Inv.made (C := C) I
  have r2 : Vals (V.ref (s.heap.objs.size + 1) :: (vs ++ dvs)) (Value.ref (s.heap.objs.size + 1) :: (us ++ ds)) := .cons rfl (r.append hd)
  have hl : (Value.ref (s.heap.objs.size + 1) :: us ++ ds).length = ps.length := by
    have e := r2.length
    rw [F.len _ _ _ _ hq] at e
    exact e.symm
  refine wpAny_call (make_map (f := f) I.kIn M.makes M.init (beq_iff_eq.mp M.fn) (codeAny_mono (F.run _ X.stack _ _ ⟨Value.ref (s.heap.objs.size + 1) :: us, []⟩ (Value.ref (s.heap.objs.size + 1) :: (us ++ ds)) _ _ E (hr.make C us [])
    (I2.env0.make C us []) (hb _ (Value.ref (s.heap.objs.size + 1) :: us) I2.kIn hl) r2 hq) fun r s' hq' => ?_))
  cases r with
  | error e => exact hx pins σ _ _ e s' I2 hq'
  | ok fl =>
    cases fl with
    | ret u =>
      obtain ⟨v, H', I3, rv, ev, q3⟩ := I2.after hq'
      subst ev
      exact ⟨rv, ⟨V.ref (s.heap.objs.size + 1), H', I3, rfl, q3⟩⟩
    | next => exact False.elim hq'
    | brk => exact False.elim hq'
    | cont => exact False.elim hq'
theorem pe_make (M : Mk X.K C f) (F : FnOk X.prog X.w X.K X.mg X.base CX k f fd ps sp) (hr : Room (k + 1) X.A) (hg : Gl X x) (hm : X.mg x = some (.ref C)) (hb : Binds X.K fd ps ds) (hd : Vals dvs ds) (hx : Passes CX X E)
    (ha : PA X (e :: es) t) (hdb : (x == ("__debug__" : Str)) = false := by decide) (he : starEach (e :: es) X.env = (false, eval e X.env) :: starEach es X.env := by rfl) (hpl : (backTo pos (starEach es X.env)).any (·.1) = false := by rfl) :
    PE X (.Call (.Name x p) (e :: es) [] pos) (tMake C sp dvs E t) := by
  intro pins s σ H Q I h
  refine wpAny_Call_Name_kw (ld_glob I hg hm ?_ hdb)
  refine PySem.W.callWith_K (h₀ := X.base) I.ok.mod.kin M.kp (thn (ha pos pins s σ H _ I h) fun us s1 ⟨vs, H1, I1, r, q⟩ => ⟨I1.kIn, ?_⟩) he hpl
  exact run_make M F hr hb hd hx I1 r q
end

/-! ### keywords -/
section
variable {X : Cx} {CX : CXT} {k : Nat} {f C : Addr} {fd : FuncData} {ps ks : List Str} {sp : Sp} {E : XK} {x m : Str} {p pos apos kpos : Pos} {e o : Expr} {es : List Expr} {kws : List Keyword} {te ta : TE} {t tk : TA} {nm : Option Str}
/-- how a call with keywords binds: g puts the positional values us and the keywords' values ws (names ks) in the parameters' order, defaults among them -/
structure KBinds (K : PySem.W.Frag) (fd : FuncData) (ps ks : List Str) (g : List Value → List Value → List Value) (gV : List V → List V → List V) : Prop where
  to : ∀ (s : Shared) (us ws : List Value), K.In s.heap → (g us ws).length = ps.length → BindsTo s fd ⟨us, ks.zip ws⟩ (ps.zip (g us ws))
  rel : ∀ {vs : List V} {us : List Value} {zs : List V} {ws : List Value}, Vals vs us → Vals zs ws → Vals (gV vs zs) (g us ws)
variable {g : List Value → List Value → List Value} {gV : List V → List V → List V}
end

/-! ### a def's body keeps its promise -/
/-- names: the parameters first -/
structure FnScope (N P : List Str) (sc : Scope) : Prop where
  kind : sc.kind = .function
  co : sc.isCoroutine = false
  gen : sc.isGenerator = false
  nd : N.Nodup
  pre : N.take P.length = P
  par : ∀ x ∈ P, sc.names.lookup x = some .local ∨ sc.names.lookup x = some .cell
  nofree : ∀ y ∈ sc.names, y.2 ≠ .free

theorem bindL_out {kindOf : Str → Option NameKind} {x : Str} : ∀ {binds : List (Str × Value)} {m : Str → Option Value}, (∀ v, (x, v) ∉ binds) → bindL kindOf binds m x = m x
  | [], _, _ => rfl
  | (n, v) :: r, m, h => by
    unfold bindL
    rw [bindL_out fun w hw => h w (List.mem_cons_of_mem _ hw)]
    split
    · have : x ≠ n := by rintro rfl; exact h v List.mem_cons_self
      simp [this]
    · rfl
theorem bindC_out {kindOf : Str → Option NameKind} {x : Str} : ∀ {binds : List (Str × Value)} {m : Str → Option Value}, (∀ v, (x, v) ∉ binds) → bindC kindOf binds m x = m x
  | [], _, _ => rfl
  | (n, v) :: r, m, h => by
    unfold bindC
    rw [bindC_out fun w hw => h w (List.mem_cons_of_mem _ hw)]
    split
    · rfl
    · have : x ≠ n := by rintro rfl; exact h v List.mem_cons_self
      simp [this]
theorem bindL_get {kindOf : Str → Option NameKind} {x : Str} {v : Value} : ∀ {P : List Str} {vs : List Value} {i : Nat} {m : Str → Option Value}, P.Nodup → P[i]? = some x → vs[i]? = some v → kindOf x = some .local →
    bindL kindOf (P.zip vs) m x = some v
  | [], _, _, _, _, h, _, _ => by simp at h
  | _ :: _, [], _, _, _, _, h, _ => by simp at h
  | p :: P, w :: vs, 0, m, nd, h1, h2, hk => by
    simp at h1 h2; subst h1; subst h2
    show bindL kindOf ((p, w) :: P.zip vs) m p = _
    unfold bindL
    rw [bindL_out fun v hv => (List.nodup_cons.mp nd).1 (List.of_mem_zip hv).1, if_pos hk]
    simp
  | p :: P, w :: vs, i + 1, m, nd, h1, h2, hk => by
    show bindL kindOf ((p, w) :: P.zip vs) m x = _
    unfold bindL
    exact bindL_get (i := i) (List.nodup_cons.mp nd).2 (by simpa using h1) (by simpa using h2) hk
theorem bindC_get {kindOf : Str → Option NameKind} {x : Str} {v : Value} : ∀ {P : List Str} {vs : List Value} {i : Nat} {m : Str → Option Value}, P.Nodup → P[i]? = some x → vs[i]? = some v → kindOf x ≠ some .local →
    bindC kindOf (P.zip vs) m x = some v
  | [], _, _, _, _, h, _, _ => by simp at h
  | _ :: _, [], _, _, _, _, h, _ => by simp at h
  | p :: P, w :: vs, 0, m, nd, h1, h2, hk => by
    simp at h1 h2; subst h1; subst h2
    show bindC kindOf ((p, w) :: P.zip vs) m p = _
    unfold bindC
    rw [bindC_out fun v hv => (List.nodup_cons.mp nd).1 (List.of_mem_zip hv).1, if_neg hk]
    simp
  | p :: P, w :: vs, i + 1, m, nd, h1, h2, hk => by
    show bindC kindOf ((p, w) :: P.zip vs) m x = _
    unfold bindC
    exact bindC_get (i := i) (List.nodup_cons.mp nd).2 (by simpa using h1) (by simpa using h2) hk

/-- the names' values at the entry -/
def start (N : List Str) (vs : List V) : St := vs.map some ++ List.replicate (N.length - vs.length) none

/-- the context of a def's body, at its entry; an exception leaves the frame, then lies as CX says -/
def cxOf (CX : CXT) (P : Program) (w : World) (K : PySem.W.Frag) (mg : Str → Option Value) (base : Heap) (N : List Str) (qual : Str) (scope : Scope) (f : Addr) (cd : Value) (A : Around) (outer : List Env) (s : Shared) (H : Hp) (E : XK) : Cx where
  prog := P
  w := w
  K := K
  mg := mg
  base := base
  A := A.deeper (envOfC qual scope s.heap.objs.size f cd)
  N := N
  s₀ := s
  H₀ := H
  env := envOfC qual scope s.heap.objs.size f cd
  outer := outer
  stack := envOfC qual scope s.heap.objs.size f cd :: outer
  ex := []
  calm := true
  fn := fun _ => true
  pn := []
  xe := fun e s' => wpAny (model P w) (A.deeper (envOfC qual scope s.heap.objs.size f cd)) (leaving (envOfC qual scope s.heap.objs.size f cd) e) (fun _ s'' => CX outer H s E e s'') (fun e' s'' => CX outer H s E e' s'') s'

theorem cell_has {sc : Scope} {n : Nat} {x : Str} (h : sc.names.lookup x = some .cell) : ∃ c, (cellsFrom n sc.names []).lookup x = some c := by
  have q := PySem.W.cellsFrom_some sc.names n [] (.inl h)
  exact Option.isSome_iff_exists.mp q

theorem inv_start {CX : CXT} {P : Program} {w : World} {K : PySem.W.Frag} {mg : Str → Option Value} {base : Heap} {N ps : List Str} {qual : Str} {scope : Scope} {f : Addr} {cd : Value} {A : Around} {outer : List Env} {s s1 : Shared} {H : Hp} {E : XK} {us : List Value} {vs : List V}
    (S : FnScope N ps scope) (hd : A.handled = none) (e0 : Env0 P w K mg base A outer s H) (hl : vs.length = ps.length) (r : Vals vs us)
    (x : InCallC s s.heap.objs.size (bindL (envOfC qual scope s.heap.objs.size f cd).kindOf (ps.zip us) fun _ => none) (cellsFrom (s.heap.objs.size + 1) scope.names []) (bindC (envOfC qual scope s.heap.objs.size f cd).kindOf (ps.zip us) fun _ => none) s1) :
    Inv (cxOf CX P w K mg base N qual scope f cd A outer s H E) [] (start N vs) H s1 := by
  have hpl : ps.length ≤ N.length := by have := congrArg List.length S.pre; rw [List.length_take] at this; omega
  obtain ⟨h1, tk, rfl, hk⟩ := x.done
  have noA : ∀ b : Addr, b ∉ (cxOf CX P w K mg base N qual scope f cd A outer s H E).ex := fun b z => absurd (show b ∈ ([] : List Addr) from z) (by simp)
  refine ⟨⟨e0.mod, S.kind, rfl, rfl, Nat.le_refl _, fun y z c h1 h2 => ?_, fun y hy => ?_, fun y c _ h => ?_, fun _ => hd, Around.frames_deeper e0.frames, .inr ⟨rfl, rfl⟩, fun b z => absurd z (noA b), e0.bs, e0.bsz, fun b _ _ => noA b, fun b z => absurd z (noA b), e0.funs, e0.frf⟩,
    rfl, e0.bare, Un.kept hk, ⟨_, x.toInCall.ns, fun i y v h1 h2 h3 => ?_⟩, fun y c h => ⟨_, x.cell y c h⟩, e0.hok.fresh (Nat.le_refl _), fun y c h => ?_, fun p hp => absurd (show p ∈ ([] : List (Addr × Obj)) from hp) (by simp), e0.hok.kept hk, ?_⟩
  · exact name_of_addr x.apart (PySem.mem_of_lookup h1) (PySem.mem_of_lookup h2)
  · have hy : scope.names.lookup y = some .cell ∨ scope.names.lookup y = some .free := hy
    rcases hy with hy | hy
    · exact cell_has hy
    · exact absurd rfl (S.nofree _ (PySem.mem_of_lookup hy))
  · exact Nat.le_of_lt (x.above y c (PySem.mem_of_lookup h))
  · have hi : i < vs.length := by
      unfold start at h2
      by_cases hi : i < vs.length
      · exact hi
      · rw [List.getElem?_append_right (by simpa using hi)] at h2
        rw [List.getElem?_replicate] at h2
        split at h2 <;> cases h2
    have ha : vs[i]? = some v := by
      unfold start at h2
      rw [List.getElem?_append_left (by simpa using hi), List.getElem?_map] at h2
      cases e : vs[i]? with
      | none => rw [e] at h2; cases h2
      | some a => rw [e] at h2; cases h2; rfl
    obtain ⟨u, hu, rv⟩ := r.get ha
    have hp : ps[i]? = some y := by
      rw [← S.pre, List.getElem?_take_of_lt (by omega)]; exact h1
    have ndP : ps.Nodup := by rw [← S.pre]; exact S.nd.sublist (List.take_sublist _ _)
    refine ⟨u, rv, ?_⟩
    rcases S.par y (List.mem_of_getElem? hp) with k | k
    · exact .inl ⟨k, bindL_get ndP hp hu k⟩
    · obtain ⟨c, e⟩ := cell_has (n := s.heap.objs.size + 1) k
      refine .inr ⟨.inl k, c, e, ?_⟩
      have q := x.cell y c e
      rw [bindC_get ndP hp hu (by show scope.names.lookup y ≠ _; rw [k]; decide)] at q
      exact q
  · exact e0.hok.fresh (Nat.le_of_lt (x.above y c (PySem.mem_of_lookup h)))
  · unfold start
    show _ = N.length
    rw [List.length_append, List.length_map, List.length_replicate]
    omega

/-- THE RULE: a def (or a method) of the text, by its body. The body's reading t is chosen for each entry; it is run at the parameters' values -/
theorem fn_of {CX : CXT} {P : Program} {w : World} {K : PySem.W.Frag} {mg : Str → Option Value} {base : Heap} {k : Nat} {f : Addr} {name qual : Str} {params : Arguments} {body : List Stmt} {scope : Scope} {dV kV doc pm cdv ct oc : Value} {an od : Option Addr}
    {osl : Array (Option Value)} {N ps : List Str} {sp : Sp} (lk : K.lookup f = some ⟨oc, od, .func (PySem.W.fnOf name qual params body scope dV kV doc pm an cdv ct), osl⟩) (hcd : PySem.W.codeIn K cdv qual = true) (S : FnScope N ps scope)
    (len : ∀ vs H Q E, sp vs H Q E → vs.length = ps.length)
    (hbody : ∀ (A : Around) (outer : List Env) (s : Shared) (H : Hp) (vs : List V) (Q : VK) (E : XK), Room k (A.deeper (envOfC qual scope s.heap.objs.size f cdv)) → sp vs H Q E →
      ∃ t, PSs (cxOf CX P w K mg base N qual scope f cdv A outer s H E) body t ∧ t { nx := fun _ H' => Q .non H', rt := Q } (start N vs) H) :
    FnOk P w K mg base CX (k + 1) f (PySem.W.fnOf name qual params body scope dV kV doc pm an cdv ct) ps sp := by
  refine ⟨len, fun A outer s H args us vs Q E hr e0 hb r hsp => ?_⟩
  have hl := len _ _ _ _ hsp
  have KX : K.In s.heap := e0.mod.kin.keeps fun b o e => (e0.bs b o e).1
  have lim : s.heap.NoLimit := e0.mod.nolimit.keeps fun b o e => (e0.bs b o e).1
  have hkind : ∀ y ∈ ps.zip us, scope.names.lookup y.1 = some .local ∨ (scope.names.lookup y.1 = some .cell ∧ ((cellsFrom (s.heap.objs.size + 1) scope.names []).lookup y.1).isSome = true) := fun ⟨n, v⟩ hy => by
    rcases S.par n (List.of_mem_zip hy).1 with q | q
    · exact .inl q
    · exact .inr ⟨q, PySem.W.cellsFrom_some _ _ _ (.inl q)⟩
  refine codeAny_call_function hr.depth (KX _ _ lk) rfl S.co S.gen rfl (PySem.W.codeRec_of KX hcd) (hb _ _ _ _ ?_)
  refine wpAny_newFunctionEnv_cells S.kind hkind fun env he s1 x => ?_
  subst he
  refine ⟨lim.keeps x.toInCall.keep, codeAny_func ?_⟩
  obtain ⟨t, ht, hq⟩ := hbody A outer s H vs Q E (hr.deeper _) hsp
  have I : Inv (cxOf CX P w K mg base N qual scope f cdv A outer s H E) [] (start N vs) H s1 := inv_start S hr.hd e0 hl r x
  refine wpAny_mono (ht [] s1 (start N vs) H _ I hq) (fun fl s' hs => ?_) fun e s' hs => hs
  have fin : ∀ {σ' : St} {H' : Hp} {v : V} {u : Value}, Inv (cxOf CX P w K mg base N qual scope f cdv A outer s H E) [] σ' H' s' → RelV v u → Q v H' → CE outer P w H s Q u s' :=
    fun {σ' H' v u} J rv q => ⟨v, H', J.os, J.bare, J.base, J.hok, rv, q⟩
  cases fl with
  | ret u =>
    obtain ⟨v, σ', H', J, rv, q⟩ := hs
    exact fin J rv q
  | next =>
    obtain ⟨σ', H', J, q⟩ := hs
    exact fin (v := V.non) (u := Value.none) J rfl q
  | brk =>
    obtain ⟨_, _, _, q⟩ := hs
    exact False.elim q
  | cont =>
    obtain ⟨_, _, _, q⟩ := hs
    exact False.elim q
end L2

namespace L2
open PySem PySem.Spec PyProof.Rows
section
variable {X : Cx} {x : Str} {p pos : Pos} {e : Expr} {es : List Expr} {t : TA} {id T : String} {r : List V → Hp → VK → Prop}

def tCB (r : List V → Hp → VK → Prop) (t : TA) : TE := fun σ H Q => t σ H fun vs H1 => r vs H1 Q
/-- f(e, ..), f a built-in function -/
theorem pe_callB (hc : CallR X (.builtin id) r) (hg : Gl X x) (hm : X.mg x = none) (hv : bootBuiltins x = some (.builtin id)) (ha : PA X (e :: es) t) (hn : x ≠ "__name__" := by decide) (hdb : (x == ("__debug__" : Str)) = false := by decide)
    (he : starEach (e :: es) X.env = (false, eval e X.env) :: starEach es X.env := by rfl) (hpl : (backTo pos (starEach es X.env)).any (·.1) = false := by rfl) : PE X (.Call (.Name x p) (e :: es) [] pos) (tCB r t) := by
  intro pins s σ H Q I h
  refine wpAny_Call_Name_kw (ld_blt I hg hm hv ?_ hn hdb)
  exact PyProof.Rows.callWith_builtin1 (thn (ha pos pins s σ H _ I h) fun us s1 ⟨vs, H1, I1, r1, q1⟩ => hc pins s1 σ H1 vs us Q I1 r1 q1) he hpl
/-- T(e, ..), T a built-in type -/
theorem pe_callTy (hc : CallR X (.type T) r) (hg : Gl X x) (hm : X.mg x = none) (hv : bootBuiltins x = some (.type T)) (ha : PA X (e :: es) t) (hn : x ≠ "__name__" := by decide) (hdb : (x == ("__debug__" : Str)) = false := by decide)
    (he : starEach (e :: es) X.env = (false, eval e X.env) :: starEach es X.env := by rfl) (hpl : (backTo pos (starEach es X.env)).any (·.1) = false := by rfl) : PE X (.Call (.Name x p) (e :: es) [] pos) (tCB r t) := by
  intro pins s σ H Q I h
  refine wpAny_Call_Name_kw (ld_blt I hg hm hv ?_ hn hdb)
  exact PyProof.Rows.callWith_type1 (thn (ha pos pins s σ H _ I h) fun us s1 ⟨vs, H1, I1, r1, q1⟩ => hc pins s1 σ H1 vs us Q I1 r1 q1) he hpl
end
end L2

namespace HT
open PySem PyProof.Rows

section
open PySem.SeqAt
open PySem.AutoSeq1 (wpAny_loadPart')
open PySem.MeetsSeq PySem.MeetsSeq2 PySem.MeetsSeq3

end

section
variable {prog : Program} {w : World} {A : Around} {E : Value → Shared → Prop} {s : Shared}

/-! ### t[a:b], not the whole -/
/-- a slice's bound as a place among n (d where it is left out) -/
def sIx (n d : Nat) : Option Int → Nat
  | none => d
  | some v => if v < 0 then (v + (n : Int)).toNat else min v.toNat n
theorem sIx_nat (n d k : Nat) : sIx n d (some (k : Int)) = min k n := by
  show (if (k : Int) < 0 then ((k : Int) + (n : Int)).toNat else min (k : Int).toNat n) = min k n
  rw [if_neg (by omega), Int.toNat_natCast]
end
end HT

namespace L2
open PySem PySem.Spec PyProof.Rows

/-! ### the parts of a slice -/
abbrev TO := St → Hp → (Option Int → Hp → Prop) → Prop
/-- a slice's part (left out, or an int) -/
def PO (X : Cx) (e : Option Expr) (t : TO) : Prop :=
  ∀ (pins : List (Addr × Obj)) (s : Shared) (σ : St) (H : Hp) (Q : Option Int → Hp → Prop), Inv X pins σ H s → t σ H Q →
    wpAny (model X.prog X.w) X.A (evalPart e X.env) (fun u s' => ∃ o H', Inv X pins σ H' s' ∧ IsPart u o ∧ Q o H') X.xe s
def tPart (t : TE) : TO := fun σ H Q => t σ H fun x H1 => ∃ i, x = .int i ∧ Q (some i) H1

section
variable {X : Cx} {e : Expr} {te : TE} {lo hi : Option Expr} {tl th : TO} {pos p2 : Pos}

theorem po_some (h : PE X e te) : PO X (some e) (tPart te) := by
  intro pins s σ H Q I hw
  rw [evalPart_some]
  refine thn (h pins s σ H _ I hw) fun u s1 ⟨x, H1, I1, r1, q1⟩ => ?_
  obtain ⟨i, rfl, q⟩ := q1
  obtain ⟨t, rfl⟩ := r1
  exact ⟨some i, H1, I1, .int i t, q⟩

/-- what a slice of a value is, by values: the slice object stands at sl -/
def SlR (X : Cx) (r : V → Option Int → Option Int → Hp → VK → Prop) : Prop :=
  ∀ (pins : List (Addr × Obj)) (s : Shared) (σ : St) (H : Hp) (x : V) (v vl vu : Value) (lo hi : Option Int) (sl : Addr) (Q : VK), Inv X pins σ H s → RelV x v → s.heap.IsSliceOf sl vl vu .none → IsPart vl lo → IsPart vu hi → r x lo hi H Q →
    ∃ T id, typeLookup (.type T) "__getitem__" = pure (some (.builtin id)) ∧ s.TypeIs v T ∧ wpAny (model X.prog X.w) X.A (getItem v (.ref sl)) (EP X pins σ Q) X.xe s
def tSl (r : V → Option Int → Option Int → Hp → VK → Prop) (te : TE) (tl th : TO) : TE := fun σ H Q => te σ H fun x H1 => tl σ H1 fun l H2 => th σ H2 fun u H3 => r x l u H3 Q
/-- a[lo:hi], any a -/
theorem pe_slice {r : V → Option Int → Option Int → Hp → VK → Prop} (hr : SlR X r) (he : PE X e te) (hl : PO X lo tl) (hu : PO X hi th) : PE X (.Subscript e (.Slice lo hi none p2) pos) (tSl r te tl th) := by
  intro pins s σ H Q I h
  refine Subscript_ (thn (he pins s σ H _ I h) fun v s1 ⟨x, H1, I1, r1, q1⟩ => ?_)
  refine wpAny_Slice (thn (hl pins s1 σ H1 _ I1 q1) fun vl s2 ⟨l, H2, I2, pl, q2⟩ => thn (hu pins s2 σ H2 _ I2 q2) fun vu s3 ⟨u, H3, I3, pu, q3⟩ => ?_)
  rw [evalPart_none]
  refine wpAny_pure ?_
  have I4 : Inv X pins σ H3 { s3 with heap := s3.heap.push { cls := .type "slice", data := .fields #[vl, vu, .none] } } := I3.kept (t' := s3.toks) fun b ob q => Heap.get?_push_of_some _ q
  obtain ⟨T, id, hT, ht, hg⟩ := hr pins { s3 with heap := s3.heap.push { cls := .type "slice", data := .fields #[vl, vu, .none] } } σ H3 x v vl vu l u s3.heap.objs.size Q I4 r1 (Heap.IsSliceOf.new ..) pl pu q3
  show wpAny (model X.prog X.w) X.A (subscriptTail e (.Slice lo hi none p2) v (.ref s3.heap.objs.size)) (EP X pins σ Q) X.xe { s3 with heap := s3.heap.push { cls := .type "slice", data := .fields #[vl, vu, .none] } }
  exact tail_any (ops := [.ref s3.heap.objs.size, v]) ht hT hg (by with_unfolding_all rfl)

/-- the items of xs[lo:hi] -/
def cutV (xs : List V) (lo hi : Option Int) : List V := (xs.drop (HT.sIx xs.length 0 lo)).take (HT.sIx xs.length xs.length hi - HT.sIx xs.length 0 lo)
theorem cutV_length (xs : List V) (lo hi : Option Int) : (cutV xs lo hi).length ≤ xs.length := by
  unfold cutV
  rw [List.length_take, List.length_drop]
  omega
/-! ### t < u, t + u -/
end
end L2

namespace L2
open PySem PySem.Spec PyProof.Rows

/-! ### places -/
/-- the place that an index of any sign means -/
def ixN (n : Nat) (i : Int) : Option Nat := if 0 ≤ i then (if i < n then some i.toNat else none) else if -(n : Int) ≤ i then some (i + n).toNat else none
def atI {α : Type} (xs : List α) (i : Int) : Option α := (ixN xs.length i).bind fun j => xs[j]?
theorem ixN_seq {n : Nat} {i : Int} {j : Nat} (h : ixN n i = some j) : seqIndex? i n = some j ∧ j < n ∧ -(n : Int) ≤ i ∧ i < n := by
  unfold ixN at h
  by_cases h0 : 0 ≤ i
  · rw [if_pos h0] at h
    by_cases h1 : i < n
    · rw [if_pos h1] at h
      have e : i.toNat = j := Option.some.inj h
      exact ⟨by rw [seqIndex_of h0 h1, e], by omega, by omega, h1⟩
    · rw [if_neg h1] at h; cases h
  · rw [if_neg h0] at h
    by_cases h1 : -(n : Int) ≤ i
    · rw [if_pos h1] at h
      have e : (i + n).toNat = j := Option.some.inj h
      exact ⟨by rw [seqIndex_neg (by omega) h1, e], by omega, h1, by omega⟩
    · rw [if_neg h1] at h; cases h
theorem atI_get {α : Type} {xs : List α} {i : Int} {v : α} (h : atI xs i = some v) : ∃ j, seqIndex? i xs.length = some j ∧ xs[j]? = some v ∧ j < xs.length ∧ -(xs.length : Int) ≤ i ∧ i < xs.length := by
  unfold atI at h
  cases e : ixN xs.length i with
  | none => rw [e] at h; cases h
  | some j =>
    rw [e] at h
    obtain ⟨h1, h2, h3, h4⟩ := ixN_seq e
    exact ⟨j, h1, h, h2, h3, h4⟩
theorem atI_nat {α : Type} {xs : List α} {j : Nat} {v : α} (h : xs[j]? = some v) : atI xs (j : Int) = some v := by
  have hj : j < xs.length := (List.getElem?_eq_some_iff.mp h).1
  have e : ixN xs.length (j : Int) = some j := by
    unfold ixN
    rw [if_pos (by omega), if_pos (by omega)]; simp
  unfold atI; rw [e]; exact h
/-! ### what may be subscripted -/
/-- what stands as an index of a plain subscript -/
def PlainIx (b : Expr) : Prop := ∀ o i, subscripted b false o i = operate [o, i] (getItem o i)
/-- a subscript by values -/
def IxR (X : Cx) (r : R2) : Prop :=
  ∀ (value slice : Expr) (pins : List (Addr × Obj)) (s : Shared) (σ : St) (H : Hp) (x y : V) (v u : Value) (Q : VK), Inv X pins σ H s → RelV x v → RelV y u → r x y H Q →
    subscripted slice false v u = operate [v, u] (getItem v u) → wpAny (model X.prog X.w) X.A (subscriptTail value slice v u) (EP X pins σ Q) X.xe s
/-- a call of a builtin's method by values: the receiver, the arguments -/
def MtR (X : Cx) (id : String) (r : V → List V → Hp → VK → Prop) : Prop :=
  ∀ (pins : List (Addr × Obj)) (s : Shared) (σ : St) (H : Hp) (x : V) (xs : List V) (v : Value) (us : List Value) (Q : VK), Inv X pins σ H s → RelV x v → Vals xs us → r x xs H Q →
    wpAny (model X.prog X.w) X.A (call (.builtin id) (v :: us)) (EP X pins σ Q) X.xe s
section
variable {X : Cx} {a b : Expr} {ta tb : TE} {pos : Pos}
theorem IxR.or {r r' : R2} (h : IxR X r) (h' : IxR X r') : IxR X (fun x y H Q => r x y H Q ∨ r' x y H Q) := by
  intro value slice pins s σ H x y v u Q I rx ry q hs
  rcases q with q | q
  · exact h value slice pins s σ H x y v u Q I rx ry q hs
  · exact h' value slice pins s σ H x y v u Q I rx ry q hs
/-- a[b] -/
theorem pe_ix {r : R2} (hr : IxR X r) (ha : PE X a ta) (hb : PE X b tb) (hs : PlainIx b) : PE X (.Subscript a b pos) (tOp r ta tb) := by
  intro pins s σ H Q I h
  exact Subscript_ (binT ha hb I h fun v u s2 x y H2 I2 rx ry q => hr a b pins s2 σ H2 x y v u Q I2 rx ry q (hs _ _))

def rIxL (K : PySem.W.Frag) : R2 := fun x y H Q => ∃ p xs i v, x = .ref p ∧ y = .int i ∧ SqL K H p xs ∧ atI xs i = some v ∧ Q v H
def rIxT (K : PySem.W.Frag) : R2 := fun x y H Q => ∃ p xs i v, x = .ref p ∧ y = .int i ∧ SqT K H p xs ∧ atI xs i = some v ∧ Q v H
def rIxS : R2 := fun x y H Q => ∃ z i c, x = .str z ∧ y = .int i ∧ z.length ≤ sizeLine ∧ atI z.cps.toList i = some c ∧ Q (.str ⟨#[c]⟩) H
theorem ix_list : IxR X (rIxL X.K) := by
  intro value slice pins s σ H x y v u Q I rx ry h hs
  obtain ⟨p, xs, i, z, rfl, rfl, hq, he, q⟩ := h
  cases rx
  obtain ⟨t, rfl⟩ := ry
  obtain ⟨its, r, pl, hz⟩ := I.list hq
  obtain ⟨j, h1, h2, h3, h4, h5⟩ := atI_get he
  obtain ⟨w, ew, rw'⟩ := r.get h2
  have hl := r.length
  have hn := line63
  have fin : EP X pins σ Q w s := ⟨z, H, I, rw', q⟩
  by_cases h0 : 0 ≤ i
  · have hj : i.toNat = j := by
      rw [seqIndex_of h0 h5] at h1
      exact Option.some.inj h1
    exact item_listR pl.isList h0 (by omega) (by rw [hj]; simpa using ew) fin hs
  · have hj : (i + (its.toArray.size : Int)).toNat = j := by
      rw [seqIndex_neg (by omega) h4] at h1
      rw [List.size_toArray, ← hl]
      exact Option.some.inj h1
    exact subscriptTail_builtinR (x := w) pl.isList.typeIs slot_list_getitem.lookup
      (wpAny_getItem_list_neg (Q := fun r s' => r = w ∧ EP X pins σ Q r s') pl.isList (by omega) (by rw [List.size_toArray] <;> omega) (by omega) (by rw [hj]; simpa using ew) ⟨rfl, fin⟩) hs
theorem ix_tup : IxR X (rIxT X.K) := by
  intro value slice pins s σ H x y v u Q I rx ry h hs
  obtain ⟨p, xs, i, z, rfl, rfl, hq, he, q⟩ := h
  cases rx
  obtain ⟨t, rfl⟩ := ry
  obtain ⟨its, r, pl, hz⟩ := I.tuple hq
  obtain ⟨j, h1, h2, h3, h4, h5⟩ := atI_get he
  obtain ⟨w, ew, rw'⟩ := r.get h2
  have hl := r.length
  have hn := line63
  have fin : EP X pins σ Q w s := ⟨z, H, I, rw', q⟩
  exact subscriptTail_builtinR (x := w) pl.typeIs slot_tuple_getitem.lookup
    (getItem_tuple (j := j) (Q := fun r s' => r = w ∧ EP X pins σ Q r s') pl (by omega) (by omega) (by rw [List.size_toArray, ← hl]; exact h1) (by simpa using ew) ⟨rfl, fin⟩) hs
theorem ix_str : IxR X rIxS := by
  intro value slice pins s σ H x y v u Q I rx ry h hs
  obtain ⟨z, i, c, rfl, rfl, hz, he, q⟩ := h
  obtain ⟨t, rfl⟩ := rx
  obtain ⟨t', rfl⟩ := ry
  obtain ⟨j, h1, h2, h3, h4, h5⟩ := atI_get he
  have hl : z.cps.toList.length = z.length := by simp [Str.length]
  rw [hl] at h1 h4 h5
  have hn := line63
  exact tail_any (typeIs_str s z t) slot_str_getitem.lookup (getItem_str (c := c) (by
    have e1 : decide (i < -(2 ^ 63 : Int)) = false := decide_eq_false (by omega)
    have e2 : decide (i ≥ 2 ^ 63) = false := decide_eq_false (by omega)
    rw [e1, e2, Bool.or_false]) (by rw [h1]; simpa using h2) ⟨.str ⟨#[c]⟩, H, I.tok _, ⟨_, rfl⟩, q⟩) hs
/-- list, tuple or str -/
def rIx (K : PySem.W.Frag) : R2 := fun x y H Q => rIxL K x y H Q ∨ rIxT K x y H Q ∨ rIxS x y H Q
theorem ix_seq : IxR X (rIx X.K) := ix_list.or (ix_tup.or ix_str)

/-! ### xs[i] = v, any sign -/
/-! ### slices -/
theorem slice_bounds (lo hi : Option Int) (n : Nat) : (sliceBounds lo hi none n).1 = ((HT.sIx n 0 lo : Nat) : Int) ∧ (sliceBounds lo hi none n).2.1 = ((HT.sIx n n hi : Nat) : Int) ∧ (sliceBounds lo hi none n).2.2 = 1 := by
  refine ⟨?_, ?_, rfl⟩
  · cases lo with
    | none => simp [sliceBounds, HT.sIx]
    | some i =>
      simp only [sliceBounds, HT.sIx, Option.getD_none, show (1 : Int) > 0 by decide, if_true]
      by_cases h : i < 0
      · simp only [h, if_true] <;> omega
      · simp only [h, if_false] <;> omega
  · cases hi with
    | none => simp [sliceBounds, HT.sIx]
    | some i =>
      simp only [sliceBounds, HT.sIx, Option.getD_none, show (1 : Int) > 0 by decide, if_true]
      by_cases h : i < 0
      · simp only [h, if_true] <;> omega
      · simp only [h, if_false] <;> omega
theorem slicePick_cut (its : List Value) (lo hi : Option Int) : slicePick its.toArray lo hi none = ((its.drop (HT.sIx its.length 0 lo)).take (HT.sIx its.length its.length hi - HT.sIx its.length 0 lo)).toArray := by
  obtain ⟨h1, h2, h3⟩ := slice_bounds lo hi its.toArray.size
  unfold slicePick
  rw [h1, h2, h3]
  simp only [sliceRange_one, pick_run, List.size_toArray] <;> rfl
/-- xs[lo:hi] of a list: a new list -/
def rSlL (K : PySem.W.Frag) : V → Option Int → Option Int → Hp → VK → Prop := fun x lo hi H Q => ∃ a xs, x = .ref a ∧ SqL K H a xs ∧ ∀ p, H p = none → Q (.ref p) (upd H p (.lst (cutV xs lo hi)))
theorem sl_list : SlR X (rSlL X.K) := by
  intro pins s σ H x v vl vu lo hi sl Q I rx hs pl pu h
  obtain ⟨a, xs, rfl, hx, q⟩ := h
  cases rx
  obtain ⟨its, r, ht, hz⟩ := I.list hx
  have hlen := r.length
  refine ⟨"list", _, slot_list_getitem.lookup, ht.isList.typeIs, ?_⟩
  refine wpAny_getItem_list_slice ht.isList hs pl pu .none (by simp) ?_ (by rw [List.size_toArray] <;> omega)
  rw [slicePick_cut, ← hlen]
  refine ⟨.ref s.heap.objs.size, _, I.laid (t' := s.toks) (o := .lst (cutV xs lo hi)) (fun b ob q => Heap.get?_push_of_some _ q) (Nat.le_refl _) ?_, rfl, q _ (I.hok.fresh (Nat.le_refl _))⟩
  exact ⟨Nat.le_trans (cutV_length xs lo hi) hz, _, 0, (r.drop (HT.sIx xs.length 0 lo)).take (HT.sIx xs.length xs.length hi - HT.sIx xs.length 0 lo), Heap.get?_push_size _ rfl⟩

/-! ### in, not in: flat items -/
/-! ### len, list(x), tuple(x) of any list or tuple that is read -/
theorem call_len_seq : CallR X (.builtin "len") (fun xs H Q => ∃ p ys, xs = [.ref p] ∧ (SqL X.K H p ys ∨ SqT X.K H p ys) ∧ Q (.int ys.length) H) := by
  intro pins s σ H xs us Q I r h
  obtain ⟨p, ys, rfl, hq, q⟩ := h
  obtain ⟨u, rfl, rx⟩ := vals1 r
  cases rx
  have hn := line63
  rcases hq with hq | hq
  · obtain ⟨its, r', pl, hz⟩ := I.list hq
    have hlen := r'.length
    exact Calls.call_len_list pl.isList (by simp only [List.size_toArray] <;> omega) ⟨.int ys.length, H, I.tok _, ⟨s.toks + 1, by rw [List.size_toArray, hlen]⟩, q⟩
  · obtain ⟨its, r', pl, hz⟩ := I.tuple hq
    have hlen := r'.length
    exact len_tuple pl (by simp only [List.size_toArray] <;> omega) ⟨.int ys.length, H, I.tok _, ⟨s.toks + 1, by rw [List.size_toArray, hlen]⟩, q⟩
theorem call_list_of : CallR X (.type "list") (fun xs H Q => ∃ p ys, xs = [.ref p] ∧ (SqL X.K H p ys ∨ SqT X.K H p ys) ∧ ∀ l, H l = none → Q (.ref l) (upd H l (.lst ys))) := by
  intro pins s σ H xs us Q I r h
  obtain ⟨p, ys, rfl, hq, q⟩ := h
  obtain ⟨u, rfl, rx⟩ := vals1 r
  cases rx
  have fin : ∀ (its : List Value), Vals ys its → ys.length ≤ sizeLine → ∀ (h' : Heap) (c' : Nat), (∀ b o', s.heap.get? b = some o' → h'.get? b = some o') →
      h'.get? s.heap.objs.size = some { cls := .type "list", dict := none, data := .seq its.toArray c', slots := #[] } → EP X pins σ Q (.ref s.heap.objs.size) { s with heap := h' } := fun its r' hz h' c' kp e =>
    ⟨.ref s.heap.objs.size, _, I.laid (t' := s.toks) kp (Nat.le_refl _) (show ObjOk X.prog X.w _ h' _ (.lst ys) from ⟨hz, its, c', r', e⟩), rfl, q _ (I.hok.fresh (Nat.le_refl _))⟩
  rcases hq with hq | hq
  · obtain ⟨its, r', pl, hz⟩ := I.list hq
    have hlen := r'.length
    obtain ⟨o, ho, hc, n, hd⟩ := pl.isList
    exact call_list_seq p (.inl rfl) ho hc hd (fun h' c' kp e => fin its r' hz h' c' kp e) (by simp only [List.size_toArray] <;> omega)
  · obtain ⟨its, r', pl, hz⟩ := I.tuple hq
    have hlen := r'.length
    obtain ⟨o, ho, hc, n, hd⟩ := pl
    exact call_list_seq p (.inr rfl) ho hc hd (fun h' c' kp e => fin its r' hz h' c' kp e) (by simp only [List.size_toArray] <;> omega)
/-! ### the call of a builtin's method: o.m(..) -/
/-- the value is of that builtin type -/
def tyV (K : PySem.W.Frag) (T : String) (x : V) (H : Hp) : Prop := match x with
  | .str _ => T = "str"
  | .int _ => T = "int"
  | .ref p => (T = "list" ∧ ∃ xs, SqL K H p xs) ∨ (T = "tuple" ∧ ∃ o, K.lookup p = some o ∧ o.cls = .type "tuple" ∧ o.dict = none) ∨
      (T = "dict" ∧ ((∃ kvs, H p = some (.dK kvs)) ∨ ∃ kvs, H p = some (.dT kvs))) ∨ (T = "set" ∧ ∃ S n, H p = some (.set S n))
  | _ => False
theorem tyV_is {pins : List (Addr × Obj)} {σ : St} {H : Hp} {s : Shared} {T : String} {x : V} {v : Value} (I : Inv X pins σ H s) (r : RelV x v) (ty : tyV X.K T x H) :
    s.TypeIs v T ∧ ∀ a, v = .ref a → ∃ ob, s.heap.get? a = some ob ∧ ob.dict = none := by
  cases x with
  | str z =>
    obtain ⟨t, rfl⟩ := r
    cases (show T = "str" from ty)
    exact ⟨typeIs_str s z t, fun _ e => nomatch e⟩
  | int i =>
    obtain ⟨t, rfl⟩ := r
    cases (show T = "int" from ty)
    exact ⟨typeIs_int s i t, fun _ e => nomatch e⟩
  | ref p =>
    cases r
    rcases ty with ⟨rfl, xs, hq⟩ | ⟨rfl, o, hk, hc, hd⟩ | ⟨rfl, hk⟩ | ⟨rfl, S, n, hk⟩
    · obtain ⟨its, _, pl, _⟩ := I.list hq
      refine ⟨pl.isList.typeIs, fun a e => ?_⟩
      cases e
      obtain ⟨o, n, e, c, hd, _⟩ := pl
      exact ⟨o, e, hd⟩
    · refine ⟨⟨o, I.kIn p o hk, hc⟩, fun a e => ?_⟩
      cases e
      exact ⟨o, I.kIn _ o hk, hd⟩
    · have z : ∃ o, s.heap.get? p = some o ∧ o.ExactDict := by
        rcases hk with ⟨kvs, hk⟩ | ⟨kvs, hk⟩
        · obtain ⟨_, _, _, _, o, _, _, e, ex, _⟩ := I.hok p _ hk
          exact ⟨o, e, ex⟩
        · obtain ⟨_, _, _, _, o, _, _, e, ex, _⟩ := I.hok p _ hk
          exact ⟨o, e, ex⟩
      obtain ⟨o, e, ex⟩ := z
      refine ⟨⟨o, e, ex.1⟩, fun a e2 => ?_⟩
      cases e2
      exact ⟨o, e, ex.2.1⟩
    · obtain ⟨o, _, _, _, e, ex, _⟩ := I.hok p _ hk
      refine ⟨⟨o, e, ex.1⟩, fun a e2 => ?_⟩
      cases e2
      exact ⟨o, e, ex.2.1⟩
  | _ => exact False.elim ty
def tBM0 (K : PySem.W.Frag) (T : String) (r : V → List V → Hp → VK → Prop) (to : TE) : TE := fun σ H Q => to σ H fun x H1 => tyV K T x H1 ∧ r x [] H1 Q
def tBM (K : PySem.W.Frag) (T : String) (r : V → List V → Hp → VK → Prop) (to : TE) (t : TA) : TE := fun σ H Q => to σ H fun x H1 => tyV K T x H1 ∧ t σ H1 fun xs H2 => r x xs H2 Q
variable {o e : Expr} {es : List Expr} {to : TE} {t : TA} {name : Str} {apos cpos : Pos} {T id : String} {r : V → List V → Hp → VK → Prop}
theorem pe_bm0 (pa : PlainAttrs T) (slot : Slot T name id) (hty : typeOf (.builtin id) = pure (.type "method_descriptor")) (hm : MtR X id r) (ho : PE X o to)
    (hbase : attributeBase o name X.env (eval o X.env) = eval o X.env := by rfl) (hline : (apos.endLine == cpos.line) = true := by rfl) : PE X (.Call (.Attribute o name apos) [] [] cpos) (tBM0 X.K T r to) := by
  intro pins s σ H Q I h
  refine wpAny_Call_method0_late hbase hline (thn (ho pins s σ H _ I h) fun v s1 ⟨x, H1, I1, r1, ty, q1⟩ => ?_)
  obtain ⟨h1, h2⟩ := tyV_is I1 r1 ty
  exact ⟨T, id, pa, slot, hty, h1, h2, Calls.callWith_builtin rfl (PySem.evalArgs_none (hm pins s1 σ H1 x [] v [] Q I1 r1 .nil q1))⟩
theorem pe_bm (pa : PlainAttrs T) (slot : Slot T name id) (hty : typeOf (.builtin id) = pure (.type "method_descriptor")) (hm : MtR X id r) (ho : PE X o to) (ha : PA X (e :: es) t)
    (hbase : attributeBase o name X.env (eval o X.env) = eval o X.env := by rfl)
    (hfew : ((backTo cpos (starEach (e :: es) X.env)).all (fun x => !x.1) && (backToKw cpos (keywordEach [] X.env)).all (fun x => x.1.isSome)
      && decide ((e :: es).length + ([] : List Keyword).length + (if ([] : List Keyword).isEmpty then 0 else 1) < 30)) = true := by rfl)
    (hline : (apos.endLine == cpos.line) = true := by rfl) (hs : starEach (e :: es) X.env = (false, eval e X.env) :: starEach es X.env := by rfl) (hplain : (backTo cpos (starEach es X.env)).any (·.1) = false := by rfl) :
    PE X (.Call (.Attribute o name apos) (e :: es) [] cpos) (tBM X.K T r to t) := by
  intro pins s σ H Q I h
  refine wpAny_Call_method_late hbase hfew hline rfl (thn (ho pins s σ H _ I h) fun v s1 ⟨x, H1, I1, r1, ty, q1⟩ => ?_)
  obtain ⟨h1, h2⟩ := tyV_is I1 r1 ty
  refine ⟨T, id, pa, slot, hty, h1, h2, ?_⟩
  have hA := ha cpos pins s1 σ H1 _ I1 q1
  rw [hs] at hA ⊢
  refine Calls.callWith_builtin (by show (false || (backTo cpos (starEach es X.env)).any (·.1)) = false; rw [hplain] <;> rfl) (Calls.evalArgs_plain ?_)
  exact thn hA fun us s2 ⟨vs, H2, I2, r2, q2⟩ => hm pins s2 σ H2 x vs v us Q I2 r1 r2 q2

end
end L2

namespace L2
open PySem PySem.Spec PyProof.Rows

def MtM (X : Cx) (id : String) (r : V → List V → Hp → VK → Prop) : Prop :=
  ∀ (pins : List (Addr × Obj)) (s : Shared) (σ : St) (H : Hp) (x : V) (xs : List V) (v : Value) (us : List Value) (Q : VK), Inv X pins σ H s → RelV x v → Vals xs us → r x xs H Q →
    wpAny (model X.prog X.w) X.A (call (.builtin id) (v :: us)) (EP X pins σ Q) X.xe s

/-! ### lists of values -/
theorem Vals.one : ∀ {x : V} {us : List Value}, Vals [x] us → ∃ u, us = [u] ∧ RelV x u
  | _, _, .cons r .nil => ⟨_, rfl, r⟩
section
variable {X : Cx} {pins : List (Addr × Obj)} {σ : St} {H : Hp} {s : Shared} {l b : Addr} {xs ys zs : List V}

/-! ### the two steps: a tracked list is rewritten, a new list is laid -/
theorem Inv.lset {its its' : List Value} {n : Nat} {f : Array Value → Array Value} {t' : Nat} (I : Inv X pins σ H s) (hH : H l = some (.lst xs))
    (e : s.heap.get? l = some { cls := .type "list", data := .seq its.toArray n }) (hf : f its.toArray = its'.toArray) (hv : Vals ys its') (hz : ys.length ≤ sizeLine) :
    Inv X pins σ (upd H l (.lst ys)) { s with heap := s.heap.update l (Obj.mapSeq f), toks := t' } := by
  have q := PySem.IsL.update e f
  rw [hf] at q
  refine I.write (x := l) (e := l) (by rw [hH]; exact trivial) (.inl rfl) (fun b' u hb hu => (Heap.get?_update_other s.heap (Obj.mapSeq f) (Ne.symm hb)).trans hu) ⟨_, q⟩ ?_
  exact ⟨hz, its', _, hv, q⟩
theorem Inv.lnew {its : List Value} {t' : Nat} (I : Inv X pins σ H s) (hv : Vals ys its) (hz : ys.length ≤ sizeLine) :
    Inv X pins σ (upd H s.heap.objs.size (.lst ys)) { s with heap := s.heap.push { cls := .type "list", data := .seq its.toArray }, toks := t' } :=
  I.laid (fun _ _ q => Heap.get?_push_of_some _ q) (Nat.le_refl _) ⟨hz, its, 0, hv, Heap.get?_push_size _ rfl⟩
theorem Inv.fresh (I : Inv X pins σ H s) : H s.heap.objs.size = none := I.hok.fresh (Nat.le_refl _)
theorem Inv.lstM (I : Inv X pins σ H s) (hH : H l = some (.lst xs)) : xs.length ≤ sizeLine ∧ ∃ (its : List Value) (n : Nat), Vals xs its ∧ xs.length = its.length ∧ s.heap.get? l = some { cls := .type "list", data := .seq its.toArray n } := by
  obtain ⟨z, its, n, r, e⟩ := I.hok l _ hH
  exact ⟨z, its, n, r, r.length, e⟩

theorem notLongL {n : Nat} (h : n ≤ sizeLine) : Builtin.List.listTooLong n = false := by
  unfold Builtin.List.listTooLong
  exact decide_eq_false (by omega)
end

section
variable {X : Cx}

/-! ### methods -/
def rAppend : V → List V → Hp → VK → Prop := fun x vs H Q => ∃ l xs y, x = .ref l ∧ vs = [y] ∧ H l = some (.lst xs) ∧ xs.length < sizeLine ∧ Q .non (upd H l (.lst (xs ++ [y])))
theorem mt_append : MtM X "list.append" rAppend := by
  intro pins s σ H x vs v us Q I rx rv h
  obtain ⟨l, xs, y, rfl, rfl, hH, hz, q⟩ := h
  cases rx
  obtain ⟨u, rfl, ru⟩ := rv.one
  obtain ⟨z, its, n, r, hl, e⟩ := I.lstM hH
  refine call_meets F.slot_list_append ⟨_, e, rfl⟩ F.entry_list_append (F.args_list_append_2 _ _) (PySem.list_append l its.toArray n u (by rw [List.size_toArray]; omega)) ⟨e, ?_⟩
  refine ⟨.non, _, I.lset (its' := its ++ [u]) hH e (by simp) (r.append (.cons ru .nil)) ?_, rfl, q⟩
  rw [List.length_append, List.length_singleton]
  omega

def rExtend : V → List V → Hp → VK → Prop := fun x vs H Q => ∃ l b xs zs, x = .ref l ∧ vs = [.ref b] ∧ H l = some (.lst xs) ∧ H b = some (.lst zs) ∧ xs.length + zs.length ≤ sizeLine ∧ Q .non (upd H l (.lst (xs ++ zs)))
theorem mt_extend : MtM X "list.extend" rExtend := by
  intro pins s σ H x vs v us Q I rx rv h
  obtain ⟨l, b, xs, zs, rfl, rfl, hH, hB, hz, q⟩ := h
  cases rx
  obtain ⟨u, rfl, ru⟩ := rv.one
  cases ru
  obtain ⟨z, its, n, r, hl, e⟩ := I.lstM hH
  obtain ⟨z2, its2, n2, r2, hl2, e2⟩ := I.lstM hB
  have hsz : its.toArray.size + its2.toArray.size ≤ sizeLine := by rw [List.size_toArray, List.size_toArray]; omega
  have hlong : ¬ (!its.toArray.isEmpty && Builtin.List.listTooLong (its.toArray.size + its2.toArray.size)) = true := by
    rw [notLongL hsz, Bool.and_false]
    exact Bool.false_ne_true
  refine call_meets F.slot_list_extend ⟨_, e, rfl⟩ F.entry_list_extend (F.args_list_extend_2 _ _)
    (AutoSeq1.list_extend_list_list_0 l its.toArray n b its2.toArray n2 hlong (by rw [List.size_toArray]; omega) (by omega)) ⟨e, e2, ?_⟩
  refine ⟨.non, _, I.lset (its' := its ++ its2) hH e (by simp) (r.append r2) ?_, rfl, q⟩
  rw [List.length_append]
  omega

/-! ### list + list, list += list, list * int -/
def rCat : R2 := fun x y H Q => ∃ l b xs zs, x = .ref l ∧ y = .ref b ∧ H l = some (.lst xs) ∧ H b = some (.lst zs) ∧ xs.length + zs.length ≤ sizeLine ∧ ∀ p, H p = none → Q (.ref p) (upd H p (.lst (xs ++ zs)))
theorem op_cat : OpR X (binaryOp .Add) rCat := by
  intro pins s σ H x y v u Q I rx ry h
  obtain ⟨l, b, xs, zs, rfl, rfl, hH, hB, hz, q⟩ := h
  cases rx
  cases ry
  obtain ⟨z, its, n, r, hl, e⟩ := I.lstM hH
  obtain ⟨z2, its2, n2, r2, hl2, e2⟩ := I.lstM hB
  refine PySem.P.add_list e e2 ?_ (by rw [List.size_toArray, List.size_toArray]; omega)
  have ea : its.toArray ++ its2.toArray = (its ++ its2).toArray := by simp
  rw [ea]
  exact ⟨.ref _, _, I.lnew (t' := s.toks) (r.append r2) (by rw [List.length_append]; omega), rfl, q _ I.fresh⟩
/-! ### del xs[i] -/
end

/-! ### xs[a:b] = ys -/
section
variable {prog : Program} {w : World} {A : Around} {E : Value → Shared → Prop} {s : Shared}
end

section
variable {X : Cx}
end
end L2

namespace Att
open PySem PySem.W PySem.Calls PyProof.Rows

/-! ### the script -/
theorem ints_of_wellAll {P : Params} {h : Heap} : ∀ (ns : List Int) (vs : List Value), WellAll P h vs (ns.map WData.int) → IntsAre vs ns := by
  intro ns
  induction ns with
  | nil =>
    intro vs w
    rw [List.map_nil] at w
    cases w
    exact .nil
  | cons n ns ih =>
    intro vs w
    rw [List.map_cons] at w
    cases w with
    | cons a b =>
      cases a
      exact .cons _ _ (ih _ b)

theorem script_of {l : OpenLaw} {n : Nat} (hn : l.most = some n) {P : Params} {h : Heap} {args : List WData} {vals : List Value}
    (hpre : l.row.toRowW.claim.pre args = true) (hwl : WellAll P h vals args) :
    ∃ a vs ns, vals = [Value.ref a] ∧ args = [WData.list (ns.map WData.int)] ∧ h.get? a = some { cls := .type "list", data := .seq vs.toArray } ∧ IntsAre vs ns ∧ ns.length ≤ n := by
  have hsh : WShape.hasAll [] args [.list .int] = true := (pre_splitW hpre).1
  have hc : l.pre.holds [] { args := args } = true := (pre_splitW hpre).2
  obtain ⟨d, r, rfl, h1, h2⟩ := hasAllW_cons hsh
  obtain rfl := hasAllW_nil h2
  obtain ⟨xs, rfl, h3⟩ := hasW_list h1
  obtain ⟨ns, rfl⟩ := items_int h3
  have hlen : ns.length ≤ n := by
    unfold OpenLaw.pre at hc
    have h4 : (WTm.not (.lt (.lit (.int (n : Int))) (.len (.arg 0)))).holds [] { args := [.list (ns.map .int)] } = true := by
      have h4 := (holds_andW hc).1
      rw [hn] at h4
      exact h4
    have h5 := condW_of h4 (w_not (w_lt w_lit (w_len_list (w_arg rfl))))
    rw [List.length_map] at h5
    refine Nat.le_of_not_lt fun q => ?_
    have q' : (n : Int) < ((ns.length : Nat) : Int) := by omega
    first
      | (rw [decide_eq_true q'] at h5; exact absurd h5 (by decide))
      | (simp at h5; omega)
  cases hwl with
  | cons w1 w2 =>
    cases w2
    cases w1 with
    | list ho hall => exact ⟨_, _, ns, rfl, rfl, ho, ints_of_wellAll ns _ hall, hlen⟩

theorem post_true (l : OpenLaw) (args : List WData) : l.row.toRowW.claim.post args (.bool true) args = true :=
  postW_of (r := l.row.toRowW) (X := (true == true))
    (show WShape.has [] (.bool true) .bool = true by first | rfl | decide | simp [WShape.has, WShape.arms, WShape.armsAll])
    (show (WTm.eq .res (.lit (.bool true))).value [] { args := args, res := some (.bool true), after := args } = some (.bool (true == true)) from w_eq_bool (w_res rfl) w_lit) rfl

/-! ### the attachment: holds_open's last premise (the goal 'hc' behind k_head) from a wpAny of the law's body -/
/-! ### rules over ANY heap (no ledger) from facts about the written part K: the library's own take a ledger (News) for what they write -/
section
variable {prog : Program} {w : World} {A : Around} {E : Value → Shared → Prop} {s : Shared} {K : Frag}

/-! the whole heap as the ledger: makes every rule that writes through a ledger a rule over any heap -/
end
end Att

namespace L2
open PySem PySem.Spec PyProof.Rows

theorem vals_ints : ∀ {vs : List Value} {ns : List Int}, IntsAre vs ns → Vals (ns.map V.int) vs
  | _, _, .nil => .nil
  | _, _, .cons n t h => .cons ⟨t, rfl⟩ (vals_ints h)

/-- nothing is tracked but the script, known to the object (or it is an object of the module) -/
def Only (H : Hp) : Prop := ∀ b, H b = none ∨ ∃ o xs, H b = some (.frz o (.lst xs))

/-- THE HEAD: the law's promise, at the heap behind the top. F, the promise of the law's def, may use that base is part of the heap (so K.In base, base.Ns mainGlobals mg stand in Mod) -/
theorem law_call {P : Program} {w : World} {K : PySem.W.Frag} {mg mb : Str → Option Value} {CX : CXT} {k : Nat} {fa a : Addr} {fd : FuncData} {x : Str} {sp : Sp} {s₁ : Shared} {vs : List Value} {ns : List Int}
    (KX : K.In s₁.heap) (hns : s₁.heap.Ns mainGlobals mg) (hb : s₁.heap.Ns builtinsNs mb) (hbb : ∀ x : Str, x ≠ "__name__" → mb x = bootBuiltins x) (hlim : s₁.heap.NoLimit) (hg : s₁.gens = #[])
    (ha : s₁.heap.get? a = some { cls := .type "list", data := .seq vs.toArray }) (hi : IntsAre vs ns) (hl : ns.length ≤ sizeLine) (hr : Room k callerA)
    (F : ∀ base : Heap, K.In base → base.Ns mainGlobals mg → FnOk P w K mg base CX k fa fd [x] sp) (hbind : ∀ (s : Shared) (u : Value), BindsTo s fd ⟨[u], []⟩ [(x, u)])
    (hsp : ∀ H : Hp, Only H → SqL K H a (ns.map V.int) → sp [.ref a] H (fun v _ => v = .bl true) fun _ _ _ => False)
    (hCX : ∀ H e s', CX [] H s₁ (fun _ _ _ => False) e s' → False) :
    codeAny (model P w) callerA (.call (.ref fa) ⟨[.ref a], []⟩) (fun r s' => r = .ok (.ret (.bool true)) ∧ OldK s₁.heap s'.heap ∧ s'.os = s₁.os ∧ AllBare s'.gens) s₁ := by
  have rv := vals_ints hi
  have lenV := hi.length
  -- from an abstract heap in which nothing but the script may be tracked
  have core : ∀ H : Hp, Only H → SqL K H a (ns.map V.int) → HOk P w H s₁.heap → (∀ b, H b ≠ none → b = a) → (H a ≠ none → K.lookup a = none) →
      codeAny (model P w) callerA (.call (.ref fa) ⟨[.ref a], []⟩) (fun r s' => r = .ok (.ret (.bool true)) ∧ OldK s₁.heap s'.heap ∧ s'.os = s₁.os ∧ AllBare s'.gens) s₁ := by
    intro H hO hS hok hA hK
    have base_of : ∀ {b : Addr} {o : Obj}, s₁.heap.get? b = some o → H b = none → (hidT s₁.heap H).get? b = some o := fun e n => hidT_get e n
    have noA : ∀ {b : Addr} {o : Obj} {es : Array DictEntry} {ep : Nat}, s₁.heap.get? b = some o → o.data = .dict es ep → H b = none := fun {b o es ep} e d => by
      cases q : H b with
      | none => rfl
      | some u =>
        have e' : b = a := hA b (by rw [q]; simp)
        subst e'
        rw [ha] at e; cases e
        have d' : Data.seq vs.toArray _ = Data.dict es ep := d
        cases d'
    have nsK : ∀ {b : Addr} {m : Str → Option Value}, s₁.heap.Ns b m → (hidT s₁.heap H).Ns b m := fun {b m} ⟨o, es, ep, e, d, r⟩ => ⟨o, es, ep, base_of e (noA e d), d, r⟩
    have hKb : K.In (hidT s₁.heap H) := fun b o e => base_of (KX b o e) (by
      cases q : H b with
      | none => rfl
      | some u =>
        have e' : b = a := hA b (by rw [q]; simp)
        subst e'
        rw [hK (by rw [q]; simp)] at e; cases e)
    have hM : Mod K mg (hidT s₁.heap H) := ⟨hKb, nsK hns, ⟨mb, nsK hb, hbb⟩, let ⟨mc, h1, h2⟩ := hlim; ⟨mc, nsK h1, h2⟩⟩
    have e0 : Env0 P w K mg (hidT s₁.heap H) callerA [] s₁ H := ⟨rfl, hM, fun b o e => of_hidT e, Nat.le_of_eq (hidT_size _ _), trivial, fun b hb => absurd (show b ∈ ([] : List Addr) from hb) (by simp), hok, .of_eq hg⟩
    refine codeAny_mono ((F _ hKb (nsK hns)).run callerA [] s₁ H ⟨[.ref a], []⟩ [.ref a] [.ref a] _ _ hr e0 (hbind s₁ (.ref a)) (.cons rfl .nil) (hsp H hO hS)) fun r s' h => ?_
    cases r with
    | error e => exact (hCX H e s' h).elim
    | ok fl =>
      cases fl with
      | next => exact False.elim h
      | brk => exact False.elim h
      | cont => exact False.elim h
      | ret u =>
        obtain ⟨v, H', os, bare, un, hok', r', q⟩ := h
        have q' : v = .bl true := q
        subst q'
        obtain rfl : u = Value.bool true := r'
        refine ⟨rfl, OldK.of_keep fun b o e => ?_, os, bare⟩
        cases q : H b with
        | none => exact un.keep b o e q (by intro z; exact absurd (show b ∈ ([] : List Addr) from z) (by simp)) (by simp)
        | some u =>
          rcases hO b with z | ⟨ob, xs, z⟩
          · rw [q] at z; cases z
          · have z2 := un.frzs b ob _ z
            obtain ⟨e1, _⟩ := hok b _ z
            obtain ⟨e2, _⟩ := hok' b _ z2
            rw [e] at e1; cases e1
            exact e2
  cases hk : K.lookup a with
  | some o =>
    -- the script is one of the module's own objects
    have e := KX a o hk
    rw [ha] at e
    cases e
    refine core (fun _ => none) (fun _ => .inl rfl) (.inr ⟨_, vs.toArray, _, hk, rfl, rfl, rfl, by rw [List.size_toArray, lenV]; exact hl, by simpa using rv⟩) (fun b u z => by have z' : (none : Option HO) = some u := z; cases z') (fun b z => absurd rfl z) fun z => absurd rfl z
  | none =>
    refine core (fun b => if b = a then some (.frz { cls := .type "list", data := .seq vs.toArray } (.lst (ns.map V.int))) else none) (fun b => ?_) (.inl (.inr ⟨{ cls := .type "list", data := .seq vs.toArray }, if_pos rfl⟩)) (fun b u z => ?_) (fun b z => ?_) fun _ => hk
    · by_cases hb : b = a
      · exact .inr ⟨_, _, if_pos hb⟩
      · exact .inl (if_neg hb)
    · by_cases hb : b = a
      · have z' := (if_pos hb).symm.trans z
        cases z'
        subst hb
        exact ⟨ha, by rw [List.length_map]; exact hl, vs, _, rv, ha⟩
      · have z' := (if_neg hb).symm.trans z
        cases z'
    · by_cases hb : b = a
      · exact hb
      · exact absurd (if_neg hb) z
end L2

namespace L2
open PySem PySem.Spec PyProof.Rows

end L2



/-! SHORT WORDS over the layer: a def of the text, its body, what a loop and a test want. -/
namespace L2
open PySem PySem.Spec PyProof.Rows

/-! ### the text by places -/
/-- the j-th statement of a class's body -/
def inClass (s : Stmt) (j : Nat) : Stmt := match s with
  | .ClassDef _ _ _ body _ _ _ _ _ _ _ => body.getD j (.Pass ⟨0, 0, 0, 0⟩)
  | _ => .Pass ⟨0, 0, 0, 0⟩
def defArgs (s : Stmt) : Arguments := match s with
  | .FunctionDef _ a _ _ _ _ _ _ _ _ => a
  | _ => { posonlyargs := [], args := [], vararg := none, kwonlyargs := [], kw_defaults := [], kwarg := none, defaults := [] }
def defBody (s : Stmt) : List Stmt := match s with
  | .FunctionDef _ _ b _ _ _ _ _ _ _ => b
  | _ => []
def defScope (s : Stmt) : Scope := match s with
  | .FunctionDef _ _ _ _ _ _ sc _ _ _ => sc
  | _ => { kind := .function, names := [], isGenerator := false, isCoroutine := false }

/-! ### no exception leaves a def -/
abbrev E0 : XK := fun _ _ _ => False
/-! ### a def (or method) of the text as it stands behind the top -/
structure Fun (K : PySem.W.Frag) (x qual : Str) (st : Stmt) (f : Addr) (fd : FuncData) : Prop where
  ex : ∃ (oc : Value) (od : Option Addr) (kV doc pm : Value) (an : Option Addr) (cdv ct : Value) (osl : Array (Option Value)),
    fd = PySem.W.fnOf x qual (defArgs st) (defBody st) (defScope st) .none kV doc pm an cdv ct ∧ K.lookup f = some ⟨oc, od, .func fd, osl⟩ ∧ PySem.W.codeIn K cdv qual = true
  kp : PySem.W.keepIn K (.ref f) = true
section
variable {P : Program} {w : World} {K : PySem.W.Frag} {mg : Str → Option Value} {base : Heap}
end
theorem hu_of {A : Around} {k : Nat} (hr : Room k A) : A.units + 1 < cLine := Nat.lt_of_le_of_lt (Nat.add_le_add_left (by decide : 1 ≤ 64) _) hr.units
theorem small1000 {n : Nat} (h : n ≤ 1000) : n < sizeLine := Nat.lt_of_le_of_lt h (by decide)

/-! ### expressions in short: the name that stands in the i-th slot -/
section
variable {X : Cx}
theorem pv (i : Nat) {x : Str} {pos : Pos} (hN : X.N[i]? = some x := by rfl) (hv : Vis X.env.scope x := by first | exact Or.inl rfl | exact Or.inr (Or.inl rfl) | exact Or.inr (Or.inr rfl)) (hd : (x == ("__debug__" : Str)) = false := by decide)
    (hcd : (x == ("__classdict__" : Str)) = false := by decide) : PE X (.Name x pos) (tVar i) := pe_var hN hv hd hcd
end

/-! ### tests -/
theorem iteF {A B : Prop} (h : B) : if false = true then A else B := by
  rw [if_neg Bool.false_ne_true]
  exact h
theorem iteT {A B : Prop} (h : A) : if true = true then A else B := by
  rw [if_pos rfl]
  exact h
theorem ite2 {c A B : Prop} [Decidable c] (h1 : c → A) (h2 : ¬ c → B) : if c then A else B := by
  by_cases h : c
  · rw [if_pos h]
    exact h1 h
  · rw [if_neg h]
    exact h2 h
/-! ### heaps -/
/-- all that was tracked is as it was -/
def Same (H H' : Hp) : Prop := ∀ b o, H b = some o → H' b = some o
theorem Same.refl (H : Hp) : Same H H := fun _ _ h => h
theorem Same.trans {H H1 H2 : Hp} (a : Same H H1) (b : Same H1 H2) : Same H H2 := fun c o h => b c o (a c o h)
theorem Same.seq {K : PySem.W.Frag} {H H' : Hp} {a : Addr} {xs : List V} (e : Same H H') (h : SqL K H a xs) : SqL K H' a xs := by
  rcases h with (h | ⟨o, h⟩) | h
  · exact .inl (.inl (e _ _ h))
  · exact .inl (.inr ⟨o, e _ _ h⟩)
  · exact .inr h

end L2

namespace L2
open PySem PySem.Spec PyProof.Rows

/-! ### tests by their values -/
theorem iteP {c : Bool} {A B : Prop} (hc : c = true) (h : A) : if c = true then A else B := by rw [if_pos hc]; exact h
theorem iteN {c : Bool} {A B : Prop} (hc : c = false) (h : B) : if c = true then A else B := by rw [if_neg (by rw [hc]; exact Bool.false_ne_true)]; exact h
theorem iteB {c : Bool} {A B : Prop} (h1 : c = true → A) (h2 : c = false → B) : if c = true then A else B := by
  cases c with
  | true => exact iteT (h1 rfl)
  | false => exact iteF (h2 rfl)
/-! ### a statement whose ways meet: what holds behind it is said once -/
def tCut (t u : TS) : TS := fun D σ H => ∃ J : St → Hp → Prop, t { D with nx := J } σ H ∧ ∀ σ' H', J σ' H' → u D σ' H'
theorem pss_cut {X : Cx} {st : Stmt} {rest : List Stmt} {t u : TS} (h1 : PS X st t) (h2 : PSs X rest u) : PSs X (st :: rest) (tCut t u) := by
  intro pins s σ H D I h
  obtain ⟨J, h, k⟩ := h
  refine wpAny_execs_cons (thn (h1 pins s σ H { D with nx := J } I h) fun f s1 q => ?_)
  cases f with
  | next =>
    obtain ⟨σ', H', I', q⟩ := q
    exact h2 pins s1 σ' H' D I' (k σ' H' q)
  | ret v => exact q
  | brk => exact q
  | cont => exact q
/-! ### great ints -/
/-- within two thousand binary figures -/
def Big (i : Int) : Prop := i.natAbs < 2 ^ 2000
theorem Big.bits {i : Int} (h : Big i) : Builtin.Int.intBits i ≤ 2000 := PyProof.Rows.intBits_le h
def CDivB (_ j : Int) : Prop := 0 < j ∧ Big j
theorem big_log {j : Int} (h : Big j) : j.natAbs.log2 < 9000 := by
  by_cases z : j.natAbs = 0
  · rw [z]; decide
  · exact Nat.lt_of_lt_of_le ((Nat.log2_lt z).mpr h) (by decide)
section
variable {X : Cx}
theorem op_fdivB : OpR X (binaryOp .FloorDiv) (rI CDivB fun i j => .int (i / j)) := opI fun i j _ _ _ _ _ hc q => by
  have h1 : (0 : Int) < j := hc.1
  exact floordiv_int (by omega) (by rw [Int.fdiv_eq_ediv_of_nonneg i (by omega)]; exact q) (.inl (PyProof.noPylong_of_log2 (big_log hc.2)))
/-- a built-in type, a class of the text, by name -/
theorem pe_ty {x : Str} {n : String} {pos : Pos} (hg : Gl X x) (hm : X.mg x = none) (hv : bootBuiltins x = some (.type n)) (hn : x ≠ "__name__" := by decide) (hd : (x == ("__debug__" : Str)) = false := by decide) : PE X (.Name x pos) (tC (.ty n)) :=
  pe_bltn (v := .ty n) hg hm hv rfl hn hd
theorem pe_cls {x : Str} {C : Addr} {pos : Pos} (hg : Gl X x) (hm : X.mg x = some (.ref C)) (hd : (x == ("__debug__" : Str)) = false := by decide) : PE X (.Name x pos) (tC (.ref C)) :=
  pe_glob (v := .ref C) hg hm rfl hd
/-- a class as a value -/
def clsV : V → Option Value
  | .ty n => some (.type n)
  | .ref a => some (.ref a)
  | _ => none
theorem clsV_rel {c : V} {cv u : Value} (e : clsV c = some cv) (r : RelV c u) : u = cv := by
  cases c with
  | ty n => cases e; exact r
  | ref a => cases e; exact r
  | _ => cases e
/-- isinstance(x, c) -/
def rIsi (K : PySem.W.Frag) : List V → Hp → VK → Prop := fun vs H Q => ∃ x c t cv b, vs = [x, c] ∧ TyOf K H x t ∧ clsV c = some cv ∧ PySem.W.kitOne K t cv = some b ∧ Q (.bl b) H
theorem call_isi : CallR X (.builtin "isinstance") (rIsi X.K) := by
  intro pins s σ H xs us Q I r h
  obtain ⟨x, c, t, cv, b, rfl, ty, rc, e, q⟩ := h
  cases r with
  | cons rx r2 =>
    cases r2 with
    | cons rc2 r3 =>
      cases r3
      cases clsV_rel rc rc2
      exact isinst_ok I rx ty e fun tk => ⟨.bl b, H, I.tok _, rfl, q⟩
end
end L2

namespace L2
open PySem PySem.Spec PyProof.Rows

/-! ### a list comprehension of one clause -/
def compX (X : Cx) (scope : Scope) (cl : List (Str × Addr)) (x : Str) (s₃ : Shared) (H₃ : Hp) (C : Addr) (ex : List Addr) : Cx :=
  { X with N := x :: X.N, s₀ := s₃, H₀ := H₃, env := compEnvC scope cl C X.env, outer := X.stack, ex := ex, fn := fun _ => false, pn := [], xe := fun _ _ => False }
def PTs (X : Cx) (ifs : List Expr) (t : TT) : Prop :=
  ∀ (pins : List (Addr × Obj)) (s : Shared) (σ : St) (H : Hp) (Q : Bool → Hp → Prop), Inv X pins σ H s → t σ H Q →
    wpAny (model X.prog X.w) X.A (forIn ifs true fun c r => if r = true then do let ok ← isTrue c X.env (eval c X.env); pure (ForInStep.yield ok) else pure (ForInStep.yield r)) (TP X pins σ Q) X.xe s
def tTrue : TT := fun _ H Q => Q true H
theorem pts_nil {X : Cx} : PTs X [] tTrue := fun _ _ _ H _ I h => wpAny_tests_nil ⟨H, I, h⟩
/-- W: turn, measure, the list so far, the heap -/
def LCi (J : It) (D : Addr) (tt : TT) (te : TE) (σ : St) (H1 : Hp) (Q : VK) : Prop := ∃ W : Nat → Nat → List V → Hp → Prop, (∃ m, W 0 m [] (upd H1 D (.lst []))) ∧
  ∀ i m acc H2, W i m acc H2 → (J.stop i H2 ∧ Q (.ref D) H2) ∨ (J.go i H2 ∧ ∀ v H3, J.yld i H2 v H3 → tt (some v :: σ) H3 fun b H4 =>
    if b = true then te (some v :: σ) H4 fun y H5 => H5 D = some (.lst acc) ∧ acc.length < sizeLine ∧ ∃ m', m' < m ∧ W (i + 1) m' (acc ++ [y]) (upd H5 D (.lst (acc ++ [y])))
    else ∃ m', m' < m ∧ W (i + 1) m' acc H4)
def tLC (wi : TI) (tt : TT) (te : TE) : TE := fun σ H Q => wi σ H fun J H1 => ∀ D, H1 D = none → LCi J D tt te σ H1 Q

section
variable {prog : Program} {w : World} {A : Around} {R : Result → Shared → Prop} {s : Shared}
/-- the loop of a comprehension, by a word and a measure; nothing is raised in it -/
theorem comp_loop {elt target iter : Expr} {ifs : List Expr} {scope : Scope} {pos : Pos} {it acc : Value} {env : Env} (I : Nat → Shared → Prop)
    (turn : ∀ n s, I n s → wpAny (model prog w) A (pyNext it) (fun r s₁ => match r with
      | none => R (.ok .next) s₁
      | some v => wpAny (model prog w) A (letOwnedTupleGo target it v) (fun _ s₂ => wpAny (model prog w) A (assign target env v) (fun _ s₃ =>
          wpAny (model prog w) A (forIn ifs true fun c r => if r = true then do let ok ← isTrue c env (eval c env); pure (ForInStep.yield ok) else pure (ForInStep.yield r))
            (fun ok s₄ => if ok = true then wpAny (model prog w) A (eval elt env) (fun y s₅ => wpAny (model prog w) A (call (.builtin "list.append") [acc, y]) (fun _ s₆ => ∃ m, m < n ∧ I m s₆) (fun _ _ => False) s₅) (fun _ _ => False) s₄
              else ∃ m, m < n ∧ I m s₄) (fun _ _ => False) s₃) (fun _ _ => False) s₂) (fun _ _ => False) s₁) (fun _ _ => False) s)
    (n : Nat) (h : I n s) : codeAny (model prog w) A (.compLoop (.ListComp elt [⟨target, iter, ifs, 0⟩] scope pos) 0 it acc env) R s := by
  refine codeAny_loop rfl I (fun n s hI => ?_) n h
  show wpAny _ A ((compTurn (.ListComp elt [⟨target, iter, ifs, 0⟩] scope pos) 0 it acc env).onRaise _) _ _ s
  refine wpAny_noted ?_
  rw [compTurn_list]
  have no : ∀ (e : Value) (s' : Shared), False → notedBy (model prog w) A env (fun x s' => R (.error x) s') e s' := fun _ _ z => z.elim
  refine wpAny_bind (wpAny_standAt (wpAny_bind (wpAny_mono (turn n s hI) (fun r s₁ h₁ => ?_) no)))
  cases r with
  | none => exact wpAny_pure h₁
  | some v =>
    refine wpAny_bind (wpAny_mono h₁ (fun _ s₂ h₂ => ?_) no)
    refine wpAny_bind (wpAny_mono h₂ (fun _ s₃ h₃ => ?_) no)
    refine wpAny_bind (wpAny_mono h₃ (fun ok s₄ h₄ => ?_) no)
    cases ok with
    | false =>
      rw [if_neg Bool.false_ne_true] at h₄
      exact wpAny_pure ⟨rfl, h₄⟩
    | true =>
      rw [if_pos rfl] at h₄
      refine wpAny_bind (wpAny_bind (wpAny_mono h₄ (fun y s₅ h₅ => ?_) no))
      exact wpAny_bind (wpAny_mono h₅ (fun _ s₆ h₆ => wpAny_pure (wpAny_pure ⟨rfl, h₆⟩)) no)
end

section
variable {X : Cx} {scope : Scope} {cl : List (Str × Addr)} {x : Str}
/-- what the comprehension's scope must be -/
structure CompOk (X : Cx) (scope : Scope) (cl : List (Str × Addr)) (x : Str) : Prop where
  clos : closureFor scope X.env = pure cl
  cell : ∀ y ∈ scope.names, y.2 ≠ .cell
  kind : scope.kind = .function
  names : ∀ y ∈ scope.names, y.2 = .local → scope.names.lookup y.1 = some .local
  own : scope.names.lookup x = some .local
  nd : (x :: X.N).Nodup
  sub : ∀ y c, cl.lookup y = some c → X.env.cells.lookup y = some c
  vis : ∀ y ∈ X.N, Vis (relabel scope X.env) y → X.env.kindOf y ≠ some .local ∧ ((relabel scope X.env).names.lookup y = some .cell ∨ (relabel scope X.env).names.lookup y = some .free) ∧ cl.lookup y = X.env.cells.lookup y
  has : ∀ y, ((relabel scope X.env).names.lookup y = some .cell ∨ (relabel scope X.env).names.lookup y = some .free) → ∃ c, cl.lookup y = some c
  visO : ∀ y ∈ X.N, Vis (relabel scope X.env) y → Vis X.env.scope y

theorem comp_start {pins : List (Addr × Obj)} {σ : St} {H : Hp} {s : Shared} {h₁ : Heap} {ex : List Addr} {t' : Nat} (O : CompOk X scope cl x) (I : Inv X pins σ H s) (hex : ∀ b ∈ ex, FpOk X pins H b) (hlt : ∀ b ∈ ex, b < s.heap.objs.size)
    (hn : h₁.Ns s.heap.objs.size (fun _ => none)) (hk : ∀ b o, s.heap.get? b = some o → h₁.get? b = some o) :
    Inv (compX X scope cl x s H s.heap.objs.size ex) [] (none :: σ) H { s with heap := h₁, toks := t' } := by
  refine ⟨⟨I.ok.mod, O.kind, I.ok.glob, I.ok.blt, Nat.le_refl _, fun y z c h1 h2 => I.ok.inj y z c (O.sub y c h1) (O.sub z c h2), fun y hy => O.has y hy, fun y c h => (by cases h), I.ok.hd, I.ok.frames, .inl rfl, fun b hb => ?_,
    I.bs, Nat.le_trans I.ok.bsz I.sz, fun b o e hb => ?_, fun b hb hf => ?_, I.stack, I.stkFree⟩, rfl, I.bare, Un.kept hk, ⟨_, hn, fun i y v h1 h2 h3 => ?_⟩, fun y c h => ?_, I.hok.fresh (Nat.le_refl _), fun y c h => I.freeC y c (O.sub y c h), fun p hp => absurd (show p ∈ ([] : List (Addr × Obj)) from hp) (by simp), I.hok.kept hk, ?_⟩
  · exact ⟨Nat.ne_of_lt (hlt b hb), fun y c h => (hex b hb).2.2.2.2.1 y c (O.sub y c h)⟩
  · rcases (hex b hb).2.2.2.1 with z | z
    · exact I.ok.noex b o e z
    · exact absurd (Nat.lt_of_lt_of_le (Heap.lt_size (I.ok.bs b o e).1) z) (Nat.lt_irrefl _)
  · rcases List.mem_cons.mp (I.stkSub b hf) with z | z
    · exact (hex b hb).2.1 z
    · exact (hex b hb).2.2.1 z
  · cases i with
    | zero => cases h2
    | succ i =>
      have h1' : X.N[i]? = some y := h1
      have h2' : σ[i]? = some (some v) := h2
      have hy : y ∈ X.N := List.mem_of_getElem? h1'
      obtain ⟨m, _, hl⟩ := I.loc
      obtain ⟨u, r, l⟩ := hl i y v h1' h2' (O.visO y hy h3)
      obtain ⟨n1, n2, n3⟩ := O.vis y hy h3
      refine ⟨u, r, .inr ⟨n2, ?_⟩⟩
      rcases l with ⟨l, _⟩ | ⟨_, c, e, z⟩
      · exact absurd l n1
      · obtain ⟨o, ho, hd⟩ := z
        exact ⟨c, n3.trans e, o, hk _ _ ho, hd⟩
  · obtain ⟨v, o, ho, hd⟩ := I.cell y c (O.sub y c h)
    exact ⟨v, o, hk _ _ ho, hd⟩
  · show (none :: σ).length = (x :: X.N).length
    rw [List.length_cons, List.length_cons, I.len]

theorem comp_back {pins : List (Addr × Obj)} {σ σ' : St} {H H' : Hp} {s s' : Shared} {h' : Heap} {C : Addr} {ex : List Addr} (I : Inv X pins σ H s) (hex : ∀ b ∈ ex, FpOk X pins H b) (hC : s.heap.objs.size ≤ C)
    (J : Inv (compX X scope cl x s H C ex) [] σ' H' s') (hs : Heap.SameBut C s'.heap h') : Inv X pins σ H' { s' with heap := h' } := by
  have hok : HOk X.prog X.w H' h' := fun b o e => by
    have z := J.hok b o e
    refine z.stay (fun c v hc q => (hs.2 c ?_).trans q) (fun _ q => q) fun _ _ q => q
    intro zc
    have hf : H' C = none := J.free
    rcases hc with hc | hc
    · rw [← hc, zc, hf] at e; cases e
    · rw [zc, hf] at hc; cases hc
  have ne : ∀ b o, s.heap.get? b = some o → b ≠ C := fun b o e => Nat.ne_of_lt (Nat.lt_of_lt_of_le (Heap.lt_size e) hC)
  have un : Un (frs X.stack) ex H H' s.heap h' :=
    ⟨fun b o e n hb hx => (hs.2 b (ne b o e)).trans (J.base.keep b o e n hb hx), fun b o e n hb hx => let ⟨sl, q⟩ := J.base.slot b o e n hb hx; ⟨sl, (hs.2 b (ne b o e)).trans q⟩, fun b o e n hx => J.base.free b o e n hx,
      fun b o e hx => let ⟨o', q⟩ := J.base.there b o e hx; ⟨o', (hs.2 b (ne b o e)).trans q⟩, J.base.tups, J.base.frzs, J.base.tbls⟩
  exact I.call' (ch := ex) J.os un hok J.bare fun b hb => ⟨(hex b hb).2.2.2.1, (hex b hb).2.1, (hex b hb).2.2.2.2.1, (hex b hb).2.2.2.2.2⟩

theorem pe_lc {elt iter : Expr} {px : Pos} {ifs : List Expr} {pos : Pos} {wi : TI} {tt : TT} {te : TE} (hc : X.calm = true) (O : CompOk X scope cl x) (hi : PI X (.Name x px) iter wi)
    (ht : ∀ s₃ H₃ C ex, PTs (compX X scope cl x s₃ H₃ C ex) ifs tt) (he : ∀ s₃ H₃ C ex, PE (compX X scope cl x s₃ H₃ C ex) elt te)
    (hs : ∀ z, foldedSetIterable iter X.env z = pure z := by intro _; rfl) : PE X (.ListComp elt [⟨.Name x px, iter, ifs, 0⟩] scope pos) (tLC wi tt te) := by
  intro pins s σ H Q I h
  rw [eval_ListComp]
  refine wpAny_comprehension_free (use := none) rfl hs O.clos O.kind O.names (thn (hi pins s σ H _ I h) fun v s1 h1 => thn h1 fun itv s2 h2 => ?_)
  obtain ⟨it, fp, tn, J, H2, e, I2, T, st2, f2, step⟩ := h2
  subst e
  have hD : H2 s2.heap.objs.size = none := I2.fresh
  obtain ⟨W, ⟨m0, w0⟩, turn⟩ := step _ hD
  refine wpAny_newObj_type (wpAny_newFunctionEnv O.cell (by intro y hy; simp at hy) (fun h₁ hns₁ hsb₁ => ?_) O.kind)
  have I3 : Inv X pins σ (upd H2 s2.heap.objs.size (.lst [])) { s2 with heap := s2.heap.push { cls := .type "list", dict := none, data := .seq ([] : List Value).toArray } } := I2.lnew (t' := s2.toks) (ys := []) .nil (by decide)
  have fpn : ∀ b ∈ fp, b ≠ s2.heap.objs.size := fun b hb => by
    obtain ⟨o, e, _⟩ := T.obj _ _ st2 b hb
    exact Nat.ne_of_lt (Heap.lt_size e)
  have f3 : ∀ b ∈ fp, FpOk X pins (upd H2 s2.heap.objs.size (.lst [])) b := fun b hb => ⟨by rw [upd_ne (fpn b hb)]; exact (f2 b hb).1, (f2 b hb).2⟩
  have hlt : ∀ b ∈ fp, b < (s2.heap.push { cls := .type "list", dict := none, data := .seq ([] : List Value).toArray }).objs.size := fun b hb => by
    obtain ⟨o, e, _⟩ := T.obj _ _ st2 b hb
    exact Nat.lt_trans (Heap.lt_size e) (by rw [Heap.size_push]; exact Nat.lt_succ_self _)
  have hk1 : ∀ b o, (s2.heap.push { cls := .type "list", dict := none, data := .seq ([] : List Value).toArray }).get? b = some o → h₁.get? b = some o := fun b o e =>
    (hsb₁.2 b (Nat.ne_of_lt (Heap.lt_size e))).trans (Heap.get?_push_of_some _ e)
  have J4 := comp_start (t' := s2.toks + ([] : List (Str × Value)).length) O I3 f3 hlt hns₁ hk1
  have st4 : tn 0 h₁ := T.keep _ _ _ st2 fun b hb o e => hk1 b o (Heap.get?_push_of_some _ e)
  have fine : ∀ {H' : Hp}, (∀ b ∈ fp, H' b = none) → ∀ b ∈ fp, FpOk (compX X scope cl x { s2 with heap := s2.heap.push { cls := .type "list", dict := none, data := .seq ([] : List Value).toArray } } (upd H2 s2.heap.objs.size (.lst [])) (s2.heap.push { cls := .type "list", dict := none, data := .seq ([] : List Value).toArray }).objs.size fp) [] H' b := fun hn b hb =>
    ⟨hn b hb, Nat.ne_of_lt (hlt b hb), fun hf => by
      rcases List.mem_cons.mp (I2.stkSub b hf) with z | z
      · exact (f2 b hb).2.1 z
      · exact (f2 b hb).2.2.1 z, .inl hb, fun y c h => (f2 b hb).2.2.2.2.1 y c (O.sub y c h), fun p hp => absurd (show p ∈ ([] : List (Addr × Obj)) from hp) (by simp)⟩
  have loop : codeAny (model X.prog X.w) X.A (.compLoop (.ListComp elt [⟨.Name x px, iter, ifs, 0⟩] scope pos) 0 (.ref it) (.ref s2.heap.objs.size) (compEnvC scope cl (s2.heap.push { cls := .type "list", dict := none, data := .seq ([] : List Value).toArray }).objs.size X.env))
      (compPost (model X.prog X.w) X.A X.xe none (EP X pins σ Q) (.ref s2.heap.objs.size) (s2.heap.push { cls := .type "list", dict := none, data := .seq ([] : List Value).toArray }).objs.size) { s2 with heap := h₁, toks := s2.toks + ([] : List (Str × Value)).length } := by
    refine comp_loop (fun n s' => ∃ i acc v0 H', Inv (compX X scope cl x { s2 with heap := s2.heap.push { cls := .type "list", dict := none, data := .seq ([] : List Value).toArray } } (upd H2 s2.heap.objs.size (.lst [])) (s2.heap.push { cls := .type "list", dict := none, data := .seq ([] : List Value).toArray }).objs.size fp) [] (v0 :: σ) H' s' ∧ tn i s'.heap ∧ (∀ b ∈ fp, H' b = none) ∧ W i n acc H') ?_ m0 ⟨0, [], none, _, J4, st4, fun b hb => (f3 b hb).1, w0⟩
    rintro n s3 ⟨i, acc, v0, H3, J3, st3, fr3, w3⟩
    rcases turn i n acc H3 w3 with ⟨stop, qn⟩ | ⟨go, nxt⟩
    · refine wpAny_mono (T.done (compX X scope cl x _ _ _ fp) rfl rfl rfl hc i [] s3 (v0 :: σ) H3 (fun _ _ => False) J3 (fine fr3) st3 stop) (fun r s4 ⟨hr, J5⟩ => ?_) fun _ _ z => z.elim
      subst hr
      obtain ⟨m, hn, _⟩ := J5.loc
      exact ⟨m, hn, fun h' hs' => ⟨.ref s2.heap.objs.size, H3, comp_back I3 f3 (Nat.le_refl _) J5 hs', rfl, qn⟩⟩
    · refine wpAny_mono (T.item (compX X scope cl x _ _ _ fp) rfl rfl rfl hc i [] s3 (v0 :: σ) H3 (fun _ _ => False) J3 (fine fr3) st3 go) (fun r s4 ⟨u, hr, h4⟩ => ?_) fun _ _ z => z.elim
      subst hr
      refine wpAny_mono h4 (fun _ s5 ⟨v, H5, J5, r5, y5, st5, fr5⟩ => ?_) fun _ _ z => z.elim
      have J5' := J5.pinned (fine fr5) (T.obj _ _ st5)
      refine wpAny_mono (pg_name (i := 0) (pos := px) O.nd rfl (.inl (lookup_relabel_local O.own)) (.inr (lookup_relabel_local O.own)) _ s5 (v0 :: σ) H5 v u (fun σ' H' => σ' = some v :: σ ∧ H' = H5) J5' r5 ⟨rfl, rfl⟩) (fun _ s6 ⟨σ6, H6, J6, e6, e6'⟩ => ?_) fun _ _ z => z.elim
      subst e6 e6'
      have again : ∀ {s7 : Shared} {H7 : Hp}, Inv (compX X scope cl x { s2 with heap := s2.heap.push { cls := .type "list", dict := none, data := .seq ([] : List Value).toArray } } (upd H2 s2.heap.objs.size (.lst [])) (s2.heap.push { cls := .type "list", dict := none, data := .seq ([] : List Value).toArray }).objs.size fp) ([] ++ pinsAt fp s5.heap) (some v :: σ) H7 s7 → tn (i + 1) s7.heap ∧ (∀ b ∈ fp, H7 b = none) := fun {s7 H7} J7 => by
        refine ⟨T.keep _ _ _ st5 fun b hb o e => (J7.pin (b, o) (List.mem_append_right _ (List.mem_append_right _ (mem_pinsAt hb e)))).1, fun b hb => ?_⟩
        obtain ⟨o, e, d⟩ := T.obj _ _ st5 b hb
        exact (J7.pin (b, o) (List.mem_append_right _ (List.mem_append_right _ (mem_pinsAt hb e)))).2.1
      refine wpAny_mono (ht _ _ _ _ _ s6 (some v :: σ) H6 _ J6 (nxt v H6 y5)) (fun b s7 ⟨H7, J7, q7⟩ => ?_) fun _ _ z => z.elim
      cases b with
      | false =>
        rw [if_neg Bool.false_ne_true] at q7 ⊢
        obtain ⟨m', hm, w7⟩ := q7
        obtain ⟨a1, a2⟩ := again J7
        exact ⟨m', hm, i + 1, acc, some v, H7, J7.unpinned, a1, a2, w7⟩
      | true =>
        rw [if_pos rfl] at q7 ⊢
        refine wpAny_mono (he _ _ _ _ _ s7 (some v :: σ) H7 _ J7 q7) (fun u8 s8 ⟨y, H8, J8, r8, k8, z8, m', hm, w8⟩ => ?_) fun _ _ z => z.elim
        refine wpAny_mono (mt_append (X := compX X scope cl x { s2 with heap := s2.heap.push { cls := .type "list", dict := none, data := .seq ([] : List Value).toArray } } (upd H2 s2.heap.objs.size (.lst [])) (s2.heap.push { cls := .type "list", dict := none, data := .seq ([] : List Value).toArray }).objs.size fp) _ s8 (some v :: σ) H8 (.ref s2.heap.objs.size) [y] (.ref s2.heap.objs.size) [u8] (fun _ H' => H' = upd H8 s2.heap.objs.size (.lst (acc ++ [y]))) J8 rfl (.cons r8 .nil) ⟨_, acc, y, rfl, rfl, k8, z8, rfl⟩) (fun u9 s9 ⟨v9, H9, J9, r9, e9⟩ => ?_) fun _ _ z => z.elim
        subst e9
        obtain ⟨a1, a2⟩ := again J9
        exact ⟨m', hm, i + 1, acc ++ [y], some v, _, J9.unpinned, a1, a2, w8⟩
  exact codeAny_compStart_list loop (T.self X.A 0 _ _ _ st4 loop)
end
end L2

namespace L2
open PySem PySem.Spec PyProof.Rows

/-! ### exceptions of own classes: how one lies behind a call -/
/-- what stood at the entry s, and all that is tracked, is in B as it stands, but for the frames -/
def Covers (B : Heap) (H' : Hp) (s s' : Shared) (fs : List Addr) : Prop := ∀ b o, s'.heap.get? b = some o → ((∃ o', s.heap.get? b = some o') ∨ H' b ≠ none) → b ∉ fs → B.get? b = some o
def CXR (P : Program) (w : World) : CXT := fun outer H s E e s' => ∃ (a C : Addr) (a0 : Value) (B : Heap) (H' : Hp), e = .ref a ∧ s'.os = s.os ∧ AllBare s'.gens ∧ Un (frs outer) [] H H' s.heap s'.heap ∧ HOk P w H' s'.heap ∧
  Heap.FlyingW B outer a (.ref C) a0 s'.heap ∧ Covers B H' s s' (frs outer) ∧ H' a = none ∧ s.heap.get? a = none ∧ E (.ref C) none H'
theorem passR {X : Cx} {P : Program} {w : World} : Passes (CXR P w) X E0 := fun _ _ _ _ _ _ _ ⟨_, _, _, _, _, _, _, _, _, _, _, _, _, _, z⟩ => z.elim
theorem ObjOk.has {P : Program} {w : World} {H : Hp} {h : Heap} {a : Addr} {o : HO} (x : ObjOk P w H h a o) : ∃ u, h.get? a = some u := by
  cases o with
  | lst xs => obtain ⟨_, _, _, _, e⟩ := x; exact ⟨_, e⟩
  | tup xs => obtain ⟨_, _, _, _, e, _⟩ := x; exact ⟨_, e⟩
  | dK kvs => obtain ⟨_, _, _, _, o, _, _, e, _⟩ := x; exact ⟨_, e⟩
  | dT kvs => obtain ⟨_, _, _, _, o, _, _, e, _⟩ := x; exact ⟨_, e⟩
  | set S n => obtain ⟨o, _, _, _, e, _⟩ := x; exact ⟨_, e⟩
  | ins C dx fs => obtain ⟨_, _, _, e, _⟩ := x; exact ⟨_, e⟩
  | own y => exact x
  | xd fs => obtain ⟨_, ⟨_, _, _, e, _⟩, _⟩ := x; exact ⟨_, e⟩
  | rng lo hi => obtain ⟨_, _, _, e⟩ := x; exact ⟨_, e⟩
  | frz ob u => obtain ⟨e, _⟩ := x; exact ⟨_, e⟩
  | tbl ps => exact ⟨_, (show h.get? a = some _ from x)⟩
  | met f y => exact ⟨_, (show h.get? a = some _ from x)⟩
  | ext φ => obtain ⟨_, e, _⟩ := x; exact e

section
variable {P : Program} {w : World} {K : PySem.W.Frag} {mg : Str → Option Value} {base : Heap} {N : List Str} {qual : Str} {scope : Scope} {f : Addr} {cd : Value} {A : Around} {outer : List Env} {s₀ : Shared} {H₀ : Hp} {E : XK}
/-- an exception that has just been made reaches what is wanted -/
def Flies (X : Cx) (E : XK) : Prop := ∀ (pins : List (Addr × Obj)) (σ : St) (H : Hp) (s : Shared) (e C : Addr) (vs : List Value) (h' : Heap), Inv X pins σ H s → Heap.MadeExcOf s.heap h' e (.ref C) vs → E (.ref C) none H → X.xe (.ref e) { s with heap := h' }
theorem mem_frs {l : List Env} {env : Env} {b : Addr} (he : env ∈ l) (hb : env.frame = some b) : b ∈ frs l := List.mem_filterMap.mpr ⟨env, he, hb⟩
theorem frs_cons {env : Env} {l : List Env} {L b : Addr} (hf : env.frame = some L) (hb : b ∈ frs (env :: l)) : b = L ∨ b ∈ frs l := by
  unfold frs at hb
  rw [List.filterMap_cons, hf] at hb
  exact List.mem_cons.mp hb
theorem flies_fn : Flies (cxOf (CXR P w) P w K mg base N qual scope f cd A outer s₀ H₀ E) E := by
  intro pins σ H s e C vs h1 I hx hE
  have ss : ∀ b, b ∈ frs (envOfC qual scope s₀.heap.objs.size f cd :: outer) → b = s₀.heap.objs.size ∨ b ∈ frs outer := fun b hb => frs_cons rfl hb
  have fresh : ∀ b o, s₀.heap.get? b = some o → b ≠ s₀.heap.objs.size := fun b o q => Nat.ne_of_lt (Heap.lt_size q)
  refine wpAny_leaves_madeW (base := PySem.W.hideAll s.heap (frs (envOfC qual scope s₀.heap.objs.size f cd :: outer))) (h := s.heap) (L := s₀.heap.objs.size) I.ok.frames rfl (fun b o q => PySem.W.of_hideAll _ q)
    (PySem.W.funFrames_hide I.stack fun env he b hb => mem_frs he hb) hx fun h' t fl tup bt ups => ?_
  have keepB : ∀ b o, s.heap.get? b = some o → b ∉ frs (envOfC qual scope s₀.heap.objs.size f cd :: outer) → h'.get? b = some o := fun b o q n => fl.1 b o (PySem.W.hideAll_get _ q n)
  have out0 : ∀ b o, s₀.heap.get? b = some o → b ∉ frs outer → b ∉ frs (envOfC qual scope s₀.heap.objs.size f cd :: outer) := fun b o q n z => (ss b z).elim (fresh b o q) n
  have outH : ∀ b u, H b = some u → b ∉ frs (envOfC qual scope s₀.heap.objs.size f cd :: outer) := fun b u q z => by
    have := I.stkFree b z
    rw [q] at this; cases this
  have slotF : ∀ b o, s.heap.get? b = some o → b ∈ frs outer → ∃ sl, h'.get? b = some { o with slots := sl } := fun b o q hb => by
    obtain ⟨_, o', q', nf⟩ := I.funs.mem hb
    rw [q] at q'; cases q'
    exact ups b o (hx.keeps b o q) nf
  have hok : HOk P w H h' := fun b u q => (I.hok b u q).stay (fun c v hc q' => keepB c v q' (by
    rcases hc with rfl | hc
    · exact outH c u q
    · exact outH c _ hc)) (fun _ q => q) fun _ _ q => q
  have there : ∀ b o, s₀.heap.get? b = some o → ∃ o1, s.heap.get? b = some o1 := fun b o q => I.base.there b o q (by intro z; exact absurd (show b ∈ ([] : List Addr) from z) (by simp))
  have nex : ∀ b : Addr, b ∉ (cxOf (CXR P w) P w K mg base N qual scope f cd A outer s₀ H₀ E).ex := fun b z => absurd (show b ∈ ([] : List Addr) from z) (by simp)
  refine ⟨e, C, .ref t, _, H, rfl, I.os, I.bare, ⟨fun b o q n hb _ => keepB b o (I.base.keep b o q n hb (nex b)) (out0 b o q hb), fun b o q n hb _ => ?_, fun b o q n _ => I.base.free b o q n (nex b), fun b o q _ => ?_, I.base.tups, I.base.frzs, I.base.tbls⟩, hok, fl, fun b o q hb nb => ?_, ?_, ?_, hE⟩
  · obtain ⟨sl, q1⟩ := I.base.slot b o q n hb (nex b)
    obtain ⟨sl', q2⟩ := slotF b _ q1 hb
    exact ⟨sl', q2⟩
  · obtain ⟨o1, q1⟩ := there b o q
    by_cases hb : b ∈ frs outer
    · obtain ⟨sl, q2⟩ := slotF b o1 q1 hb
      exact ⟨_, q2⟩
    · exact ⟨_, keepB b o1 q1 (out0 b o q hb)⟩
  · obtain ⟨o1, q1, n1⟩ : ∃ o1, s.heap.get? b = some o1 ∧ b ∉ frs (envOfC qual scope s₀.heap.objs.size f cd :: outer) := by
      rcases hb with ⟨o', q'⟩ | hb
      · obtain ⟨o1, q1⟩ := there b o' q'
        exact ⟨o1, q1, out0 b o' q' nb⟩
      · cases hH : H b with
        | none => exact absurd hH hb
        | some u =>
          obtain ⟨o1, q1⟩ := (I.hok b u hH).has
          exact ⟨o1, q1, outH b u hH⟩
    have q2 := keepB b o1 q1 n1
    have q' : h'.get? b = some o := q
    rw [q2] at q'; cases q'
    exact PySem.W.hideAll_get _ q1 n1
  · cases hH : H e with
    | none => rfl
    | some u =>
      obtain ⟨o1, q1⟩ := (I.hok e u hH).has
      have q1 : s.heap.get? e = some o1 := q1
      rw [hx.new] at q1; cases q1
  · cases hq : s₀.heap.get? e with
    | none => rfl
    | some o =>
      obtain ⟨o1, q1⟩ := there e o hq
      rw [hx.new] at q1; cases q1
/-- an exception of a callee that goes on through this frame -/
def PassesS (CX : CXT) (X : Cx) (E : St → XK) : Prop := ∀ (pins : List (Addr × Obj)) (σ : St) (H : Hp) (s : Shared) (e : Value) (s' : Shared), Inv X pins σ H s → CX X.stack H s (E σ) e s' → X.xe e s'
theorem pass_fn {E' : St → XK} (hE : ∀ σ c d H, E' σ c d H → E c d H) : PassesS (CXR P w) (cxOf (CXR P w) P w K mg base N qual scope f cd A outer s₀ H₀ E) E' := by
  intro pins σ H s e s' I hc
  obtain ⟨a, C, a0, B, H', rfl, os, bare, un, hok, fl, cv, n1, n2, hE'⟩ := hc
  have ss : ∀ b, b ∈ frs (envOfC qual scope s₀.heap.objs.size f cd :: outer) → b = s₀.heap.objs.size ∨ b ∈ frs outer := fun b hb => frs_cons rfl hb
  have fresh : ∀ b o, s₀.heap.get? b = some o → b ≠ s₀.heap.objs.size := fun b o q => Nat.ne_of_lt (Heap.lt_size q)
  have out0 : ∀ b o, s₀.heap.get? b = some o → b ∉ frs outer → b ∉ frs (envOfC qual scope s₀.heap.objs.size f cd :: outer) := fun b o q n z => (ss b z).elim (fresh b o q) n
  have nex : ∀ b : Addr, b ∉ (cxOf (CXR P w) P w K mg base N qual scope f cd A outer s₀ H₀ E).ex := fun b z => absurd (show b ∈ ([] : List Addr) from z) (by simp)
  refine wpAny_leaves_onW (base := B) (L := s₀.heap.objs.size) I.ok.frames rfl fl fun h' fl' ups => ?_
  have outH : ∀ b u, H' b = some u → b ∉ frs (envOfC qual scope s₀.heap.objs.size f cd :: outer) := fun b u q z => by
    have hf : H b = none := I.stkFree b z
    obtain ⟨_, o, q1, _⟩ := I.stack.mem z
    have := un.free b o q1 hf (by simp)
    rw [q] at this; cases this
  have keep1 : ∀ b o, s'.heap.get? b = some o → ((∃ o', s.heap.get? b = some o') ∨ H' b ≠ none) → b ∉ frs (envOfC qual scope s₀.heap.objs.size f cd :: outer) → h'.get? b = some o := fun b o q hb nb => fl'.1 b o (cv b o q hb nb)
  have slotF : ∀ b o, s'.heap.get? b = some o → b ∈ frs outer → ∃ sl, h'.get? b = some { o with slots := sl } := fun b o q hb => by
    obtain ⟨_, o', q', nf⟩ := fl.2.2.1.mem (List.mem_filterMap.mpr (by
      obtain ⟨env, he, hf⟩ := List.mem_filterMap.mp hb
      exact ⟨env, List.mem_cons_of_mem _ he, hf⟩))
    rw [q] at q'; cases q'
    exact ups b o q nf
  have inS : ∀ b, b ∈ frs outer → b ∈ frs (envOfC qual scope s₀.heap.objs.size f cd :: outer) := fun b hb => by
    obtain ⟨env, he, hf⟩ := List.mem_filterMap.mp hb
    exact mem_frs (List.mem_cons_of_mem _ he) hf
  have there : ∀ b o, s₀.heap.get? b = some o → ∃ o1 o2, s.heap.get? b = some o1 ∧ s'.heap.get? b = some o2 := fun b o q => by
    obtain ⟨o1, q1⟩ := I.base.there b o q (nex b)
    obtain ⟨o2, q2⟩ := un.there b o1 q1 (by simp)
    exact ⟨o1, o2, q1, q2⟩
  have hok' : HOk P w H' h' := fun b u q => (hok b u q).stay (fun c v hc q' => by
    rcases hc with rfl | hc
    · exact keep1 c v q' (.inr (by rw [q]; simp)) (outH c u q)
    · exact keep1 c v q' (.inr (by rw [hc]; simp)) (outH c _ hc)) (fun _ q => q) fun _ _ q => q
  refine ⟨a, C, a0, B, H', rfl, os.trans I.os, bare, ⟨fun b o q n hb _ => ?_, fun b o q n hb _ => ?_, fun b o q n _ => ?_, fun b o q _ => ?_, fun b xs q => un.tups b xs (I.base.tups b xs q), fun b o u q => un.frzs b o u (I.base.frzs b o u q), fun b ps q => ?_⟩, hok', fl', fun b o q hb nb => ?_, n1, ?_, hE _ _ _ _ hE'⟩
  · have q1 := I.base.keep b o q n hb (nex b)
    have nb := out0 b o q hb
    exact keep1 b o (un.keep b o q1 (I.base.free b o q n (nex b)) nb (by simp)) (.inl ⟨o, q1⟩) nb
  · obtain ⟨sl, q1⟩ := I.base.slot b o q n hb (nex b)
    obtain ⟨sl', q2⟩ := un.slot b _ q1 (I.base.free b o q n (nex b)) (inS b hb) (by simp)
    obtain ⟨sl2, q3⟩ := slotF b _ q2 hb
    exact ⟨sl2, q3⟩
  · obtain ⟨o1, q1⟩ := I.base.there b o q (nex b)
    exact un.free b o1 q1 (I.base.free b o q n (nex b)) (by simp)
  · obtain ⟨o1, o2, q1, q2⟩ := there b o q
    by_cases hb : b ∈ frs outer
    · obtain ⟨sl, q3⟩ := slotF b o2 q2 hb
      exact ⟨_, q3⟩
    · exact ⟨_, keep1 b o2 q2 (.inl ⟨o1, q1⟩) (out0 b o q hb)⟩
  · obtain ⟨m1, e1⟩ := I.base.tbls b ps q
    obtain ⟨m2, e2⟩ := un.tbls b _ e1
    exact ⟨m1 ++ m2, by rw [e2, Array.append_assoc]⟩
  · have q' : h'.get? b = some o := q
    rcases hb with ⟨o', q0⟩ | hb
    · obtain ⟨o1, o2, q1, q2⟩ := there b o' q0
      have q3 := keep1 b o2 q2 (.inl ⟨o1, q1⟩) (out0 b o' q0 nb)
      rw [q3] at q'; cases q'
      exact cv b _ q2 (.inl ⟨o1, q1⟩) (out0 b o' q0 nb)
    · cases hH : H' b with
      | none => exact absurd hH hb
      | some u =>
        obtain ⟨o2, q2⟩ := (hok b u hH).has
        have q3 := keep1 b o2 q2 (.inr hb) (outH b u hH)
        rw [q3] at q'; cases q'
        exact cv b _ q2 (.inr hb) (outH b u hH)
  · cases hq : s₀.heap.get? a with
    | none => rfl
    | some o =>
      obtain ⟨o1, o2, q1, q2⟩ := there a o hq
      rw [n2] at q1; cases q1
end

/-! ### a def as it stands behind the top, with the tuple of its defaults -/
structure FunD (K : PySem.W.Frag) (x qual : Str) (st : Stmt) (dV : Value) (f : Addr) (fd : FuncData) : Prop where
  ex : ∃ (oc : Value) (od : Option Addr) (kV doc pm : Value) (an : Option Addr) (cdv ct : Value) (osl : Array (Option Value)),
    fd = PySem.W.fnOf x qual (defArgs st) (defBody st) (defScope st) dV kV doc pm an cdv ct ∧ K.lookup f = some ⟨oc, od, .func fd, osl⟩ ∧ PySem.W.codeIn K cdv qual = true
  kp : PySem.W.keepIn K (.ref f) = true
section
variable {P : Program} {w : World} {K : PySem.W.Frag} {mg : Str → Option Value} {base : Heap}
theorem FunD.okR {x qual : Str} {st : Stmt} {dV : Value} {f : Addr} {fd : FuncData} {N ps : List Str} {k : Nat} {sp : Sp} (F : FunD K x qual st dV f fd) (S : FnScope N ps (defScope st)) (len : ∀ vs H Q E, sp vs H Q E → vs.length = ps.length)
    (hbody : ∀ (cdv : Value) (A : Around) (outer : List Env) (s : Shared) (H : Hp) (vs : List V) (Q : VK) (E : XK), Room k (A.deeper (envOfC qual (defScope st) s.heap.objs.size f cdv)) → sp vs H Q E →
      ∃ t, PSs (cxOf (CXR P w) P w K mg base N qual (defScope st) f cdv A outer s H E) (defBody st) t ∧ t { nx := fun _ H' => Q .non H', rt := Q } (start N vs) H) : FnOk P w K mg base (CXR P w) (k + 1) f fd ps sp := by
  obtain ⟨oc, od, kV, doc, pm, an, cdv, ct, osl, rfl, lk, hcd⟩ := F.ex
  exact fn_of lk hcd S len fun A outer s H vs Q E hr hsp => hbody cdv A outer s H vs Q E hr hsp
/-- nothing is raised in it -/
theorem FunD.okN {x qual : Str} {st : Stmt} {dV : Value} {f : Addr} {fd : FuncData} {N ps : List Str} {k : Nat} {sp : Sp} (F : FunD K x qual st dV f fd) (S : FnScope N ps (defScope st)) (len : ∀ vs H Q E, sp vs H Q E → vs.length = ps.length)
    (hbody : ∀ (cdv : Value) (A : Around) (outer : List Env) (s : Shared) (H : Hp) (vs : List V) (Q : VK) (E : XK), Room k (A.deeper (envOfC qual (defScope st) s.heap.objs.size f cdv)) → sp vs H Q E →
      ∃ t, PSs (cxOf (CXR P w) P w K mg base N qual (defScope st) f cdv A outer s H E).nox (defBody st) t ∧ t { nx := fun _ H' => Q .non H', rt := Q } (start N vs) H) : FnOk P w K mg base (CXR P w) (k + 1) f fd ps sp :=
  F.okR S len fun cdv A outer s H vs Q E hr hsp => let ⟨t, h, q⟩ := hbody cdv A outer s H vs Q E hr hsp; ⟨t, h.nox, q⟩
theorem FunD.binds {x qual : Str} {st : Stmt} {dV : Value} {f : Addr} {fd : FuncData} {ps : List Str} (F : FunD K x qual st dV f fd)
    (h : ∀ (kV doc pm : Value) (an : Option Addr) (cdv ct : Value) (us : List Value), us.length = ps.length → bindArgs (PySem.W.fnOf x qual (defArgs st) (defBody st) (defScope st) dV kV doc pm an cdv ct) ⟨us, []⟩ = pure (ps.zip us)) : Binds K fd ps [] := by
  obtain ⟨oc, od, kV, doc, pm, an, cdv, ct, osl, rfl, lk, hcd⟩ := F.ex
  exact .all (h kV doc pm an cdv ct)
theorem fund_mk {x qual : Str} {st : Stmt} {dV : Value} {f : Addr} {oc : Value} {od an : Option Addr} {osl : Array (Option Value)} {kV doc pm cdv ct : Value} (l : K.lookup f = some ⟨oc, od, .func (PySem.W.fnOf x qual (defArgs st) (defBody st) (defScope st) dV kV doc pm an cdv ct), osl⟩)
    (c : PySem.W.codeIn K cdv qual = true) (k : PySem.W.keepIn K (.ref f) = true) : FunD K x qual st dV f (PySem.W.fnOf x qual (defArgs st) (defBody st) (defScope st) dV kV doc pm an cdv ct) := ⟨⟨oc, od, kV, doc, pm, an, cdv, ct, osl, rfl, l, c⟩, k⟩
end
end L2

namespace L2
open PySem PySem.Spec PyProof.Rows

/-! ### raise C(text), C an own class under ValueError -/
abbrev vErr : List Value := [.type "ValueError", .type "Exception", .type "BaseException", .type "object"]
def IsExc (K : PySem.W.Frag) (C : Addr) : Prop := PySem.W.excIn K C vErr "ValueError.__new__" = true
theorem exc_obj {K : PySem.W.Frag} {h : Heap} {C : Addr} (X : K.In h) (q : IsExc K C) :
    ∃ bm N nm qn bs hdct sn sub ab col dd k0 k1 k2 k3 k5 mN, h.get? C = some (excClassObj nm qn C N bs bm hdct sn sub ab col dd k0 k1 k2 k3 k5 "ValueError.__new__") ∧ h.Ns N mN ∧ mN "__init__" = none ∧ OwnTail h vErr bm := by
  unfold IsExc PySem.W.excIn at q
  split at q
  case h_2 => cases q
  case h_1 dd cd sl lk =>
    split at q
    case h_2 => cases q
    case h_1 C' bm k0 k1 k2 k3 n k5 hm hs =>
      rw [Bool.and_eq_true, Bool.and_eq_true, Bool.and_eq_true, Bool.and_eq_true, Bool.and_eq_true] at q
      obtain ⟨⟨⟨⟨⟨q1, q2⟩, q3⟩, q4⟩, q5⟩, q6⟩ := q
      have r1 : C' = C := beq_iff_eq.mp q1
      have r2 : n = "ValueError.__new__" := beq_iff_eq.mp q2
      have r3 : cd.hasDel = false := by simpa using q3
      subst r1 r2
      cases cd with
      | mk nm bs mro ns qn hd sn sub ab col del =>
        have e1 : mro = .ref C' :: bm := hm
        have e2 : del = false := r3
        subst e1 e2
        have e3 : sl = #[k0, k1, k2, k3, some (.builtin "ValueError.__new__"), k5] := by
          cases sl with
          | mk l =>
            have : l = _ := hs
            rw [this]
        subst e3
        exact ⟨bm, ns, nm, qn, bs, hd, sn, sub, ab, col, dd, k0, k1, k2, k3, k5, _, X _ _ lk, .of_isNs (PySem.W.isNs_of_in X q5), PySem.W.nsMap_none_of_in X q5 (beq_iff_eq.mp q6), PySem.W.tail_of_in X q4⟩

section
variable {X : Cx}
def tRaise (C : Addr) (E : XK) (t : TA) : TS := fun _ σ H => t σ H fun vs H1 => vs.length ≤ sizeLine ∧ E (.ref C) none H1
theorem ps_raise {x : Str} {np cpos pos : Pos} {e₀ : Expr} {rest : List Expr} {t : TA} {C : Addr} {E : XK} (fl : Flies X E) (hc : X.calm = true) (hg : Gl X x) (hm : X.mg x = some (.ref C)) (q : IsExc X.K C) (ha : PA X (e₀ :: rest) t)
    (he : starEach (e₀ :: rest) X.env = (false, eval e₀ X.env) :: starEach rest X.env := by rfl) (hpl : (backTo cpos (starEach rest X.env)).any (·.1) = false := by rfl) (hd : (x == ("__debug__" : Str)) = false := by decide) :
    PS X (.Raise (some (.Call (.Name x np) (e₀ :: rest) [] cpos)) none pos) (tRaise C E t) := by
  intro pins s σ H D I h
  obtain ⟨bm, N, nm, qn, bs, hdct, sn, sub, ab, col, dd, k0, k1, k2, k3, k5, mN, hC, hN, hni, TL⟩ := exc_obj I.ok.mod.kin q
  have hb : (backTo cpos (starEach (e₀ :: rest) X.env)).any (·.1) = false := by
    rw [he]
    show (false || (backTo cpos (starEach rest X.env)).any (·.1)) = false
    rw [hpl]; rfl
  refine wpAny_Raise_call_subT (C := C) (nm := nm) (q := qn) (N := N) (bs := bs) (bm := bm) (hdct := hdct) (sn := sn) (sub := sub) (ab := ab) (col := col) (dd := dd) (k0 := k0) (k1 := k1) (k2 := k2) (k3 := k3) (k5 := k5) (mN := mN)
    PySem.F.excBase_ValueError (TL.hasType PySem.F.excBase_ValueError.hasBase) (I.ok.hd hc) hb hni (ld_glob I hg hm ⟨rfl, ?_⟩ hd)
  have h1 := ha cpos pins s σ H _ I h
  rw [he] at h1 ⊢
  exact Calls.evalArgs_plain (thn h1 fun us s2 ⟨vs, H2, I2, r, z, hE⟩ => ⟨rfl, by rw [← r.length]; exact z, I2.bk _ _ hC, hN.keeps I2.bk, TL.keeps I2.bk, fun h' e hx => fl pins σ H2 s2 e C us h' I2 hx hE⟩)
end

/-! ### calls whose exception is wanted by the names' values -/
def tCallS (sp : Sp) (dvs : List V) (E : St → XK) (t : TA) : TE := fun σ H Q => t σ H fun vs H1 => sp (vs ++ dvs) H1 Q (E σ)
section
variable {X : Cx} {CX : CXT} {k : Nat} {f C : Addr} {fd : FuncData} {ps : List Str} {sp : Sp} {dvs : List V} {ds : List Value} {E : St → XK} {x m : Str} {p pos apos : Pos} {e o : Expr} {es : List Expr} {ta : TE} {t : TA}
theorem run_fnS {pins : List (Addr × Obj)} {σ : St} {H : Hp} {s : Shared} {Q : VK} {us : List Value} {vs : List V} (F : FnOk X.prog X.w X.K X.mg X.base CX k f fd ps sp) (hr : Room k X.A) (hb : Binds X.K fd ps ds) (hd : Vals dvs ds) (hx : PassesS CX X E)
    (I : Inv X pins σ H s) (r : Vals vs us) (h : sp (vs ++ dvs) H Q (E σ)) : wpAny (model X.prog X.w) X.A (call (.ref f) us) (EP X pins σ Q) X.xe s := by
  have r2 : Vals (vs ++ dvs) (us ++ ds) := r.append hd
  have hl : (us ++ ds).length = ps.length := r2.length ▸ F.len _ _ _ _ h
  refine wpAny_call (codeAny_mono (F.run X.A X.stack s H ⟨us, []⟩ (us ++ ds) (vs ++ dvs) Q (E σ) hr I.env0 (hb s us I.kIn hl) r2 h) fun r s' hq => ?_)
  match r, hq with
  | .error e, hq => exact hx pins σ H s e s' I hq
  | .ok (.ret u), hq => exact I.after hq
theorem pe_callS (F : FnOk X.prog X.w X.K X.mg X.base CX k f fd ps sp) (hr : Room k X.A) (hg : Gl X x) (hm : X.mg x = some (.ref f)) (hk : PySem.W.keepIn X.K (.ref f) = true) (hb : Binds X.K fd ps ds) (hd : Vals dvs ds) (hx : PassesS CX X E)
    (ha : PA X (e :: es) t) (hdb : (x == ("__debug__" : Str)) = false := by decide) (he : starEach (e :: es) X.env = (false, eval e X.env) :: starEach es X.env := by rfl) (hpl : (backTo pos (starEach es X.env)).any (·.1) = false := by rfl) :
    PE X (.Call (.Name x p) (e :: es) [] pos) (tCallS sp dvs E t) := by
  intro pins s σ H Q I h
  refine wpAny_Call_Name_kw (ld_glob I hg hm ?_ hdb)
  exact PySem.W.callWith_K (h₀ := X.base) I.ok.mod.kin hk (thn (ha pos pins s σ H _ I h) fun us s1 ⟨vs, H1, I1, r, q⟩ => ⟨I1.kIn, run_fnS F hr hb hd hx I1 r q⟩) he hpl
end
end L2

namespace L2
open PySem PySem.Spec PyProof.Rows

/-! ### the same state, other pins, another wish, an exception at hand -/
section
variable {X : Cx} {pins pins' : List (Addr × Obj)} {σ : St} {H : Hp} {s : Shared} {E : Value → Shared → Prop}
abbrev Cx.tryX (X : Cx) (pn : List (Addr × Obj)) (xe : Value → Shared → Prop) : Cx := { X with pn := pn, xe := xe }
abbrev Cx.held (X : Cx) (e : Addr) : Cx := { X with A := X.A.mark (some (.ref e)), calm := false, xe := fun _ _ => False }
theorem Inv.repin (I : Inv X pins σ H s) (xe : Value → Shared → Prop) : Inv (X.tryX (X.pn ++ pins) xe) [] σ H s :=
  ⟨⟨I.ok.mod, I.ok.kind, I.ok.glob, I.ok.blt, I.ok.above, I.ok.inj, I.ok.has, I.ok.cab, I.ok.hd, I.ok.frames, I.ok.stk, I.ok.exf, I.ok.bs, I.ok.bsz, I.ok.noex, I.ok.exfs, I.ok.funs, I.ok.frf⟩,
    I.os, I.bare, I.base, I.loc, I.cell, I.free, I.freeC, fun p hp => I.pin p (by simpa using hp), I.hok, I.len⟩
theorem Inv.ofpin {xe : Value → Shared → Prop} (ok : X.Ok) (J : Inv (X.tryX (X.pn ++ pins) xe) pins' σ H s) : Inv X pins σ H s :=
  ⟨ok, J.os, J.bare, J.base, J.loc, J.cell, J.free, J.freeC, fun p hp => J.pin p (List.mem_append_left _ hp), J.hok, J.len⟩
theorem Inv.hold (I : Inv X pins σ H s) (e : Addr) : Inv (X.held e) pins σ H s :=
  ⟨⟨I.ok.mod, I.ok.kind, I.ok.glob, I.ok.blt, I.ok.above, I.ok.inj, I.ok.has, I.ok.cab, fun z => (by cases z), I.ok.frames, I.ok.stk, I.ok.exf, I.ok.bs, I.ok.bsz, I.ok.noex, I.ok.exfs, I.ok.funs, I.ok.frf⟩,
    I.os, I.bare, I.base, I.loc, I.cell, I.free, I.freeC, I.pin, I.hok, I.len⟩
theorem Inv.unhold {e : Addr} (ok : X.Ok) (J : Inv (X.held e) pins σ H s) : Inv X pins σ H s :=
  ⟨ok, J.os, J.bare, J.base, J.loc, J.cell, J.free, J.freeC, J.pin, J.hok, J.len⟩
/-- the frame's own map has changed, nothing else -/
theorem Inv.frame {σ' : St} {h' : Heap} {m' : Str → Option Value} {t' : Nat} (I : Inv X pins σ H s) (hs : Heap.SameBut X.env.locals s.heap h') (hn : h'.Ns X.env.locals m') (hl : σ'.length = σ.length)
    (hloc : ∀ (i : Nat) (x : Str) (v : V), X.N[i]? = some x → σ'[i]? = some (some v) → Vis X.env.scope x → ∃ u, RelV v u ∧ Look X.env h' m' x u) : Inv X pins σ' H { s with heap := h', toks := t' } := by
  have neL : ∀ b o, X.s₀.heap.get? b = some o → b ≠ X.env.locals := fun b o e => Nat.ne_of_lt (Nat.lt_of_lt_of_le (Heap.lt_size e) I.ok.above)
  refine ⟨I.ok, I.os, I.bare, ⟨fun b o e n hb hx => (hs.2 b (neL b o e)).trans (I.base.keep b o e n hb hx), fun b o e n hb hx => ?_, I.base.free, fun b o e hx => ?_, I.base.tups, I.base.frzs, I.base.tbls⟩, ⟨m', hn, hloc⟩, fun y c e => ?_, I.free, I.freeC, fun p hp => ?_, fun b o e => ?_, hl.trans I.len⟩
  · obtain ⟨sl, q⟩ := I.base.slot b o e n hb hx
    exact ⟨sl, (hs.2 b (neL b o e)).trans q⟩
  · obtain ⟨o', q⟩ := I.base.there b o e hx
    exact ⟨o', (hs.2 b (neL b o e)).trans q⟩
  · obtain ⟨v, z⟩ := I.cell y c e
    exact ⟨v, z.sameBut hs (I.cne y c e)⟩
  · obtain ⟨e, n, ne, nf, d⟩ := I.pin p hp
    exact ⟨(hs.2 p.1 ne).trans e, n, ne, nf, d⟩
  · refine (I.hok b o e).stay (fun c w' hc q => (hs.2 c ?_).trans q) (fun _ q => q) fun _ _ q => q
    intro z
    rcases hc with hc | hc
    · rw [← hc, z, I.free] at e; cases e
    · rw [z, I.free] at hc; cases hc
/-- «as e» behind the suite: the name goes -/
theorem name_off {n : Str} {i : Nat} {pos : Pos} {M : Model} {A : Around} {Q : Unit → Shared → Prop} (I : Inv X pins σ H s) (hN : X.N.Nodup) (hi : X.N[i]? = some n) (hn : X.env.scope.names.lookup n = some .local)
    (h : ∀ s', Inv X pins (σ.set i none) H s' → Q () s') : wpAny M A (do bindName X.env n .none; unbindBehindTheSuite X.env n pos) Q E s := by
  have hcls : (X.env.scope.kind == .class || (X.env.scope.kind == .module && X.env.locals != X.env.globals)) = false := by rw [I.ok.kind]; rfl
  refine wpAny_bind (wpAny_bindName (store_ok I hN hi (.inl hn) (v := .non) rfl (fun s1 I1 => ?_) (.inr hn)))
  obtain ⟨m, hm, hl⟩ := id I1.loc
  have hiσ : i < σ.length := by rw [I.len]; exact (List.getElem?_eq_some_iff.mp hi).1
  obtain ⟨u, ru, lk⟩ := hl i n .non hi (List.getElem?_set_self hiσ) (.inl hn)
  have hv : m n = some u := by
    rcases lk with ⟨_, e⟩ | ⟨k, _⟩
    · exact e
    · have k' : X.env.scope.names.lookup n = some .cell ∨ X.env.scope.names.lookup n = some .free := k
      rw [hn] at k'
      rcases k' with k' | k' <;> cases k'
  unfold unbindBehindTheSuite
  refine wpAny_onRaise (wpAny_unbindName_local hn hm hv hcls fun h2 w2 hn2 hs2 => ?_)
  refine h _ (I1.frame (t' := s1.toks) hs2 hn2 (by rw [List.length_set, List.length_set]) fun j x v e1 e2 e3 => ?_)
  by_cases hj : j = i
  · subst hj
    rw [List.getElem?_set_self (by simpa using hiσ)] at e2
    cases e2
  · have e2' : (σ.set i (some .non))[j]? = some (some v) := by
      rw [List.getElem?_set_ne (Ne.symm hj)] at e2 ⊢
      exact e2
    obtain ⟨u', r', q⟩ := hl j x v e1 e2' e3
    refine ⟨u', r', ?_⟩
    rcases q with ⟨k, e⟩ | ⟨k, c, e, z⟩
    · refine .inl ⟨k, ?_⟩
      have ne : x ≠ n := fun q => hj (nodup_ix hN e1 (q ▸ hi))
      show (if x = n then w2 else m x) = some u'
      rw [if_neg ne]
      exact e
    · exact .inr ⟨k, c, e, z.sameBut hs2 (I1.cne x c e)⟩
/-- an object that is there and not tracked becomes tracked -/
theorem Inv.track {a : Addr} {o : HO} (I : Inv X pins σ H s) (hn : H a = none) (h0 : X.s₀.heap.get? a = none) (hl : a ≠ X.env.locals) (hc : ∀ x c, X.env.cells.lookup x = some c → c ≠ a) (hp : ∀ p ∈ X.pn ++ pins, p.1 ≠ a)
    (new : ObjOk X.prog X.w (upd H a o) s.heap a o) : Inv X pins σ (upd H a o) s := by
  have nb : ∀ b u, H b = some u → b ≠ a := fun b u e z => by rw [z, hn] at e; cases e
  refine ⟨I.ok, I.os, I.bare, ⟨I.base.keep, I.base.slot, fun b u e n hx => ?_, I.base.there, fun b xs e => ?_, fun b u xs e => ?_, fun b ps e => ?_⟩, I.loc, I.cell, ?_, fun x c e => ?_, fun p hp' => ?_, fun b u e => ?_, I.len⟩
  · rw [upd_ne (fun z => by rw [z, h0] at e; cases e)]
    exact I.base.free b u e n hx
  · have q := I.base.tups b xs e
    rw [upd_ne (nb b _ q)]; exact q
  · have q := I.base.frzs b u xs e
    rw [upd_ne (nb b _ q)]; exact q
  · obtain ⟨m, q⟩ := I.base.tbls b ps e
    exact ⟨m, by rw [upd_ne (nb b _ q)]; exact q⟩
  · rw [upd_ne (Ne.symm hl)]; exact I.free
  · rw [upd_ne (hc x c e)]; exact I.freeC x c e
  · obtain ⟨e, n, r⟩ := I.pin p hp'
    exact ⟨e, by rw [upd_ne (hp p hp')]; exact n, r⟩
  · by_cases hb : b = a
    · subst hb
      rw [upd_same] at e; cases e
      exact new
    · rw [upd_ne hb] at e
      exact (I.hok b u e).stay (fun c v _ q => q) (fun c q => by rw [upd_ne (nb c _ q)]; exact q) fun c xs q => by rw [upd_ne (nb c _ q)]; exact q
end

/-! ### an exception lands in a frame -/
section
variable {X : Cx} {pins : List (Addr × Obj)} {σ : St} {H H' : Hp} {s s' : Shared} {a C : Addr} {a0 : Value} {B h' : Heap}
theorem land (I : Inv X pins σ H s) (os : s'.os = s.os) (bare : AllBare s'.gens) (un : Un (frs X.stack) [] H H' s.heap s'.heap) (hok : HOk X.prog X.w H' s'.heap) (fl : Heap.FlyingW B X.stack a (.ref C) a0 s'.heap) (cv : Covers B H' s s' (frs X.stack))
    (fl' : B.StaysIn h') (ups : s'.heap.UpToSlots h') : Inv X pins σ H' { s' with heap := h' } := by
  have outH : ∀ b u, H' b = some u → b ∉ frs X.stack := fun b u q z => by
    obtain ⟨_, o, q1, _⟩ := I.stack.mem z
    have := un.free b o q1 (I.stkFree b z) (by simp)
    rw [q] at this; cases this
  have keep1 : ∀ b o, s'.heap.get? b = some o → ((∃ o', s.heap.get? b = some o') ∨ H' b ≠ none) → b ∉ frs X.stack → h'.get? b = some o := fun b o q hb nb => fl' b o (cv b o q hb nb)
  have slotF : ∀ b o, s'.heap.get? b = some o → b ∈ frs X.stack → ∃ sl, h'.get? b = some { o with slots := sl } := fun b o q hb => by
    obtain ⟨_, o', q', nf⟩ := fl.2.2.1.mem hb
    rw [q] at q'; cases q'
    exact ups b o q nf
  have hok' : HOk X.prog X.w H' h' := fun b u q => (hok b u q).stay (fun c v hc q' => by
    rcases hc with rfl | hc
    · exact keep1 c v q' (.inr (by rw [q]; simp)) (outH c u q)
    · exact keep1 c v q' (.inr (by rw [hc]; simp)) (outH c _ hc)) (fun _ q => q) fun _ _ q => q
  have un' : Un (frs X.stack) [] H H' s.heap h' := by
    refine ⟨fun b o q n hb _ => keep1 b o (un.keep b o q n hb (by simp)) (.inl ⟨o, q⟩) hb, fun b o q n hb _ => ?_, fun b o q n _ => un.free b o q n (by simp), fun b o q _ => ?_, un.tups, un.frzs, un.tbls⟩
    · obtain ⟨sl, q2⟩ := un.slot b o q n hb (by simp)
      obtain ⟨sl', q3⟩ := slotF b _ q2 hb
      exact ⟨sl', q3⟩
    · obtain ⟨o2, q2⟩ := un.there b o q (by simp)
      by_cases hb : b ∈ frs X.stack
      · obtain ⟨sl, q3⟩ := slotF b o2 q2 hb
        exact ⟨_, q3⟩
      · exact ⟨_, keep1 b o2 q2 (.inl ⟨o, q⟩) hb⟩
  exact I.call' (s' := { s' with heap := h' }) (ch := []) os un' hok' bare fun b z => absurd z (by simp)
end

/-- a caught exception of the class at C -/
def excAt (a C : Addr) : HO := .ext fun h => ∃ o vs, h.get? a = some o ∧ o.cls = .ref C ∧ o.data = .fields vs
theorem excAt_ok {P : Program} {w : World} {H : Hp} {h : Heap} {a C : Addr} {o : Obj} {vs : Array Value} (e : h.get? a = some o) (c : o.cls = .ref C) (d : o.data = .fields vs) : ObjOk P w H h a (excAt a C) :=
  ⟨⟨o, vs, e, c, d⟩, ⟨o, e⟩, fun _ _ ⟨o', vs', e', c', d'⟩ k => ⟨o', vs', k o' e', c', d'⟩⟩

/-- try: body, except C as n: suite -/
def tTry (C : Addr) (i : Nat) (tb : (St → Value → Hp → Prop) → TS) (th : TS) : TS := fun D σ H =>
  tb (fun σ' c H' => c = .ref C ∧ ∀ ea, H' ea = none → th { nx := fun σ2 H2 => D.nx (σ2.set i none) H2, rt := D.rt, bk := fun σ2 H2 => D.bk (σ2.set i none) H2, ct := fun σ2 H2 => D.ct (σ2.set i none) H2 } (σ'.set i (some (.ref ea))) (upd H' ea (excAt ea C))) D σ H
section
variable {X : Cx}
theorem ps_try {body suite : List Stmt} {b₀ : Stmt} {x n : Str} {np hpos pos : Pos} {C : Addr} {i : Nat} {tb : (St → Value → Hp → Prop) → TS} {th : TS} (hst : X.stack = X.env :: X.outer) (hfr : X.env.frame = some X.env.locals) (hex : X.ex = [])
    (hN : X.N.Nodup) (hi : X.N[i]? = some n) (hn : X.env.scope.names.lookup n = some .local) (hg : Gl X x) (hm : X.mg x = some (.ref C)) (q : IsExc X.K C)
    (hb : ∀ (R : St → Value → Hp → Prop) (pn : List (Addr × Obj)) (xe : Value → Shared → Prop), PassesS (CXR X.prog X.w) (X.tryX pn xe) (fun σ c _ H' => R σ c H') → PSs (X.tryX pn xe) body (tb R))
    (hs : ∀ ea, PSs (X.held ea) (b₀ :: suite) th) (hd : (x == ("__debug__" : Str)) = false := by decide) :
    PS X (.Try body [.ExceptHandler (some (.Name x np)) (some n) (b₀ :: suite) hpos] [] [] pos) (tTry C i tb th) := by
  intro pins s σ H D I h
  refine wpAny_Try_except ?_
  have run := hb _ (X.pn ++ pins) (fun e s₁ => wpAny (model X.prog X.w) X.A (noteFrame e X.env) (fun _ s₂ => wpAny (model X.prog X.w) X.A (setFlight e none) (fun _ s₃ => wpAny (model X.prog X.w) X.A (handleBy e X.env [.ExceptHandler (some (.Name x np)) (some n) (b₀ :: suite) hpos]) (SP X pins D) X.xe s₃) X.xe s₂) X.xe s₁) ?px [] s σ H D (I.repin _) h
  · refine wpAny_mono run (fun f s1 q1 => ?_) fun _ _ z => z
    cases f with
    | next => obtain ⟨σ1, H1, J1, d1⟩ := q1; exact wpAny_execs_nil ⟨σ1, H1, J1.ofpin I.ok, d1⟩
    | brk => obtain ⟨σ1, H1, J1, d1⟩ := q1; exact ⟨σ1, H1, J1.ofpin I.ok, d1⟩
    | cont => obtain ⟨σ1, H1, J1, d1⟩ := q1; exact ⟨σ1, H1, J1.ofpin I.ok, d1⟩
    | ret v => obtain ⟨v1, σ1, H1, J1, r1, d1⟩ := q1; exact ⟨v1, σ1, H1, J1.ofpin I.ok, r1, d1⟩
  case px =>
    intro pins1 σ1 H1 s1 e s2 J hc
    obtain ⟨a, C', a0, B, H2, rfl, os, bare, un, hok, fl, cv, n1, n2, eC, hh⟩ := hc
    cases eC
    have I1 : Inv X pins σ1 H1 s1 := J.ofpin I.ok
    have hst' : (X.tryX (X.pn ++ pins) (fun e s₁ => wpAny (model X.prog X.w) X.A (noteFrame e X.env) (fun _ s₂ => wpAny (model X.prog X.w) X.A (setFlight e none) (fun _ s₃ => wpAny (model X.prog X.w) X.A (handleBy e X.env [.ExceptHandler (some (.Name x np)) (some n) (b₀ :: suite) hpos]) (SP X pins D) X.xe s₃) X.xe s₂) X.xe s₁)).stack = X.env :: X.outer := hst
    have fl0 : Heap.FlyingW B (X.env :: X.outer) a (.ref C) a0 s2.heap := hst ▸ fl
    show wpAny (model X.prog X.w) X.A (noteFrame (.ref a) X.env) _ _ s2
    refine wpAny_looks_onW (base := B) (L := X.env.locals) (by rw [I.ok.frames, hst]) hfr fl0 fun h4 held4 ups4 => ?_
    refine wpAny_landsW held4 fun h5 fl5 ups5 => ?_
    have I5 : Inv X pins σ1 H2 { s2 with heap := h5 } := land I1 os bare un hok fl cv fl5.1 (ups4.trans ups5)
    have J5 := I5.hold a
    obtain ⟨ob, hob, hobc⟩ := fl5.there
    obtain ⟨bm, N, nm, qn, bs, hdct, sn, sub, ab, col, dd, k0, k1, k2, k3, k5, mN, hC, hN', hni, TL⟩ := exc_obj I5.kIn q
    refine wpAny_handleBy_cons (codeAny_handlers_test (ld_glob (X := X.held a) J5 hg hm ?_ hd)) (by intro z; cases z)
    refine wpAny_excMatches_sub_self hC hob hobc (TL.hasType PySem.F.excBase_ValueError.hasBase) (codeAny_handlers_suite_as ?_)
    refine lands_againW fl5 fun h6 fl6 ups6 => ?_
    have I6 : Inv X pins σ1 H2 { s2 with heap := h6 } := land I1 os bare un hok fl cv fl6.1 ((ups4.trans ups5).trans ups6)
    obtain ⟨oe, vs, he, hec, hed, _⟩ := fl6.first
    have nthere : ∀ b o, s1.heap.get? b = some o → b ≠ a := fun b o e z => by rw [z, n2] at e; cases e
    have I7 : Inv X pins σ1 (upd H2 a (excAt a C)) { s2 with heap := h6 } := by
      refine I6.track n1 ?_ ?_ (fun y c e => ?_) (fun p hp => ?_) (excAt_ok he hec hed)
      · cases hq : X.s₀.heap.get? a with
        | none => rfl
        | some o =>
          obtain ⟨o1, e1⟩ := I1.base.there a o hq (by rw [hex]; simp)
          exact absurd rfl (nthere a o1 e1)
      · obtain ⟨m, ⟨o, _, _, e, _⟩, _⟩ := I1.loc
        exact Ne.symm (nthere _ o e)
      · obtain ⟨v, o, e', _⟩ := I1.cell y c e
        exact nthere c o e'
      · exact nthere p.1 p.2 (I1.pin p hp).1
    have J7 := I7.hold a
    refine store_ok (X := X.held a) J7 hN hi (.inl hn) (v := .ref a) rfl (fun s8 J8 => ?_) (.inr hn)
    refine wpAny_mono (hs a pins s8 _ _ _ J8 (hh a n1)) (fun f s9 q9 => ?_) fun _ _ z => z.elim
    cases f with
    | next =>
      obtain ⟨σ9, H9, J9, d9⟩ := q9
      exact name_off (J9.unhold I.ok) hN hi hn fun s10 I10 => ⟨_, H9, I10, d9⟩
    | brk =>
      obtain ⟨σ9, H9, J9, d9⟩ := q9
      exact name_off (J9.unhold I.ok) hN hi hn fun s10 I10 => ⟨_, H9, I10, d9⟩
    | cont =>
      obtain ⟨σ9, H9, J9, d9⟩ := q9
      exact name_off (J9.unhold I.ok) hN hi hn fun s10 I10 => ⟨_, H9, I10, d9⟩
    | ret v =>
      obtain ⟨v9, σ9, H9, J9, r9, d9⟩ := q9
      exact name_off (J9.unhold I.ok) hN hi hn fun s10 I10 => ⟨v9, _, H9, I10, r9, d9⟩
end
end L2

namespace L2
open PySem PySem.Spec PyProof.Rows PySem.W Builtin Builtin.ObjectAttr Builtin.Getset_descriptor

/-! ### isinstance of a caught exception -/
/-- what of the text an own exception class must have -/
structure ExcCls (K : Frag) (C : Addr) : Prop where
  exc : IsExc K C
  ga : findIn K (.ref C) "__getattribute__" = some (some (.builtin "BaseException.__getattribute__"))
  gt : findIn K (.ref C) "__getattr__" = some none
  cls : findIn K (.ref C) "__class__" = some (some (.builtin "object.__class__"))
  gs : specialIn K (.builtin "object.__class__") "__get__" = some (some (.builtin "getset_descriptor.__get__"))
  tk : takesIn K (.builtin "object.__class__") = some true
  obj : mroIn K C (.type "object") = some true
  bas : mroIn K C (.type "BaseException") = some true
  isc : (clsIn K C).isSome = true
def ExcAt (a C : Addr) (h : Heap) : Prop := ∃ o vs, h.get? a = some o ∧ o.cls = .ref C ∧ o.data = .fields vs
section
variable {prog : Program} {w : World} {A : Around} {E : Value → Shared → Prop} {s : Shared} {K : Frag} {x C : Addr}
theorem ExcAt.type {M : Model} {h : Heap} (I : ExcAt x C h) : Looks M h (typeOf (.ref x)) (.ref C) := by
  obtain ⟨o, vs, e, c, _⟩ := I
  exact c ▸ (Looks.ld e).andThen .now
theorem excAt_find {M : Model} {h : Heap} (T : ExcCls K C) (X : K.In h) : Looks M h (find (.ref x) (.ref C) "__class__") (.bind (.builtin "getset_descriptor.__get__") (.builtin "object.__class__")) := by
  have L1 := looks_findIn (M := M) X T.cls
  have L2 : Looks M h (getOf (some (.builtin "object.__class__"))) (some (.builtin "getset_descriptor.__get__")) := looks_specialIn X T.gs
  have L3 := looks_takesIn (M := M) X T.tk
  have L4 : Looks M h (dataDescriptor? (some (.builtin "object.__class__")) (some (.builtin "getset_descriptor.__get__"))) (some (.builtin "getset_descriptor.__get__", .builtin "object.__class__")) := L3.andThen .now
  exact L1.andThen (L2.andThen (L4.andThen (Looks.tag .now)))
theorem excAt_get {tp : Value} {R : Result → Shared → Prop} (T : ExcCls K C) (X : K.In s.heap) (I : ExcAt x C s.heap) (hq : R (.ok (.ret (.ref C))) s) :
    codeAny (model prog w) A (.call (.builtin "getset_descriptor.__get__") ⟨[.builtin "object.__class__", .ref x, tp], []⟩) R s := by
  obtain ⟨h1, h2, h3, h4, h5⟩ := s
  have ty : Looks (model prog w) h1 (typeOf (.ref x)) (.ref C) := I.type
  have su := looks_mroIn (M := model prog w) X T.obj
  refine codeAny_call_builtin KF.slot_gs.plain KF.entry_gs (KF.slot_gs.check _ _ _ _ _ _ _ _ KF.type_class (KF.args_gs _ _ _) ?_)
  unfold Builtin.«getset_descriptor.__get__» descrGet
  rw [dga_obj]
  refine wpAny_bind (wpAny_pure ?_)
  unfold descrGetter descrCheckInstance descrNameAndClass isInstance
  simp only [KF.owner_class]
  repeat lk
  refine ⟨Code.quiet_builtin _ (by decide +kernel), codeAny_builtin KF.entry_class ?_⟩
  unfold Builtin.«object.__class__» shownTypeOf
  repeat lk
  exact hq
theorem excAt_ga {tk : Tok} {R : Result → Shared → Prop} (T : ExcCls K C) (X : K.In s.heap) (I : ExcAt x C s.heap) (hq : R (.ok (.ret (.ref C))) s) :
    codeAny (model prog w) A (.call (.builtin "BaseException.__getattribute__") ⟨[.ref x, .str "__class__" tk], []⟩) R s := by
  have fi := excAt_find (M := model prog w) (x := x) T X
  have ge : ∀ {A' : Around} {R' : Result → Shared → Prop}, R' (.ok (.ret (.ref C))) s → codeAny (model prog w) A' (.call (.builtin "getset_descriptor.__get__") ⟨[.builtin "object.__class__", .ref x, .ref C], []⟩) R' s := fun q => excAt_get T X I q
  obtain ⟨h1, h2, h3, h4, h5⟩ := s
  have ty : Looks (model prog w) h1 (typeOf (.ref x)) (.ref C) := I.type
  have su := looks_mroIn (M := model prog w) X T.bas
  have k1 : builtinKind "BaseException.__getattribute__" = some .slot := by decide +kernel
  have k2 : splitId "BaseException.__getattribute__" = some ("BaseException", "__getattribute__") := by decide +kernel
  have k3 := F.args_bexc_ga (.ref x) (.str "__class__" tk)
  refine codeAny_call_builtin (by decide +kernel) F.entry_bexc_ga ?_
  simp only [checkBuiltinCall, k1, k2]
  refine wpAny_bind ?_
  unfold isInstance
  repeat lk
  refine wpAny_run (ge ?_)
  refine wpAny_pure (wpAny_pure ?_)
  exact hq
/-- x.__class__ of a caught exception -/
theorem excAt_class {Q : Option Value → Shared → Prop} (T : ExcCls K C) (X : K.In s.heap) (I : ExcAt x C s.heap) (hq : Q (some (.ref C)) { s with toks := s.toks + 1 }) : wpAny (model prog w) A (getAttr? (.ref x) "__class__") Q E s := by
  have go : ∀ {A' : Around} {R' : Result → Shared → Prop} {tk : Tok}, R' (.ok (.ret (.ref C))) { s with toks := s.toks + 1 } → codeAny (model prog w) A' (.call (.builtin "BaseException.__getattribute__") ⟨[.ref x, .str "__class__" tk], []⟩) R' { s with toks := s.toks + 1 } :=
    fun q => excAt_ga (s := { s with toks := s.toks + 1 }) T X I q
  obtain ⟨h1, h2, h3, h4, h5⟩ := s
  have ty : Looks (model prog w) h1 (typeOf (.ref x)) (.ref C) := I.type
  have l1 := looks_findIn (M := model prog w) X T.ga
  have l2 := looks_findIn (M := model prog w) X T.gt
  unfold getAttr? getAttrBy? getAttrBy
  refine wpAny_bind (wpAny_mkText (wpAny_bind (wpAny_attempt (wpAny_holding (wpAny_bind (ty.at (wpAny_bind (l1.at ?_))))))))
  show wpAny _ _ (getAttrByItsOwn _ _ _ _ _ _) _ _ _
  unfold getAttrByItsOwn hookBefore
  refine wpAny_bind ?_
  show wpAny _ _ (typeLookup (.ref C) "__getattr__") _ _ _
  refine l2.at ?_
  refine wpAny_bind (wpAny_attempt (wpAny_holding ?_))
  show wpAny _ _ (boundAndCalled _ _ _) _ _ _
  unfold boundAndCalled
  refine wpAny_bind (wpAny_of_eq (PySem.F.excAttr_ValueError.ga.bind (.ref x)) ?_)
  refine wpAny_call (go ?_)
  show wpAny _ _ (handedOut (.ref C)) _ _ _
  exact handed_on rfl (wpAny_pure hq)
theorem kitx_exc (T : ExcCls K C) : KitX K (.ref x) (.ref C) (ExcAt x C) where
  ty := fun _ _ _ I => I.type
  it := fun _ _ X _ => by
    have z := T.isc
    unfold clsIn at z
    split at z
    · rename_i ho
      intro A' Q' E' s' k q
      unfold isType loadHead
      exact wpAny_bind (wpAny_loadPart (k _ _ (X _ _ ho)) (wpAny_pure q))
    · cases z
  ne := fun h tp dd its n sl X htp => by
    refine Bool.eq_false_iff.mpr fun q => ?_
    have e : C = tp := Value.ref.inj (beq_iff_eq.mp q)
    subst e
    have z := T.isc
    unfold clsIn at z
    split at z
    · rename_i ho
      have r := (X _ _ ho).symm.trans htp
      cases r
    · cases z
  ca := fun X I k => excAt_class T X I k
end
section
variable {X : Cx}
/-- isinstance(e, c), e a caught exception of the class at C -/
def rIsiE (K : Frag) : List V → Hp → VK → Prop := fun vs H Q => ∃ a C c cv b, vs = [.ref a, c] ∧ H a = some (excAt a C) ∧ ExcCls K C ∧ clsV c = some cv ∧ kitOne K (.ref C) cv = some b ∧ Q (.bl b) H
theorem call_isiE : CallR X (.builtin "isinstance") (rIsiE X.K) := by
  intro pins s σ H xs us Q I r h
  obtain ⟨a, C, c, cv, b, rfl, ea, T, rc, e, q⟩ := h
  cases r with
  | cons rx r2 =>
    cases r2 with
    | cons rc2 r3 =>
      cases r3
      cases clsV_rel rc rc2
      cases rx
      have at_ : ExcAt a C s.heap := (I.hok a _ ea).1
      exact kia_one (kitx_exc T) I.kIn at_ e (fun z => nomatch z) fun tk => ⟨.bl b, H, I.tok _, rfl, q⟩
end
end L2
namespace L2
open PySem PySem.W
/-! ### isinstance's answers from the text's facts -/
theorem kit_same {K : Frag} {t : Value} : kitOne K t t = some true := by
  unfold kitOne
  rw [if_pos (by simp)]
theorem kit_ty {K : Frag} {t : Value} {T : String} {b : Bool} (ne : (t == .type T) = false) (m : kitMeta T = true) (s : subIn K t (.type T) = some b) : kitOne K t (.type T) = some b := by
  unfold kitOne kitCls
  rw [if_neg (by rw [ne]; decide)]
  show (if kitMeta T = true then subIn K t (.type T) else none) = some b
  rw [if_pos m, s]
theorem kit_ref {K : Frag} {t : Value} {C : Addr} {cd : ClassData} {b : Bool} (ne : (t == .ref C) = false) (c : clsIn K C = some cd) (ty : typeIn K (.ref C) = some (.type "type")) (s : subIn K t (.ref C) = some b) : kitOne K t (.ref C) = some b := by
  unfold kitOne kitCls
  rw [if_neg (by rw [ne]; decide)]
  show (if ((clsIn K C).isSome && typeIn K (.ref C) == some (.type "type")) = true then subIn K t (.ref C) else none) = some b
  rw [c, ty, s]
  exact if_pos (by simp)
end L2

namespace L2
open PySem PySem.Spec PyProof.Rows PySem.W

/-! ### products -/
theorem mulB {i j : Int} (h1 : Big i) (h2 : Big j) : IntMulOk i j := .of_le h1.bits h2.bits (by decide)
theorem mulS {i j : Int} (h1 : Builtin.Int.intBits i ≤ 2 ^ 20) (h2 : Big j) : IntMulOk i j := .of_le h1 h2.bits (by decide)
theorem op_mulA {X : Cx} : OpR X (binaryOp .Mult) (rI IntMulOk fun i j => .int (i * j)) := opI fun _ _ _ _ _ _ _ hc q => mul_int q hc
/-! ### {} -/
def tDNewK : TE := fun _ H Q => ∀ p, H p = none → Q (.ref p) (upd H p (.dK []))
theorem pe_dnewK {X : Cx} {pos : Pos} : PE X (.Dict [] [] pos) tDNewK := fun pins s σ H Q I h => by
  have hb : sysModules < s.heap.objs.size := Nat.lt_trans (by decide) (I.mod.glob.keeps I.bk).lt
  refine wpAny_Dict_empty ⟨.ref s.heap.objs.size, _, I.laid (a := s.heap.objs.size) (o := .dK []) (t' := s.toks) (fun _ _ q => Heap.get?_push_of_some _ q) (Nat.le_refl _) ?_, rfl, h _ (I.hok.fresh (Nat.le_refl _))⟩
  exact ⟨Nat.zero_le _, beq_eq_false_iff_ne.mpr (Ne.symm (Nat.ne_of_lt hb)), [], .nil, Heap.DictOf.new _⟩

/-! ### the script's ints have at most 2 ^ 20 figures -/
theorem weight_mem : ∀ {ns : List Int} {x : Int}, x ∈ ns → WData.weight (.int x) ≤ WData.weightAll (ns.map WData.int)
  | y :: r, x, h => by
    show _ ≤ WData.weight (.int y) + 1 + WData.weightAll (r.map WData.int)
    rcases List.mem_cons.mp h with e | e
    · rw [e]; omega
    · have := weight_mem e
      omega
theorem bits_of_lay {ns : List Int} (h : WData.layableAll [WData.list (ns.map WData.int)] = true) : ∀ x ∈ ns, Builtin.Int.intBits x ≤ 2 ^ 20 := fun x hx => by
  have h1 : (WData.list (ns.map WData.int)).layable = true := List.all_eq_true.mp h _ (List.mem_singleton.mpr rfl)
  unfold WData.layable at h1
  rw [Bool.and_eq_true, Bool.and_eq_true] at h1
  have h2 : WData.weightAll (ns.map WData.int) ≤ 2 ^ 20 := of_decide_eq_true h1.2
  have h3 := Nat.le_trans (weight_mem hx) h2
  simpa only [WData.weight, Builtin.Int.intBits] using h3
theorem attach_bits {l : OpenLaw} {n : Nat} {q : Program} {loose : List Str} {XP : (Str → Option Value) → Heap → Prop} {YP : World → Heap → Prop} {d : DefRec} (hn : l.most = some n) (hdf : d.params.defaults = [])
    (call : ∀ (w : World) (s₀ s₁ : Shared) (mg mb : Str → Option Value) (fa a : Addr) (vs : List Value) (ns : List Int), Ground q loose [] XP w s₀ mg mb s₁.heap → YP w s₁.heap → mg d.name = some (.ref fa) →
      s₁.heap.get? a = some { cls := .type "list", data := .seq vs.toArray } → IntsAre vs ns → ns.length ≤ n → (∀ x ∈ ns, Builtin.Int.intBits x ≤ 2 ^ 20) → s₁.gens = #[] →
      codeAny (model l.prog w) callerA (.call (.ref fa) ⟨[.ref a], []⟩) (fun r s' => r = .ok (.ret (.bool true)) ∧ OldK s₁.heap s'.heap ∧ s'.os = s₁.os ∧ AllBare s'.gens) s₁) :
    WalkO q loose XP YP l.row.toRowW d [] (fun f vs => PySem.call f vs) := by
  intro w s₀ s₁ mg mb G Y fa o pm cd doc dV kV ho hd hcd hD hmg hg args vals as hpre hlay hrd hwl hlo
  obtain ⟨a, vs, ns, rfl, rfl, hobj, hints, hlen⟩ := Att.script_of hn hpre hwl
  refine enter_call (codeAny_mono (call w s₀ s₁ mg mb fa a vs ns G Y hmg hobj hints hlen (bits_of_lay hlay) hg) fun r s' hq => ?_)
  obtain ⟨rfl, h2, h3, h4⟩ := hq
  exact ⟨.inl ⟨.bool true, .bool true, [], rfl, fun _ => rfl, .bool true, Att.post_true l _, fun _ => ⟨List.Pairwise.nil, fun _ hm => (nomatch hm)⟩⟩, h2, h3, h4⟩
/-- walk_of with the figures of the script's ints -/
theorem walk_bits {l : PySem.W.OpenLaw} {n k : Nat} {q : Program} {loose : List Str} {XP : (Str → Option Value) → Heap → Prop} {YP : World → Heap → Prop} {d : DefRec} {K : Params → PySem.W.Frag} {CX : World → CXT} {sp : World → Sp} {x : Str}
    (hn : l.most = some n) (hn2 : n ≤ sizeLine) (hdf : d.params.defaults = []) (hr : Room k callerA) (hY : ∀ (w : World) (h : Heap), YP w h → (K w.params).In h)
    (F : ∀ (w : World) (mg : Str → Option Value) (fa : Addr) (h : Heap), (K w.params).In h → h.Ns mainGlobals mg → mg d.name = some (.ref fa) →
      ∃ fd : FuncData, (∀ (s : Shared) (u : Value), BindsTo s fd ⟨[u], []⟩ [(x, u)]) ∧ ∀ base : Heap, (K w.params).In base → base.Ns mainGlobals mg → FnOk l.prog w (K w.params) mg base (CX w) k fa fd [x] (sp w))
    (hsp : ∀ (w : World) (H : Hp) (a : Addr) (ns : List Int), ns.length ≤ n → (∀ x ∈ ns, Builtin.Int.intBits x ≤ 2 ^ 20) → Only H → SqL (K w.params) H a (ns.map V.int) → sp w [.ref a] H (fun v _ => v = .bl true) fun _ _ _ => False)
    (hCX : ∀ (w : World) (H : Hp) (s : Shared) (e : Value) (s' : Shared), CX w [] H s (fun _ _ _ => False) e s' → False) : PySem.W.WalkO q loose XP YP l.row.toRowW d [] (fun f vs => PySem.call f vs) := by
  refine attach_bits hn hdf fun w s₀ s₁ mg mb fa a vs ns G Y hmg hobj hints hlen hbits hg => ?_
  have KX := hY w _ Y
  obtain ⟨fd, hb, hF⟩ := F w mg fa _ KX G.T.g hmg
  exact law_call KX G.T.g G.T.b G.T.builtins G.T.nolimit hg hobj hints (Nat.le_trans hlen hn2) hr hF hb (fun H hO hS => hsp w H a ns hlen hbits hO hS) fun H e s' => hCX w H s₁ e s'
end L2

namespace L2
open PySem PySem.Spec PyProof.Rows PySem.W
/-- isinstance(e, c) in a handler: the text's facts named apart from the frame -/
theorem call_isiK {X : Cx} {K : Frag} (h : X.K = K) : CallR X (.builtin "isinstance") (rIsiE K) := h ▸ call_isiE
theorem neF {x y : V} (h : x = y) : (!decide (x = y)) = false := by rw [decide_eq_true h]; rfl
theorem eqT {x y : V} (h : x = y) : decide (x = y) = true := decide_eq_true h
/-! ### items, one after another: each is no star -/
def notStar : Expr → Bool
  | .Starred _ _ => false
  | _ => true
theorem starEach_cons {e : Expr} {es : List Expr} {env : Env} (h : notStar e = true) : starEach (e :: es) env = (false, eval e env) :: starEach es env := by
  cases e <;> first | rfl | cases h
theorem pa_consN {X : Cx} {e : Expr} {es : List Expr} {te : TE} {t : TA} (ha : PE X e te) (hr : PA X es t) (h : notStar e = true := by rfl) : PA X (e :: es) (tCons te t) := pa_cons ha hr (starEach_cons h)
end L2

namespace Gh
open PySem L2
def G60 : Int := 1000000000000000000000000000000000000000000000000000000000000
theorem pow60 : (10 : Int) ^ (60 : Int).toNat = G60 := by decide
theorem bt_isinstance : bootBuiltins "isinstance" = some (.builtin "isinstance") := by rfl
theorem bt_len : bootBuiltins "len" = some (.builtin "len") := by rfl
theorem bt_bool : bootBuiltins "bool" = some (.type "bool") := by rfl
theorem bt_int : bootBuiltins "int" = some (.type "int") := by rfl
theorem bt_list : bootBuiltins "list" = some (.type "list") := by rfl
theorem bt_min : bootBuiltins "min" = some (.builtin "min") := by rfl
theorem bt_max : bootBuiltins "max" = some (.builtin "max") := by rfl
theorem bt_ValueError : bootBuiltins "ValueError" = some (.type "ValueError") := by rfl
theorem big_of {i : Int} (h : -(G60 * G60 * G60) ≤ i ∧ i ≤ G60 * G60 * G60) : Big i := by
  have e : G60 * G60 * G60 < 2 ^ 2000 := by decide
  have e2 : (2 : Nat) ^ 2000 = ((2 : Int) ^ 2000).toNat := by decide
  unfold Big
  rw [e2]
  omega
theorem big_g {i : Int} (h : -G60 ≤ i ∧ i ≤ G60) : Big i := by
  have e : G60 ≤ G60 * G60 * G60 := by decide
  exact big_of ⟨by omega, by omega⟩
theorem cdivS {i j : Int} (h : 0 < j) (h2 : j ≤ G60) : CDivB i j := ⟨h, big_g ⟨by have : (0 : Int) ≤ G60 := by decide
                                                                                  omega, h2⟩⟩
theorem blT {Q : VK} {H : Hp} {c : Prop} [Decidable c] (h : c) (k : Q (.bl true) H) : Q (.bl (decide c)) H := by rw [decide_eq_true h]; exact k
theorem G60_pos : 0 < G60 := by decide
/-! ### what stays where nothing tracked is touched -/
theorem Same.fresh {H : Hp} {p : Addr} {o : HO} (h : H p = none) : Same H (upd H p o) := fun b u e => by rw [upd_ne (ne_of_none e h)]; exact e
theorem getD_ints (ns : List Int) (k : Nat) (h : k < ns.length) : (ns.map V.int)[k]? = some (.int (ns.getD k 0)) := by
  rw [List.getElem?_map, List.getElem?_eq_getElem h]
  simp [List.getD, h]
/-! ### comprehensions -/
theorem pow18 : (10 : Int) ^ (18 : Int).toNat = 1000000000000000000 := by decide
theorem pow45 : (10 : Int) ^ (45 : Int).toNat = 1000000000000000000000000000000000000000000000 := by decide
theorem bt_sorted : bootBuiltins "sorted" = some (.builtin "sorted") := by rfl
theorem bt_tuple : bootBuiltins "tuple" = some (.type "tuple") := by rfl
theorem bits_cell {ns : List Int} (h : ∀ x ∈ ns, Builtin.Int.intBits x ≤ 2 ^ 20) (k : Nat) : Builtin.Int.intBits (ns.getD k 0) ≤ 2 ^ 20 := by
  by_cases hk : k < ns.length
  · rw [List.getD_eq_getElem?_getD, List.getElem?_eq_getElem hk]
    exact h _ (List.getElem_mem hk)
  · rw [List.getD_eq_getElem?_getD, List.getElem?_eq_none (by omega)]
    decide
theorem pw_ok (j : Int) (h0 : 0 ≤ j) (h1 : j ≤ 1000000) : CPow 10 j := ⟨h0, h1, by decide⟩
end Gh

namespace Gh
open PySem L2
/-! ### a comprehension that reads names of its def -/
def clOf (cells : List (Str × Addr)) : List (Str × NameKind) → List (Str × Addr) → List (Str × Addr)
  | [], cs => cs
  | (y, k) :: r, cs => if (k == .free) = true then clOf cells r ((y, (cells.lookup y).getD 0) :: cs) else clOf cells r cs
theorem closure_loop {env : Env} : ∀ (ns : List (Str × NameKind)) (cs : List (Str × Addr)), (∀ y ∈ ns, y.2 = .free → ∃ c, env.cells.lookup y.1 = some c) →
    (forIn ns cs fun (x : Str × NameKind) (r : List (Str × Addr)) => if (x.2 == .free) = true then do let c ← cellOf env x.1; pure (ForInStep.yield ((x.1, c) :: r)) else pure (ForInStep.yield r) : Sem _) = pure (clOf env.cells ns cs)
  | [], cs, _ => rfl
  | (y, k) :: r, cs, h => by
    rw [List.forIn_cons]
    unfold clOf
    by_cases z : (k == .free) = true
    · obtain ⟨c, e⟩ := h (y, k) List.mem_cons_self (by simpa using z)
      have e' : cellOf env y = pure c := by unfold cellOf; rw [e]
      rw [if_pos z]
      simp only [z, if_true]
      rw [e', e]
      simp only [pure_bind]
      exact closure_loop r _ fun y hy => h y (List.mem_cons_of_mem _ hy)
    · rw [if_neg z]
      simp only [z, if_false, Bool.false_eq_true, pure_bind]
      exact closure_loop r _ fun y hy => h y (List.mem_cons_of_mem _ hy)
theorem closure_of {scope : Scope} {env : Env} (h : ∀ y ∈ scope.names, y.2 = .free → ∃ c, env.cells.lookup y.1 = some c) : closureFor scope env = pure (clOf env.cells scope.names []) := by
  rw [← closure_loop scope.names [] h]
  unfold closureFor
  simp only [bind_pure]
theorem clOf_mem {cells : List (Str × Addr)} {y : Str} {c : Addr} : ∀ {ns : List (Str × NameKind)} {cs : List (Str × Addr)}, (y, c) ∈ clOf cells ns cs → (y, c) ∈ cs ∨ ((y, NameKind.free) ∈ ns ∧ c = (cells.lookup y).getD 0)
  | [], cs, h => .inl h
  | (z, k) :: r, cs, h => by
    unfold clOf at h
    split at h
    · next hk =>
      rcases clOf_mem h with h | h
      · rcases List.mem_cons.mp h with h | h
        · cases h
          have : k = .free := by simpa using hk
          subst this
          exact .inr ⟨List.mem_cons_self, rfl⟩
        · exact .inl h
      · exact .inr ⟨List.mem_cons_of_mem _ h.1, h.2⟩
    · rcases clOf_mem h with h | h
      · exact .inl h
      · exact .inr ⟨List.mem_cons_of_mem _ h.1, h.2⟩
theorem clOf_has {cells : List (Str × Addr)} {y : Str} : ∀ {ns : List (Str × NameKind)} {cs : List (Str × Addr)}, ((y, NameKind.free) ∈ ns ∨ ∃ c, (y, c) ∈ cs) → ∃ c, (y, c) ∈ clOf cells ns cs
  | [], cs, h => by
    rcases h with h | h
    · cases h
    · exact h
  | (z, k) :: r, cs, h => by
    unfold clOf
    split
    · next hk =>
      refine clOf_has ?_
      rcases h with h | ⟨c, h⟩
      · rcases List.mem_cons.mp h with h | h
        · cases h
          exact .inr ⟨_, List.mem_cons_self⟩
        · exact .inl h
      · exact .inr ⟨c, List.mem_cons_of_mem _ h⟩
    · next hk =>
      refine clOf_has ?_
      rcases h with h | h
      · rcases List.mem_cons.mp h with h | h
        · cases h
          exact absurd rfl hk
        · exact .inl h
      · exact .inr h
theorem look_some {α : Type} {y : Str} : ∀ {l : List (Str × α)} {c : α}, (y, c) ∈ l → ∃ d, l.lookup y = some d
  | (z, d) :: r, c, h => by
    by_cases e : (y == z) = true
    · exact ⟨d, by rw [List.lookup_cons, e]⟩
    · have e : (y == z) = false := by simpa using e
      rcases List.mem_cons.mp h with h | h
      · cases h; simp at e
      · obtain ⟨d', q⟩ := look_some h
        exact ⟨d', by rw [List.lookup_cons, e]; exact q⟩
theorem clOf_look {cells : List (Str × Addr)} {ns : List (Str × NameKind)} {y : Str} (h : (y, NameKind.free) ∈ ns) (hc : ∃ c, cells.lookup y = some c) : (clOf cells ns []).lookup y = cells.lookup y := by
  obtain ⟨c, hc⟩ := hc
  obtain ⟨d, hd⟩ := clOf_has (cells := cells) (cs := []) (.inl h)
  obtain ⟨e, he⟩ := look_some hd
  rcases clOf_mem (PySem.mem_of_lookup he) with z | z
  · cases z
  · rw [he, z.2, hc]; rfl
theorem relabel_look {scope : Scope} {env : Env} {y : Str} : (relabel scope env).names.lookup y = match scope.names.lookup y with
    | none => none
    | some k => some (if (k == NameKind.free && env.scope.kind == .function && env.kindOf y == some .cell) = true then NameKind.cell else k) := by
  unfold relabel
  show (scope.names.map _).lookup y = _
  induction scope.names with
  | nil => rfl
  | cons p r ih =>
    obtain ⟨z, k⟩ := p
    rw [List.map_cons]
    by_cases e : (y == z) = true
    · have e' : y = z := by simpa using e
      subst e'
      have s1 : ((y, k) :: r).lookup y = some k := by rw [List.lookup_cons]; simp
      rw [s1]
      dsimp only
      split
      · next hk => rw [List.lookup_cons]; simp
      · next hk => rw [List.lookup_cons]; simp
    · have e : (y == z) = false := by simpa using e
      have s1 : ((z, k) :: r).lookup y = r.lookup y := by rw [List.lookup_cons, e]
      rw [s1, ← ih, List.lookup_cons]
      have : (y == (if (k == NameKind.free && env.scope.kind == .function && env.kindOf z == some .cell) = true then (z, NameKind.cell) else (z, k)).1) = false := by
        split <;> exact e
      rw [this]
def compChk (ns names : List (Str × NameKind)) (N : List Str) (x : Str) : Bool :=
  ns.all (fun y => (y.2 == .local && ns.lookup y.1 == some .local) || (y.2 == .free && ns.lookup y.1 == some .free && names.lookup y.1 == some .cell) || (y.2 == .globalImplicit && ns.lookup y.1 == some .globalImplicit)) && ns.lookup x == some .local && decide (x :: N).Nodup && N.all (fun y => !(ns.lookup y == some .local))
theorem compCells {X : Cx} {scope : Scope} {x : Str} {N : List Str} {names : List (Str × NameKind)} {n : Nat} (hX : X.N = N) (hs : X.env.scope.names = names) (hc : X.env.cells = cellsFrom n names []) (hk : scope.kind = .function) (hn : compChk scope.names names N x = true) :
    CompOk X scope (clOf (cellsFrom n names []) scope.names []) x := by
  unfold compChk at hn
  simp only [Bool.and_eq_true, Bool.or_eq_true, List.all_eq_true, beq_iff_eq, decide_eq_true_eq, Bool.not_eq_true'] at hn
  obtain ⟨⟨⟨h1, h2⟩, h3⟩, h4⟩ := hn
  subst hX hs
  have hcell : ∀ y ∈ scope.names, y.2 = .free → ∃ c, X.env.cells.lookup y.1 = some c := fun y hy z => by
    rcases h1 y hy with (h | h) | h
    · rw [h.1] at z; cases z
    · rw [hc]
      have q := PySem.W.cellsFrom_some (x := y.1) X.env.scope.names n [] (.inl h.2)
      cases e : (cellsFrom n X.env.scope.names []).lookup y.1 with
      | none => rw [e] at q; cases q
      | some c => exact ⟨c, rfl⟩
    · rw [h.1] at z; cases z
  have lk : ∀ y k, scope.names.lookup y = some k → k = .local ∨ (k = .free ∧ X.env.scope.names.lookup y = some .cell ∧ (y, NameKind.free) ∈ scope.names) ∨ k = .globalImplicit := fun y k e => by
    have m := PySem.mem_of_lookup e
    rcases h1 _ m with (h | h) | h
    · exact .inl h.1
    · have hk : k = .free := h.1.1
      subst hk
      exact .inr (.inl ⟨rfl, h.2, m⟩)
    · exact .inr (.inr h.1)
  have lkr : ∀ y k, (relabel scope X.env).names.lookup y = some k → (scope.names.lookup y = some .local ∧ k = .local) ∨ (scope.names.lookup y = some .free ∧ X.env.scope.names.lookup y = some .cell ∧ (y, NameKind.free) ∈ scope.names ∧ (k = .cell ∨ k = .free)) ∨ k = .globalImplicit := fun y k e => by
    rw [relabel_look] at e
    cases z : scope.names.lookup y with
    | none => rw [z] at e; cases e
    | some k' =>
      rw [z] at e
      have e := Option.some.inj e
      rcases lk y k' z with q | ⟨q, q2, q3⟩ | q
      · subst q
        exact .inl ⟨rfl, by rw [← e]; rfl⟩
      · subst q
        refine .inr (.inl ⟨rfl, q2, q3, ?_⟩)
        rw [← e]
        split
        · exact .inl rfl
        · exact .inr rfl
      · subst q
        exact .inr (.inr (by rw [← e]; rfl))
  refine ⟨hc ▸ closure_of hcell, fun y hy z => ?_, hk, fun y hy z => ?_, h2, h3, fun y c e => ?_, fun y hy v => ?_, fun y h => ?_, fun y hy v => ?_⟩
  · rcases h1 y hy with (h | h) | h
    · rw [h.1] at z; cases z
    · rw [h.1.1] at z; cases z
    · rw [h.1] at z; cases z
  · rcases h1 y hy with (h | h) | h
    · exact h.2
    · rw [h.1.1] at z; cases z
    · rw [h.1] at z; cases z
  · rcases clOf_mem (PySem.mem_of_lookup e) with z | z
    · cases z
    · obtain ⟨c', hc'⟩ := hcell _ z.1 rfl
      rw [hc'] ; rw [z.2, ← hc, hc']; rfl
  · have nl := h4 y hy
    have : ∃ k, (relabel scope X.env).names.lookup y = some k ∧ k ≠ .globalImplicit := by rcases v with v | v | v <;> exact ⟨_, v, by decide⟩
    obtain ⟨k, e, ng⟩ := this
    rcases lkr y k e with ⟨q, _⟩ | ⟨q, q2, q3, q4⟩ | q
    · rw [q] at nl; simp at nl
    · refine ⟨fun z => ?_, ?_, ?_⟩
      · have z : X.env.scope.names.lookup y = some .local := z
        rw [q2] at z; cases z
      · rcases q4 with q4 | q4
        · exact .inl (q4 ▸ e)
        · exact .inr (q4 ▸ e)
      · rw [hc]
        refine clOf_look q3 ?_
        rw [← hc]
        exact hcell _ q3 rfl
    · exact absurd q ng
  · have : ∃ k, (relabel scope X.env).names.lookup y = some k ∧ k ≠ .local ∧ k ≠ .globalImplicit := by
      rcases h with h | h
      · exact ⟨_, h, by decide, by decide⟩
      · exact ⟨_, h, by decide, by decide⟩
    obtain ⟨k, e, ne, ng⟩ := this
    rcases lkr y k e with ⟨_, q⟩ | ⟨q, q2, q3, q4⟩ | q
    · exact absurd q ne
    · obtain ⟨c, hc'⟩ := hcell _ q3 rfl
      refine ⟨c, ?_⟩
      rw [clOf_look q3 (by rw [← hc]; exact ⟨c, hc'⟩), ← hc, hc']
    · exact absurd q ng
  · have nl := h4 y hy
    have : ∃ k, (relabel scope X.env).names.lookup y = some k ∧ k ≠ .globalImplicit := by rcases v with v | v | v <;> exact ⟨_, v, by decide⟩
    obtain ⟨k, e, ng⟩ := this
    rcases lkr y k e with ⟨q, _⟩ | ⟨q, q2, q3, q4⟩ | q
    · rw [q] at nl; simp at nl
    · exact .inr (.inl q2)
    · exact absurd q ng
end Gh

namespace L2
open PySem PySem.Spec PyProof.Rows PySem.W
/-! ### sum of a list of ints -/
/-! ### f"..": texts and ints, joined -/
def tFmt (te : TE) : TE := fun σ H Q => te σ H fun v H1 => (∃ x : Str, v = .str x ∧ x.length ≤ sizeLine ∧ Q (.str x) H1) ∨ (∃ i : Int, v = .int i ∧ i.natAbs.log2 < 1920 ∧ Q (.str (toString i)) H1)
theorem pe_fmt {X : Cx} {e : Expr} {te : TE} {pos : Pos} (he : PE X e te) : PE X (.FormattedValue e (-1) none pos) (tFmt te) := by
  intro pins s σ H Q I h
  refine PyProof.Rows.FormattedValue_plain (wpAny_mono (he pins s σ H _ I h) (fun u s1 ⟨v, H1, I1, r, q⟩ => ?_) fun _ _ z => z)
  rcases q with ⟨x, rfl, hz, q⟩ | ⟨i, rfl, hz, q⟩
  · obtain ⟨t, rfl⟩ := r
    exact PyProof.Rows.formatField_str (fun t' tk => ⟨.str x, H1, I1.tok _, ⟨_, rfl⟩, q⟩) hz
  · obtain ⟨t, rfl⟩ := r
    exact PyProof.Rows.formatField_int_small hz ⟨.str _, H1, I1.tok _, ⟨_, rfl⟩, q⟩
def TJ := St → Hp → Str → (Str → Hp → Prop) → Prop
def PJ (X : Cx) (es : List Expr) (t : TJ) : Prop := ∀ (pins : List (Addr × Obj)) (s : Shared) (σ : St) (H : Hp) (acc : Str) (Q : Str → Hp → Prop), Inv X pins σ H s → t σ H acc Q →
  Joins (model X.prog X.w) X.A X.xe (evalEach es X.env) acc (fun out s1 => ∃ H1, Inv X pins σ H1 s1 ∧ Q out H1) s
def tJnil : TJ := fun _ H acc Q => Q acc H
def tJcons (te : TE) (t : TJ) : TJ := fun σ H acc Q => te σ H fun v H1 => ∃ y : Str, v = .str y ∧ (acc ++ y).length ≤ sizeLine ∧ t σ H1 (acc ++ y) Q
theorem pj_nil {X : Cx} : PJ X [] tJnil := fun pins s σ H acc Q I h => ⟨H, I, h⟩
theorem pj_cons {X : Cx} {e : Expr} {es : List Expr} {te : TE} {t : TJ} (he : PE X e te) (hr : PJ X es t) : PJ X (e :: es) (tJcons te t) := by
  intro pins s σ H acc Q I h
  show wpAny _ _ (eval e X.env) _ _ s
  refine wpAny_mono (he pins s σ H _ I h) (fun u s1 ⟨v, H1, I1, r, y, e, hz, q⟩ => ?_) fun _ _ z => z
  subst e
  obtain ⟨t, rfl⟩ := r
  exact ⟨y, t, rfl, hz, hr pins s1 σ H1 _ Q I1 q⟩
def tJoin (t : TJ) : TE := fun σ H Q => t σ H Str.empty fun out H1 => out.length ≤ sizeLine ∧ Q (.str out) H1
theorem pe_join {X : Cx} {v₁ v₂ : Expr} {rest : List Expr} {t : TJ} {pos : Pos} (h : PJ X (v₁ :: v₂ :: rest) t) : PE X (.JoinedStr (v₁ :: v₂ :: rest) pos) (tJoin t) := by
  intro pins s σ H Q I hw
  refine wpAny_JoinedStr ?_
  have z := h pins s σ H _ _ I hw
  have mono : ∀ (ps : List (Sem Value)) (acc : Str) (s : Shared) (Q1 Q2 : Str → Shared → Prop), (∀ o s, Q1 o s → Q2 o s) → Joins (model X.prog X.w) X.A X.xe ps acc Q1 s → Joins (model X.prog X.w) X.A X.xe ps acc Q2 s := by
    intro ps
    induction ps with
    | nil => intro acc s Q1 Q2 hm h; exact hm _ _ h
    | cons p r ih =>
      intro acc s Q1 Q2 hm h
      refine wpAny_mono h (fun v s1 ⟨y, t, e, hz, k⟩ => ⟨y, t, e, hz, ih _ _ _ _ hm k⟩) fun _ _ z => z
  refine mono _ _ _ _ _ (fun out s1 ⟨H1, I1, hz, q⟩ => ⟨hz, .str out, H1, I1.tok _, ⟨_, rfl⟩, q⟩) z
end L2

namespace Gh
open PySem L2
theorem div_abs {x n B : Int} (hn : 1 ≤ n) (h1 : -B ≤ x) (h2 : x ≤ B) : -B ≤ x / n ∧ x / n ≤ B := by
  have d := Int.mul_ediv_add_emod x n
  have r0 := Int.emod_nonneg x (by omega : n ≠ 0)
  have r1 := Int.emod_lt_of_pos x (by omega : 0 < n)
  generalize x / n = q at *
  generalize x % n = r at *
  constructor
  · by_cases z : -B ≤ q
    · exact z
    · exfalso
      have e3 : n * (q + 1) ≤ 1 * (q + 1) := Int.mul_le_mul_of_nonpos_right hn (by omega)
      rw [Int.mul_add] at e3
      omega
  · by_cases z : q ≤ B
    · exact z
    · exfalso
      have e3 : 1 * q ≤ n * q := Int.mul_le_mul_of_nonneg_right hn (by omega)
      omega
/-- over a range, each number by a function -/
theorem lc_range {D : Addr} {lo : Int} {n : Nat} {te : TE} {σ : St} {H1 : Hp} {Q : VK} (g : Nat → V) (hz : n ≤ 1000) (hte : ∀ k, k < n → ∀ (H' : Hp) (Q' : VK), Same H1 H' → Q' (g k) H' → te (some (.int (lo + k)) :: σ) H' Q') (hD : H1 D = none)
    (hQ : Q (.ref D) (upd H1 D (.lst ((List.range n).map g)))) :
    LCi (Itr lo n) D tTrue te σ H1 Q := by
  refine ⟨fun i m acc H2 => m = n - i ∧ i ≤ n ∧ acc = (List.range i).map g ∧ H2 = upd H1 D (.lst acc), ⟨n, rfl, Nat.zero_le _, rfl, rfl⟩, ?_⟩
  rintro i m acc H2 ⟨rfl, hi, rfl, rfl⟩
  have sm : ∀ o, Same H1 (upd H1 D o) := fun o => Same.fresh hD
  by_cases hlt : i < n
  · refine .inr ⟨hlt, fun v H3 y => ?_⟩
    obtain ⟨e, y⟩ := y
    subst e y
    unfold tTrue
    simp only [↓reduceIte]
    refine hte i hlt _ _ (sm _) ⟨upd_same, ?_, n - (i + 1), by omega, rfl, hlt, ?_, ?_⟩
    · rw [List.length_map, List.length_range]
      exact small1000 (by omega)
    · rw [List.range_succ, List.map_append]
      rfl
    · rw [upd_upd]
  · have e : i = n := by omega
    subst e
    exact .inl ⟨Nat.le_refl _, hQ⟩
theorem cut_ints (ns : List Int) (a b : Int) (ha : 0 ≤ a) (hb : a ≤ b) : ∃ cs : List Int, cutV (ns.map V.int) (some a) (some b) = cs.map V.int ∧ cs.length ≤ (b - a).toNat ∧ (∀ x ∈ cs, x ∈ ns) := by
  obtain ⟨x, rfl⟩ := Int.eq_ofNat_of_zero_le ha
  obtain ⟨y, rfl⟩ := Int.eq_ofNat_of_zero_le (by omega : 0 ≤ b)
  unfold cutV
  rw [HT.sIx_nat, HT.sIx_nat, ← List.map_drop, ← List.map_take]
  refine ⟨_, rfl, ?_, fun x hx => List.mem_of_mem_drop (List.mem_of_mem_take hx)⟩
  rw [List.length_take]
  omega
end Gh

namespace Gh
open PySem L2
theorem fits_log {i : Int} (h : -(G60 * G60 * G60) ≤ i ∧ i ≤ G60 * G60 * G60) : i.natAbs.log2 < 1920 := by
  by_cases z : i.natAbs = 0
  · rw [z]; decide
  · refine (Nat.log2_lt z).mpr ?_
    have e : G60 * G60 * G60 < 2 ^ 1000 := by decide
    have e2 : (2 : Nat) ^ 1000 = ((2 : Int) ^ 1000).toNat := by decide
    have e3 : (2 : Nat) ^ 1000 ≤ 2 ^ 1920 := Nat.pow_le_pow_right (by decide) (by decide)
    omega
theorem text_len {i : Int} (h : i.natAbs.log2 < 1920) : (Str.ofString (toString i)).length ≤ 1921 := by
  have e := int_text_length_le (k := 1920) (by decide) h
  rw [ofString_length]; omega
theorem str_fits {x : Str} {n : Nat} (h : x.length ≤ n) (hn : n ≤ 100000) : x.length ≤ sizeLine := by rw [sizeLine_eq]; omega
theorem app_len {x y : Str} {n m : Nat} (h1 : x.length ≤ n) (h2 : y.length ≤ m) : (x ++ y).length ≤ n + m := by rw [strLen_append]; omega
end Gh

namespace L2
open PySem PySem.Spec PyProof.Rows PySem.W
theorem PS.nox {X : Cx} {st : Stmt} {t : TS} (h : PS X.nox st t) : PS X st t := fun pins s σ H D I hw =>
  wpAny_mono (h pins s σ H D (I.wish _) hw) (fun _ _ q => q.unwish) fun _ _ z => False.elim z
/-! ### C(e, .., k = v) -/
section
variable {X : Cx} {CX : CXT} {k : Nat} {f C : Addr} {fd : FuncData} {ps ks : List Str} {sp : Sp} {E : XK} {x : Str} {p pos : Pos} {e : Expr} {es : List Expr} {kws : List Keyword} {t tk : TA} {g : List Value → List Value → List Value} {gV : List V → List V → List V}
end
end L2

namespace L2
open PySem PySem.Spec PyProof.Rows PySem.W
section
variable {X : Cx}
end
end L2

namespace L2
open PySem PySem.Spec PyProof.Rows PySem.W
/-! ### a, b, c = a list -/
section
variable {prog : Program} {w : World} {A : Around} {E : Value → Shared → Prop} {s : Shared}
theorem draw_list {it t : Addr} {items : Array Value} (hne : t ≠ it) : ∀ (n i : Nat) (s : Shared) (Q : List Value → Shared → Prop), s.heap.IsListIter it t i → s.heap.IsList t items → i + n ≤ items.size →
    (∀ h', h'.IsListIter it t (i + n) → Heap.SameBut it s.heap h' → Q ((items.toList.drop i).take n) { s with heap := h' }) → wpAny (model prog w) A (draw (.ref it) n) Q E s
  | 0, i, s, Q, hit, _, _, hQ => by
    show wpAny _ _ (pure []) Q E s
    exact wpAny_pure (by simpa using hQ s.heap hit (Heap.SameBut.refl ..))
  | n + 1, i, s, Q, hit, ht, hle, hQ => by
    have hlt : i < items.size := by omega
    show wpAny _ _ (pyNext (.ref it) >>= _) Q E s
    refine wpAny_bind (wpAny_pyNext_list_item hit ht (x := items[i]) (by simp [hlt]) fun h₁ hit₁ hs₁ => ?_)
    have ht₁ : h₁.IsList t items := by
      obtain ⟨o, e, c⟩ := ht
      exact ⟨o, (hs₁.2 t hne).trans e, c⟩
    refine wpAny_bind (wpAny_holding (draw_list hne n (i + 1) _ _ hit₁ ht₁ (by omega) fun h₂ hit₂ hs₂ => wpAny_pure ?_))
    have hd : items.toList.drop i = items[i] :: items.toList.drop (i + 1) := by simp [List.drop_eq_getElem_cons, hlt]
    have := hQ h₂ (by rw [show i + (n + 1) = i + 1 + n by omega]; exact hit₂) (hs₁.trans hs₂)
    rw [hd, List.take_succ_cons] at this
    exact this
theorem unpackItems_list {t : Addr} {items : Array Value} {Q : List Value → Shared → Prop} (hh : A.handled = none) (ht : s.heap.IsList t items)
    (hQ : ∀ h', Heap.ExtBut s.heap.objs.size s.heap h' → Q items.toList { s with heap := h' }) : wpAny (model prog w) A (unpackItems (.ref t) items.size none) Q E s := by
  have hlt : t ≠ s.heap.objs.size := by obtain ⟨o, ho, _⟩ := ht; exact Nat.ne_of_lt (Heap.lt_size ho)
  unfold unpackItems
  refine wpAny_bind ?_
  unfold notIterableAtAll
  refine wpAny_bind (wpAny_specialOf ht.typeIs F.slot_list_iter.lookup ?_)
  refine wpAny_pure ?_
  simp only [Bool.false_eq_true, if_false]
  refine wpAny_bind (wpAny_holding (wpAny_pyIter_list ht ?_))
  have htp : (s.heap.push { cls := .type "list_iterator", data := .fields #[.ref t, rawInt 0] }).IsList t items := by
    obtain ⟨o, e, c⟩ := ht
    exact ⟨o, Heap.get?_push_of_some _ e, c⟩
  refine wpAny_bind (wpAny_holding (draw_list hlt items.size 0 _ _ ⟨_, Heap.get?_push_size _ rfl, rfl, rfl⟩ htp (by omega) fun h₁ hit₁ hs₁ => ?_))
  have hall : List.take items.size (List.drop 0 items.toList) = items.toList := by
    rw [List.drop_zero]; exact List.take_of_length_le (by simp)
  rw [hall]
  rw [if_neg (by simp)]
  have ht₁ : h₁.IsList t items := by
    obtain ⟨o, e, c⟩ := htp
    exact ⟨o, (hs₁.2 t hlt).trans e, c⟩
  refine wpAny_bind (wpAny_holding (wpAny_pyNext_list_end hh hit₁ ht₁ (by simp) fun h₂ he₂ => ?_))
  simp only [Option.isSome_none, Bool.false_eq_true, if_false]
  refine wpAny_pure (hQ h₂ fun b o hb e => he₂ b o hb ((hs₁.2 b hb).trans (Heap.get?_push_of_some _ e)))
end
section
variable {X : Cx}
def gTupL (K : PySem.W.Frag) (n : Nat) (t : TGs) : TG := fun v σ H Q => ∃ a xs, v = .ref a ∧ SqL K H a xs ∧ xs.length = n ∧ t xs σ H Q
theorem pg_tupL {pos : Pos} {es : List Expr} {k : Nat} {t : TGs} {n : Nat} (hc : X.calm = true) (h : PGs X es t)
    (hn : (assignEach es X.env).length = n := by rfl) (hst : (assignEach es X.env).findIdx? (·.1) = none := by rfl) : PG X (.Tuple es k pos) (gTupL X.K n t) := by
  intro pins s σ H v u Q I r hw
  obtain ⟨a, xs, e1, hq, hl, hw⟩ := hw
  subst e1
  cases r
  obtain ⟨its, rv, ht, hz⟩ := I.list hq
  rw [assign_Tuple]
  refine wpAny_bind (wpAny_standAt ?_)
  unfold unpack
  have hsz : (assignEach es X.env).length = its.toArray.size := by simp [hn, ← hl, rv.length]
  rw [hsz, hst]
  refine wpAny_bind (wpAny_holding (unpackItems_list (I.ok.hd hc) ht.isList fun h' hx => ?_))
  have I1 : Inv X pins σ H { s with heap := h' } := I.kept (t' := s.toks) fun b o e => hx b o (Nat.ne_of_lt (Heap.lt_size e)) e
  exact h pins _ σ H xs _ Q I1 (by simpa using rv) hw
end
/-! ### lists, one beside the other -/
/-- the same figure: a number, a truth, None, or two tuples of the same numbers -/
def EqI (K : PySem.W.Frag) (H : Hp) (v w : V) : Prop := (v = w ∧ ((∃ i, v = .int i) ∨ (∃ b, v = .bl b) ∨ v = .non ∨ ∃ a, v = .ref a)) ∨ ∃ (a b : Addr) (ns : List Int), v = .ref a ∧ w = .ref b ∧ SqT K H a (ns.map V.int) ∧ SqT K H b (ns.map V.int)
theorem eqAt_int {A : Around} {s : Shared} {i : Int} {u w : Value} (r1 : RelV (.int i) u) (r2 : RelV (.int i) w) : SeqAt.EqAt A s u w true := by
  obtain ⟨t, rfl⟩ := r1
  obtain ⟨t', rfl⟩ := r2
  have h := (MeetsSeq.EqGives.int i i t t').at A s
  rw [show (i == i) = true by simp] at h
  exact h
theorem eqAt_items {X : Cx} {pins : List (Addr × Obj)} {σ : St} {H : Hp} {s : Shared} {A : Around} {v w : V} {u u' : Value} (I : Inv X pins σ H s) (hu : A.units < cLine) (r1 : RelV v u) (r2 : RelV w u') (h : EqI X.K H v w) : SeqAt.EqAt A s u u' true := by
  rcases h with ⟨rfl, h⟩ | ⟨a, b, ns, rfl, rfl, h1, h2⟩
  · rcases h with ⟨i, rfl⟩ | ⟨k, rfl⟩ | rfl | ⟨a, rfl⟩
    · exact eqAt_int r1 r2
    · cases r1; cases r2; exact SeqAt.EqAt.same _
    · cases r1; cases r2; exact SeqAt.EqAt.same _
    · cases r1; cases r2; exact SeqAt.EqAt.same _
  · cases r1; cases r2
    by_cases e : a = b
    · subst e; exact SeqAt.EqAt.same _
    · refine SeqAt.EqAt.of_refs e ?_
      obtain ⟨i1, v1, t1, z1⟩ := I.tuple h1
      obtain ⟨i2, v2, t2, z2⟩ := I.tuple h2
      have l1 := v1.length
      have l2 := v2.length
      rw [List.length_map] at l1 l2
      have := SeqAt.RcAt.tuples (A := A) (s := s) (items := i1.toArray) (items2 := i2.toArray) (e := fun _ => true) t1 t2 hu (fun j h1 h2 => by
        have g1 : j < ns.length := by simpa [← l1] using h1
        have e1 : (ns.map V.int)[j]? = some (.int ns[j]) := by simp [g1]
        obtain ⟨u1, hu1, ru1⟩ := v1.get e1
        obtain ⟨u2, hu2, ru2⟩ := v2.get e1
        have q1 : i1.toArray[j] = u1 := by
          have := List.getElem?_eq_some_iff.mp hu1
          obtain ⟨_, q⟩ := this
          simpa using q
        have q2 : i2.toArray[j] = u2 := by
          have := List.getElem?_eq_some_iff.mp hu2
          obtain ⟨_, q⟩ := this
          simpa using q
        rw [q1, q2]
        exact eqAt_int ru1 ru2)
      have e2 : (((List.range (min i1.toArray.size i2.toArray.size)).all fun _ => true) && i1.toArray.size == i2.toArray.size) = true := by
        have : i1.length = i2.length := by omega
        simp [this]
      rw [e2] at this
      exact this
def SameL (K : PySem.W.Frag) (H : Hp) (xs ys : List V) : Prop := xs.length = ys.length ∧ ∀ (j : Nat) v w, xs[j]? = some v → ys[j]? = some w → EqI K H v w
def rEqL (K : PySem.W.Frag) : R2 := fun x y H Q => ∃ p q xs ys, x = .ref p ∧ y = .ref q ∧ SqL K H p xs ∧ SqL K H q ys ∧ ((SameL K H xs ys ∧ Q (.bl true) H) ∨ (xs.length ≠ ys.length ∧ Q (.bl false) H))
def rNeL (K : PySem.W.Frag) : R2 := fun x y H Q => ∃ p q xs ys, x = .ref p ∧ y = .ref q ∧ SqL K H p xs ∧ SqL K H q ys ∧ ((SameL K H xs ys ∧ Q (.bl false) H) ∨ (xs.length ≠ ys.length ∧ Q (.bl true) H))
theorem same_items {X : Cx} {pins : List (Addr × Obj)} {σ : St} {H : Hp} {s : Shared} {A : Around} {xs ys : List V} {i1 i2 : List Value} (I : Inv X pins σ H s) (hu : A.units < cLine) (v1 : Vals xs i1) (v2 : Vals ys i2) (h : SameL X.K H xs ys) :
    ∀ j (h1 : j < i1.toArray.size) (h2 : j < i2.toArray.size), SeqAt.EqAt A s i1.toArray[j] i2.toArray[j] true := fun j h1 h2 => by
  have l1 := v1.length
  have l2 := v2.length
  have g1 : j < xs.length := by simpa [← l1] using h1
  have g2 : j < ys.length := by simpa [← l2] using h2
  have e1 : xs[j]? = some xs[j] := by simp [g1]
  have e2 : ys[j]? = some ys[j] := by simp [g2]
  obtain ⟨u1, hu1, ru1⟩ := v1.get e1
  obtain ⟨u2, hu2, ru2⟩ := v2.get e2
  have q1 : i1.toArray[j] = u1 := by
    obtain ⟨_, q⟩ := List.getElem?_eq_some_iff.mp hu1
    simpa using q
  have q2 : i2.toArray[j] = u2 := by
    obtain ⟨_, q⟩ := List.getElem?_eq_some_iff.mp hu2
    simpa using q
  rw [q1, q2]
  exact eqAt_items I hu ru1 ru2 (h.2 j _ _ e1 e2)
theorem op_eqL {X : Cx} (hu : X.A.units + 1 < cLine) : OpR X (compareOp .Eq) (rEqL X.K) := by
  intro pins s σ H x y v u Q I rx ry h
  obtain ⟨p, q, xs, ys, rfl, rfl, h1, h2, h⟩ := h
  cases rx; cases ry
  obtain ⟨i1, v1, p1, z1⟩ := I.list h1
  obtain ⟨i2, v2, p2, z2⟩ := I.list h2
  have l1 := v1.length
  have l2 := v2.length
  rcases h with ⟨hs, k⟩ | ⟨hs, k⟩
  · refine SeqAt.eq_listAt (e := fun _ => true) p1.isList p2.isList (by have := hs.1; simp; omega) (by omega) (same_items I (show X.A.in1.units < cLine by show X.A.units + 1 < cLine; exact hu) v1 v2 hs) ?_
    rw [show ((List.range i1.toArray.size).all fun _ => true) = true by simp]
    exact ⟨.bl true, H, I, rfl, k⟩
  · exact SeqAt.eq_list_lengthsAt p1.isList p2.isList (by simp; omega) (by omega) ⟨.bl false, H, I, rfl, k⟩
theorem op_neL {X : Cx} (hu : X.A.units + 1 < cLine) : OpR X (compareOp .NotEq) (rNeL X.K) := by
  intro pins s σ H x y v u Q I rx ry h
  obtain ⟨p, q, xs, ys, rfl, rfl, h1, h2, h⟩ := h
  cases rx; cases ry
  obtain ⟨i1, v1, p1, z1⟩ := I.list h1
  obtain ⟨i2, v2, p2, z2⟩ := I.list h2
  have l1 := v1.length
  have l2 := v2.length
  rcases h with ⟨hs, k⟩ | ⟨hs, k⟩
  · have := SeqAt.RcNeAt.lists (e := fun _ => true) (A := X.A) p1.isList p2.isList (by have := hs.1; simp; omega) (by omega) (same_items I (show X.A.in1.units < cLine by show X.A.units + 1 < cLine; exact hu) v1 v2 hs)
    refine this X.prog X.w X.xe _ ?_
    rw [show (!(List.range i1.toArray.size).all fun _ => true) = false by simp]
    exact ⟨.bl false, H, I, rfl, k⟩
  · have := SeqAt.RcNeAt.lists_lengths (A := X.A) p1.isList p2.isList (by simp; omega) (by omega)
    exact this X.prog X.w X.xe _ ⟨.bl true, H, I, rfl, k⟩
end L2

namespace Gh
open PySem L2
end Gh

namespace Gh
open PySem L2
end Gh

namespace L2
open PySem PySem.Spec PyProof.Rows
section
variable {X : Cx} {scope : Scope} {cl : List (Str × Addr)} {x : Str}
end
end L2

namespace L2
open PySem PySem.Spec PyProof.Rows
/-! ### for over what may be refused: nothing is raised in the loop itself -/
section
variable {X : Cx}
end
end L2

namespace L2
open PySem PySem.Spec PyProof.Rows
/-! ### the text's facts named apart from the frame (in a try's body) -/
end L2

namespace L2
open PySem PySem.Spec PyProof.Rows PySem.W
/-! ### the sort's questions, answered by numbers all unlike -/
def Hl {α : Type} (lt : Nat → Nat → Bool) (P : Nat → Prop) (Q : α → Prop) : KasT α → Prop
  | .ret a => Q a
  | .ask i j k => P i ∧ P j ∧ Hl lt P Q (k (lt i j))
theorem Hl.wp {α : Type} {cmp : Nat → Nat → (Bool → Shared → Prop) → Shared → Prop} {lt : Nat → Nat → Bool} {P : Nat → Prop} {s : Shared} {Q : α → Prop} {Q' : α → Shared → Prop} (hc : ∀ i j C, P i → P j → C (lt i j) s → cmp i j C s) (hq : ∀ a, Q a → Q' a s) : ∀ (t : KasT α), Hl lt P Q t → t.kasWp cmp Q' s
  | .ret a, h => hq a h
  | .ask i j k, h => hc i j _ h.1 h.2.1 (Hl.wp hc hq (k (lt i j)) h.2.2)
theorem Hl.bind {α β : Type} {lt : Nat → Nat → Bool} {P : Nat → Prop} {Q : β → Prop} {R : α → Prop} {f : α → KasT β} (hr : ∀ a, R a → Hl lt P Q (f a)) : ∀ (t : KasT α), Hl lt P R t → Hl lt P Q (t.bind f)
  | .ret a, h => hr a h
  | .ask i j k, h => ⟨h.1, h.2.1, Hl.bind hr (k (lt i j)) h.2.2⟩
section
variable {n : Nat} {key : Nat → Int}
def ltK (key : Nat → Int) (i j : Nat) : Bool := decide (key i < key j)
def ek (key : Nat → Int) (p : Array Nat) (k : Nat) : Int := key (p.getD k 0)
structure Gp (n : Nat) (key : Nat → Int) (p : Array Nat) : Prop where
  size : p.size = n
  pos : 0 < n
  perm : p.Perm (List.range n).toArray
  dist : ∀ i j, i < n → j < n → i ≠ j → ek key p i ≠ ek key p j
theorem Gp.lt {p : Array Nat} (G : Gp n key p) (k : Nat) : p.getD k 0 < n := by
  by_cases h : k < p.size
  · have m : p.getD k 0 ∈ p := by
      have : p.getD k 0 = p[k] := by simp [Array.getD, h]
      rw [this]; exact Array.getElem_mem h
    have := G.perm.mem_iff.mp m
    simpa using this
  · have : p.getD k 0 = 0 := by simp [Array.getD, h]
    rw [this]; exact G.pos
def AscT (key : Nat → Int) (p : Array Nat) (m : Nat) : Prop := ∀ i, 1 ≤ i → i < m → ek key p (i - 1) < ek key p i
theorem AscT.mono {p : Array Nat} {m : Nat} (h : AscT key p m) : ∀ {d i : Nat}, i + d < m → ek key p i ≤ ek key p (i + d)
  | 0, i, _ => Int.le_refl _
  | d + 1, i, hj => by
    have a := AscT.mono h (d := d) (i := i) (by omega)
    have b := h (i + (d + 1)) (by omega) hj
    rw [show i + (d + 1) - 1 = i + d by omega] at b
    omega
theorem AscT.le {p : Array Nat} {m i j : Nat} (h : AscT key p m) (hij : i ≤ j) (hj : j < m) : ek key p i ≤ ek key p j := by
  have := h.mono (d := j - i) (i := i) (by omega)
  rwa [show i + (j - i) = j by omega] at this
theorem asc_ok {p : Array Nat} (G : Gp n key p) : ∀ (f n0 : Nat), 1 ≤ n0 → n0 + f ≤ n →
    Hl (ltK key) (· < n) (fun m => n0 ≤ m ∧ m ≤ n0 + f ∧ (∀ i, n0 ≤ i → i < m → ek key p (i - 1) < ek key p i) ∧ (m < n0 + f → ek key p m < ek key p (m - 1))) (kas_asc p f n0)
  | 0, n0, _, _ => ⟨Nat.le_refl _, Nat.le_refl _, fun i h1 h2 => by omega, fun h => by omega⟩
  | f + 1, n0, h1, h2 => by
    refine ⟨G.lt _, G.lt _, ?_⟩
    show Hl _ _ _ (if ltK key (p.getD n0 0) (p.getD (n0 - 1) 0) = true then .ret n0 else kas_asc p f (n0 + 1))
    by_cases c : ltK key (p.getD n0 0) (p.getD (n0 - 1) 0) = true
    · rw [if_pos c]
      exact ⟨Nat.le_refl _, by omega, fun i a b => by omega, fun _ => of_decide_eq_true c⟩
    · rw [if_neg c]
      have ih := asc_ok G f (n0 + 1) (by omega) (by omega)
      have lt0 : ek key p (n0 - 1) < ek key p n0 := by
        have d := G.dist n0 (n0 - 1) (by omega) (by omega) (by omega)
        have c' : ¬ ek key p n0 < ek key p (n0 - 1) := fun z => c (decide_eq_true z)
        omega
      have mono : ∀ (t : KasT Nat), Hl (ltK key) (· < n) (fun m => n0 + 1 ≤ m ∧ m ≤ n0 + 1 + f ∧ (∀ i, n0 + 1 ≤ i → i < m → ek key p (i - 1) < ek key p i) ∧ (m < n0 + 1 + f → ek key p m < ek key p (m - 1))) t →
          Hl (ltK key) (· < n) (fun m => n0 ≤ m ∧ m ≤ n0 + (f + 1) ∧ (∀ i, n0 ≤ i → i < m → ek key p (i - 1) < ek key p i) ∧ (m < n0 + (f + 1) → ek key p m < ek key p (m - 1))) t := by
        intro t
        induction t with
        | ret a =>
          rintro ⟨a1, a2, a3, a4⟩
          refine ⟨by omega, by omega, fun i b1 b2 => ?_, fun z => a4 (by omega)⟩
          rcases (by omega : i = n0 ∨ n0 + 1 ≤ i) with e | e
          · subst e; exact lt0
          · exact a3 i e b2
        | ask i j k ihk => exact fun h => ⟨h.1, h.2.1, ihk _ h.2.2⟩
      exact mono _ ih
theorem desc_ok {p : Array Nat} (G : Gp n key p) : ∀ (f n0 : Nat), 1 ≤ n0 → n0 + f ≤ n →
    Hl (ltK key) (· < n) (fun r : Array Nat × Nat × Nat => r.1 = p ∧ r.2.2 = 0 ∧ n0 ≤ r.2.1 ∧ r.2.1 ≤ n0 + f ∧ ∀ i, n0 ≤ i → i < r.2.1 → ek key p i < ek key p (i - 1)) (kas_desc f p n0 0)
  | 0, n0, _, _ => ⟨rfl, rfl, Nat.le_refl _, Nat.le_refl _, fun i h1 h2 => absurd h2 (Nat.not_lt.mpr h1)⟩
  | f + 1, n0, h1, h2 => by
    refine ⟨G.lt _, G.lt _, ?_⟩
    show Hl _ _ _ (if ltK key (p.getD n0 0) (p.getD (n0 - 1) 0) = true then (if 0 > 0 then kas_desc f (kas_rev p (n0 - (0 + 1)) n0) (n0 + 1) 0 else kas_desc f p (n0 + 1) 0) else _)
    by_cases c : ltK key (p.getD n0 0) (p.getD (n0 - 1) 0) = true
    · rw [if_pos c, if_neg (by omega)]
      have ih := desc_ok G f (n0 + 1) (by omega) (by omega)
      have lt0 : ek key p n0 < ek key p (n0 - 1) := of_decide_eq_true c
      have mono : ∀ (t : KasT (Array Nat × Nat × Nat)), Hl (ltK key) (· < n) (fun r : Array Nat × Nat × Nat => r.1 = p ∧ r.2.2 = 0 ∧ n0 + 1 ≤ r.2.1 ∧ r.2.1 ≤ n0 + 1 + f ∧ ∀ i, n0 + 1 ≤ i → i < r.2.1 → ek key p i < ek key p (i - 1)) t →
          Hl (ltK key) (· < n) (fun r : Array Nat × Nat × Nat => r.1 = p ∧ r.2.2 = 0 ∧ n0 ≤ r.2.1 ∧ r.2.1 ≤ n0 + (f + 1) ∧ ∀ i, n0 ≤ i → i < r.2.1 → ek key p i < ek key p (i - 1)) t := by
        intro t
        induction t with
        | ret a =>
          rintro ⟨a1, a2, a3, a4, a5⟩
          refine ⟨a1, a2, by omega, by omega, fun i b1 b2 => ?_⟩
          rcases (by omega : i = n0 ∨ n0 + 1 ≤ i) with e | e
          · subst e; exact lt0
          · exact a5 i e b2
        | ask i j k ihk => exact fun h => ⟨h.1, h.2.1, ihk _ h.2.2⟩
      exact mono _ ih
    · rw [if_neg c]
      refine ⟨G.lt _, G.lt _, ?_⟩
      have c2 : ltK key (p.getD (n0 - 1) 0) (p.getD n0 0) = true := by
        have d := G.dist n0 (n0 - 1) (by omega) (by omega) (by omega)
        have c' : ¬ ek key p n0 < ek key p (n0 - 1) := fun z => c (decide_eq_true z)
        exact decide_eq_true (show ek key p (n0 - 1) < ek key p n0 by omega)
      show Hl _ _ _ (if ltK key (p.getD (n0 - 1) 0) (p.getD n0 0) = true then .ret (p, n0, 0) else _)
      rw [if_pos c2]
      exact ⟨rfl, rfl, Nat.le_refl _, Nat.le_add_right _ _, fun i a b => absurd b (Nat.not_lt.mpr a)⟩
theorem getD_opt (p : Array Nat) (k : Nat) : p.getD k 0 = (p[k]?).getD 0 := by
  simp only [Array.getD]
  split
  · next h => simp [h]
  · next h => simp [h]
theorem rev_ek {p : Array Nat} {j : Nat} (hj : j ≤ p.size) (k : Nat) : ek key (kas_rev p 0 j) k = ek key p (if k < j then j - 1 - k else k) := by
  unfold ek
  rw [getD_opt, getD_opt]
  have h := getElem?_mirror (xs := p) (i := 0) (j := j) hj ((j - 0) / 2) (by omega) k
  have e : kas_rev p 0 j = mirror p 0 j ((j - 0) / 2) := rfl
  rw [e, h]
  by_cases c : k < j
  · rw [if_pos c]
    by_cases c2 : (0 ≤ k ∧ k < 0 + (j - 0) / 2) ∨ (j - (j - 0) / 2 ≤ k ∧ k < j)
    · rw [if_pos c2, show 0 + j - 1 - k = j - 1 - k by omega]
    · rw [if_neg c2, show j - 1 - k = k by omega]
  · rw [if_neg c, if_neg (by omega)]
theorem Gp.rev {p : Array Nat} {j : Nat} (G : Gp n key p) (hj : j ≤ n) : Gp n key (kas_rev p 0 j) := by
  have hs := G.size
  refine ⟨by rw [kas_rev_size]; exact hs, G.pos, (mirror_perm _ _ _ _).trans G.perm, fun x y hx hy hne => ?_⟩
  rw [rev_ek (by omega), rev_ek (by omega)]
  refine G.dist _ _ (by split <;> omega) (by split <;> omega) ?_
  split <;> split <;> omega
theorem bub_ek {p : Array Nat} {k l : Nat} (hk : k < p.size) (hl : l ≤ k) (i : Nat) : ek key (bubble p k (k - l)) i = ek key p (if i = l then k else if l < i ∧ i ≤ k then i - 1 else i) := by
  unfold ek
  rw [getD_opt, getD_opt]
  have h := getElem?_bubble (xs := p) (src := k) hk (k - l) (by omega) i
  rw [h, show k - (k - l) = l by omega]
  by_cases c : i = l
  · rw [if_pos c, if_pos c]
  · rw [if_neg c, if_neg c]
    by_cases c2 : l < i ∧ i ≤ k
    · rw [if_pos c2, if_pos c2]
    · rw [if_neg c2, if_neg c2]
theorem Gp.bub {p : Array Nat} {k l : Nat} (G : Gp n key p) (hk : k < n) (hl : l ≤ k) : Gp n key (bubble p k (k - l)) := by
  have hs := G.size
  refine ⟨by rw [bubble_size]; exact hs, G.pos, (bubble_perm _ _ _).trans G.perm, fun x y hx hy hne => ?_⟩
  rw [bub_ek (by omega) hl, bub_ek (by omega) hl]
  refine G.dist _ _ ?_ ?_ ?_
  · split
    · omega
    · split <;> omega
  · split
    · omega
    · split <;> omega
  · split <;> split <;> (try split) <;> (try split) <;> omega
theorem place_ok {p : Array Nat} {k : Nat} (G : Gp n key p) (hk : k < n) (A : AscT key p k) : ∀ (f l r : Nat), l ≤ r → r ≤ k → r - l ≤ f → (∀ i, i < l → ek key p i < ek key p k) → (∀ i, r ≤ i → i < k → ek key p k < ek key p i) →
    Hl (ltK key) (· < n) (fun l' => l' ≤ k ∧ (∀ i, i < l' → ek key p i < ek key p k) ∧ ∀ i, l' ≤ i → i < k → ek key p k < ek key p i) (kas_place p k f l r)
  | 0, l, r, h1, h2, h3, a, b => ⟨by omega, a, fun i x y => b i (by omega) y⟩
  | f + 1, l, r, h1, h2, h3, a, b => by
    show Hl _ _ _ (if l ≥ r then .ret l else _)
    by_cases c : l ≥ r
    · rw [if_pos c]
      exact ⟨by omega, a, fun i x y => b i (by omega) y⟩
    · rw [if_neg c]
      refine ⟨G.lt _, G.lt _, ?_⟩
      show Hl _ _ _ (if ltK key (p.getD k 0) (p.getD ((l + r) / 2) 0) = true then kas_place p k f l ((l + r) / 2) else kas_place p k f ((l + r) / 2 + 1) r)
      have m1 : (l + r) / 2 < r := by omega
      have m0 : l ≤ (l + r) / 2 := by omega
      generalize (l + r) / 2 = m at m1 m0
      by_cases d : ltK key (p.getD k 0) (p.getD m 0) = true
      · rw [if_pos d]
        have d' : ek key p k < ek key p m := of_decide_eq_true d
        exact place_ok G hk A f l m m0 (by omega) (by omega) a fun i x y => by
          have := A.le (i := m) (j := i) x y
          omega
      · rw [if_neg d]
        have d' : ¬ ek key p k < ek key p m := fun z => d (decide_eq_true z)
        have ne := G.dist k m hk (by omega) (by omega)
        exact place_ok G hk A f (m + 1) r (by omega) h2 (by omega) (fun i x => by
          have := A.le (i := i) (j := m) (by omega) (by omega)
          omega) b
theorem bin_ok : ∀ (f : Nat) {p : Array Nat} {k : Nat}, Gp n key p → AscT key p k → k + f = n → Hl (ltK key) (· < n) (fun p' => Gp n key p' ∧ AscT key p' n) (kas_bin f p k)
  | 0, p, k, G, A, h => ⟨G, by rw [← h]; exact A⟩
  | f + 1, p, k, G, A, h => by
    have hk : k < n := by omega
    show Hl _ _ _ ((kas_place p k k 0 k).bind fun l => kas_bin f (bubble p k (k - l)) (k + 1))
    refine Hl.bind (fun l hl => ?_) _ (place_ok G hk A k 0 k (Nat.zero_le _) (Nat.le_refl _) (by omega) (fun i z => by omega) fun i x y => by omega)
    obtain ⟨lk, a, b⟩ := hl
    refine bin_ok f (G.bub hk lk) (fun i i1 i2 => ?_) (by omega)
    have hs := G.size
    rw [bub_ek (by omega) lk, bub_ek (by omega) lk]
    rcases (by omega : i < l ∨ i = l ∨ i = l + 1 ∨ l + 1 < i) with e | e | e | e
    · rw [if_neg (by omega), if_neg (by omega), if_neg (by omega), if_neg (by omega)]
      exact A i i1 (by omega)
    · rw [if_neg (by omega), if_neg (by omega), if_pos e]
      exact a (i - 1) (by omega)
    · rw [if_pos (by omega), if_neg (by omega), if_pos (by omega)]
      exact b (i - 1) (by omega) (by omega)
    · rw [if_neg (by omega), if_pos (by omega), if_neg (by omega), if_pos (by omega)]
      exact A (i - 1) (by omega) (by omega)
theorem tail3_ok {p : Array Nat} {k : Nat} (G : Gp n key p) (h1 : 1 ≤ k) (hk : k ≤ n) (D : ∀ i, 1 ≤ i → i < k → ek key p i < ek key p (i - 1)) : Hl (ltK key) (· < n) (fun r : Nat × Array Nat => 1 ≤ r.1 ∧ r.1 ≤ n ∧ Gp n key r.2 ∧ AscT key r.2 r.1) (kas_tail3 k n p) := by
  have G' := G.rev (j := k) hk
  have hs := G.size
  refine Hl.bind (fun m hm => ?_) _ (asc_ok G' (n - k) k h1 (by omega))
  obtain ⟨m1, m2, m3, _⟩ := hm
  refine ⟨by show 1 ≤ m; omega, by show m ≤ n; omega, G', fun i i1 i2 => ?_⟩
  rcases (by omega : i < k ∨ k ≤ i) with e | e
  · rw [rev_ek (by omega), rev_ek (by omega), if_pos (by omega), if_pos e]
    have := D (k - 1 - (i - 1)) (by omega) (by omega)
    rw [show k - 1 - (i - 1) - 1 = k - 1 - i by omega] at this
    exact this
  · exact m3 i e i2
theorem count_ok {p : Array Nat} (G : Gp n key p) : Hl (ltK key) (· < n) (fun r : Nat × Array Nat => 1 ≤ r.1 ∧ r.1 ≤ n ∧ Gp n key r.2 ∧ AscT key r.2 r.1) (kas_count n p) := by
  have pos := G.pos
  refine Hl.bind (fun m hm => ?_) _ (asc_ok G (n - 1) 1 (Nat.le_refl _) (by omega))
  obtain ⟨m1, m2, m3, m4⟩ := hm
  by_cases c : (m == n) = true
  · rw [if_pos c]
    have c : m = n := by simpa using c
    exact ⟨m1, by show m ≤ n; omega, G, fun i i1 i2 => m3 i i1 i2⟩
  · rw [if_neg c]
    have c : m ≠ n := by simpa using c
    have A : AscT key p m := fun i i1 i2 => m3 i i1 i2
    by_cases c2 : m > 1
    · rw [if_pos c2]
      refine ⟨G.lt _, G.lt _, ?_⟩
      have h0 : ltK key (p.getD 0 0) (p.getD (m - 1) 0) = true := by
        have a := A.le (i := 0) (j := m - 1) (by omega) (by omega)
        have d := G.dist 0 (m - 1) (by omega) (by omega) (by omega)
        exact decide_eq_true (show ek key p 0 < ek key p (m - 1) by omega)
      show Hl _ _ _ (if ltK key (p.getD 0 0) (p.getD (m - 1) 0) = true then .ret (m, p) else _)
      rw [if_pos h0]
      exact ⟨m1, by show m ≤ n; omega, G, A⟩
    · rw [if_neg c2]
      have em : m = 1 := by omega
      subst em
      have lt1 := m4 (by omega)
      refine Hl.bind (fun r hr => ?_) _ (desc_ok G (n - (1 + 1)) (1 + 1) (by omega) (by omega))
      obtain ⟨p', k, q⟩ := r
      obtain ⟨rfl, rfl, k1, k2, k3⟩ := hr
      dsimp only at k1 k2 k3 ⊢
      rw [if_neg (by omega)]
      refine tail3_ok G (by omega) (by omega) fun i i1 i2 => ?_
      rcases (by omega : i = 1 ∨ 2 ≤ i) with e | e
      · subst e; exact lt1
      · exact k3 i e i2
theorem sort_ok (pos : 0 < n) (inj : ∀ i j, i < n → j < n → i ≠ j → key i ≠ key j) : Hl (ltK key) (· < n) (fun p => Gp n key p ∧ AscT key p n) (kas_sort n) := by
  have G : Gp n key (List.toArray (List.range n)) := by
    refine ⟨by simp, pos, Array.Perm.refl _, fun i j hi hj hne => ?_⟩
    have e : ∀ k, k < n → (List.toArray (List.range n)).getD k 0 = k := fun k hk => by simp [Array.getD, hk]
    unfold ek
    rw [e i hi, e j hj]
    exact inj i j hi hj hne
  refine Hl.bind (fun r hr => ?_) _ (count_ok G)
  obtain ⟨m, p⟩ := r
  obtain ⟨m1, m2, G', A⟩ := hr
  dsimp only at m1 m2 G' A ⊢
  by_cases c : m < n
  · rw [if_pos c]
    refine bin_ok _ G' (by rw [show max m 1 = m by omega]; exact A) (by omega)
  · rw [if_neg c]
    exact ⟨G', by rw [show n = m by omega]; exact A⟩
end
end L2

namespace L2
open PySem PySem.Spec PyProof.Rows PySem.W PySem.Calls
/-! ### sorted of a list of pairs whose first numbers are all unlike -/
/-- all that stands in the heap but one object -/
def allBut (h : Heap) (L : Addr) : List (Addr × Obj) := (List.range h.objs.size).filterMap fun b => if b = L then none else (h.get? b).map fun o => (b, o)
theorem allBut_mem {h : Heap} {L b : Addr} {o : Obj} (e : h.get? b = some o) (ne : b ≠ L) : (b, o) ∈ allBut h L := by
  unfold allBut
  rw [List.mem_filterMap]
  exact ⟨b, List.mem_range.mpr (Heap.lt_size e), by rw [if_neg ne, e]; rfl⟩
theorem allBut_news {h : Heap} {L : Addr} {h₀ : Heap} (h0 : ∀ b, h₀.get? b = none) : News h₀ L h (allBut h L) := by
  intro p hp
  unfold allBut at hp
  rw [List.mem_filterMap] at hp
  obtain ⟨b, hb, e⟩ := hp
  split at e
  · cases e
  · next ne =>
    cases q : h.get? b with
    | none => rw [q] at e; cases e
    | some o =>
      rw [q] at e
      cases e
      exact ⟨q, ne, h0 _⟩
def nilHeap : Heap := { objs := #[] }
theorem nil_get (b : Addr) : nilHeap.get? b = none := by simp [nilHeap, Heap.get?]
/-- a new list that a built-in made, all else kept but the frame's own object, whose names are kept -/
theorem Inv.newList {X : Cx} {pins : List (Addr × Obj)} {σ : St} {H : Hp} {s : Shared} {h' : Heap} {D : Addr} {ys : List V} {its : List Value} {c : Nat} {m : Str → Option Value} (I : Inv X pins σ H s) (hm : s.heap.Ns X.env.locals m) (hm' : h'.Ns X.env.locals m)
    (N : News nilHeap X.env.locals h' ((D, listOf its.toArray c) :: allBut s.heap X.env.locals)) (hD : ∀ q ∈ allBut s.heap X.env.locals, q.1 < D) (hv : Vals ys its) (hz : ys.length ≤ sizeLine) :
    H D = none ∧ Inv X pins σ (upd H D (.lst ys)) { s with heap := h' } := by
  have dL : D ≠ X.env.locals := (N _ List.mem_cons_self).2.1
  have kept : ∀ b o, b ≠ X.env.locals → s.heap.get? b = some o → h'.get? b = some o := fun b o ne e => (N _ (List.mem_cons_of_mem _ (allBut_mem e ne))).1
  have sD : s.heap.get? D = none := by
    cases e : s.heap.get? D with
    | none => rfl
    | some o => exact absurd (hD _ (allBut_mem e dL)) (Nat.lt_irrefl _)
  have HD : H D = none := by
    cases e : H D with
    | none => rfl
    | some u =>
      obtain ⟨o, q⟩ := (I.hok D u e).has
      rw [sD] at q; cases q
  have neD : ∀ b o, s.heap.get? b = some o → b ≠ D := fun b o e z => by rw [z, sD] at e; cases e
  have uneD : ∀ b u, H b = some u → b ≠ D := fun b u e z => by rw [z, HD] at e; cases e
  have uneL : ∀ b u, H b = some u → b ≠ X.env.locals := fun b u e z => by rw [z, I.free] at e; cases e
  refine ⟨HD, I.step (g' := s.gens) (d' := s.drawn) (t' := s.toks) (ch := []) (fun b hb => (nomatch hb)) (fun b o n1 _ _ e _ => kept b o n1 e) (fun b o n1 _ _ e _ => ⟨o.slots, kept b o n1 e⟩) (fun b o _ e hn => by rw [upd_ne (neD b o e)]; exact hn)
    (fun b o _ e => ?_) (fun b xs e => by rw [upd_ne (uneD b _ e)]; exact e) (fun b o u e => by rw [upd_ne (uneD b _ e)]; exact e) (fun b ps e => ⟨#[], by rw [upd_ne (uneD b _ e), e]; simp⟩) (fun m2 hm2 => ?_) (fun b u e => ?_) I.bare⟩
  · by_cases z : b = X.env.locals
    · obtain ⟨o', _, _, q, _⟩ := hm'
      exact ⟨o', z ▸ q⟩
    · exact ⟨o, kept b o z e⟩
  · have : m2 = m := by
      funext k
      obtain ⟨o1, es1, ep1, q1, d1, _, f1⟩ := hm
      obtain ⟨o2, es2, ep2, q2, d2, _, f2⟩ := hm2
      rw [q1] at q2; cases q2
      rw [d1] at d2; cases d2
      rw [← f1 k, ← f2 k]
    rw [this]; exact hm'
  · by_cases z : b = D
    · subst z
      rw [upd_same] at e; cases e
      exact ⟨hz, its, c, hv, (N _ List.mem_cons_self).1⟩
    · rw [upd_ne z] at e
      refine (I.hok b u e).stay (fun c v hc q => kept c v ?_ q) (fun c q => by rw [upd_ne (uneD c _ q)]; exact q) fun c xs q => by rw [upd_ne (uneD c _ q)]; exact q
      rcases hc with hc | hc
      · rw [hc]; exact uneL b u e
      · exact uneL c _ hc
end L2

namespace L2
open PySem PySem.Spec PyProof.Rows PySem.W PySem.Calls
section
variable {prog : Program} {w : World} {A : Around} {E : Value → Shared → Prop} {s : Shared} {h₀ : Heap} {L a : Addr} {m : Str → Option Value} {news : List (Addr × Obj)} {v : Value}
theorem one_list_sort {n : Nat} {P : PySem.Fin → Shared → Prop} (F : Fr h₀ L s.heap m) (N : News h₀ L s.heap news) (ho : s.heap.get? a = some (seqObj "list" [v].toArray n)) (haL : a ≠ L) (ha0 : h₀.get? a = none) (hna : ∀ p ∈ news, p.1 ≠ a)
    (h : ∀ h' c, Fr h₀ L h' m → News h₀ L h' ((a, listOf [v].toArray c) :: news) → P (.done (.ret .none)) { s with heap := h' }) :
    wpAny (model prog w) A (Builtin.«list.sort» ⟨[.ref a], []⟩) P E s := by
  have ha : a < s.heap.objs.size := Heap.lt_size ho
  have s1 := Heap.SameBut.update s.heap a (Obj.mapSeq fun _ => (#[] : Array Value))
  obtain ⟨e1, ho1⟩ : ∃ e1, (s.heap.update a (Obj.mapSeq fun _ => (#[] : Array Value))).get? a = some (seqObj "list" #[] e1) := ⟨_, get?_update_seq ho fun _ => #[]⟩
  have F3 : Fr h₀ L (((s.heap.update a (Obj.mapSeq fun _ => (#[] : Array Value))).push (seqObj "tuple" [v].toArray 0)).push (seqObj "list" #[] 0)) m := ((kas_fr F s1 haL ha0).push _).push _
  have N2 : News h₀ L (((s.heap.update a (Obj.mapSeq fun _ => (#[] : Array Value))).push (seqObj "tuple" [v].toArray 0)).push (seqObj "list" #[] 0)) news :=
    (kas_news N s1 hna).grown fun b x e => Heap.get?_push_of_some _ (Heap.get?_push_of_some _ e)
  have na : (((s.heap.update a (Obj.mapSeq fun _ => (#[] : Array Value))).push (seqObj "tuple" [v].toArray 0)).push (seqObj "list" #[] 0)).get? a = some (seqObj "list" #[] e1) := Heap.get?_push_of_some _ (Heap.get?_push_of_some _ ho1)
  rw [list_sort_plain]
  refine wpAny_bind (listItems_at ho rfl ?_)
  refine wpAny_bind (listUpdate_at ho rfl ?_ (by rw [List.size_toArray, sizeLine_eq]; show 1 ≤ 16777216; decide) (Nat.zero_le _))
  refine wpAny_bind (seqEpoch_at ho1 rfl ?_)
  refine wpAny_bind (wpAny_newTuple ?_ (by rw [sizeLine_eq]; show 1 ≤ 16777216; decide))
  refine wpAny_bind (wpAny_newList ?_ (Nat.zero_le _))
  refine wpAny_holding ?_
  show wpAny (model prog w) A _ P E { s with heap := ((s.heap.update a (Obj.mapSeq fun _ => (#[] : Array Value))).push (seqObj "tuple" [v].toArray 0)).push (seqObj "list" #[] 0) }
  dsimp only
  have hn2 : [v].toArray.size < 2 := by simp
  rw [if_pos hn2, if_pos hn2]
  refine wpAny_bind (wpAny_pure ?_)
  refine wpAny_bind (wpAny_pure ?_)
  dsimp only
  generalize hH : ((s.heap.update a (Obj.mapSeq fun _ => (#[] : Array Value))).push (seqObj "tuple" [v].toArray 0)).push (seqObj "list" #[] 0) = H3 at F3 N2 na
  have s2 := Heap.SameBut.update H3 a (Obj.mapSeq fun _ => [v].toArray)
  obtain ⟨c2, hc2⟩ : ∃ c2, (H3.update a (Obj.mapSeq fun _ => [v].toArray)).get? a = some (seqObj "list" [v].toArray c2) := ⟨_, get?_update_seq na fun _ => [v].toArray⟩
  refine wpAny_bind (seqEpoch_at na rfl ?_)
  have hout : (arrOf (SortSt.mk' general' ([v].toArray.zip [v].toArray) #[] 7 none)).map (·.2) = [v].toArray := by
    have e : arrOf (SortSt.mk' general' ([v].toArray.zip [v].toArray) #[] 7 none) = [v].toArray.zip [v].toArray := rfl
    rw [e]
    simp
  have hf : failedOf (SortSt.mk' general' ([v].toArray.zip [v].toArray) #[] 7 none) = none := rfl
  rw [hout]
  refine wpAny_bind (listUpdate_at na rfl ?_ (Nat.zero_le _) (by rw [List.size_toArray, sizeLine_eq]; show 1 ≤ 16777217; decide))
  simp only [bne_self_eq_false, Bool.false_eq_true, if_false]
  refine wpAny_pure (h _ c2 (kas_fr F3 s2 haL ha0) fun p hp => ?_)
  rcases List.mem_cons.mp hp with rfl | hp
  · exact ⟨hc2, haL, ha0⟩
  · exact kas_news N2 s2 hna p hp
end
end L2

namespace Gh
open PySem L2
end Gh

namespace Gh
open PySem L2
theorem atI_of {α : Type} {xs : List α} {i : Int} {v : α} (h0 : 0 ≤ i) (h : xs[i.toNat]? = some v) : atI xs i = some v := by
  have lt := (List.getElem?_eq_some_iff.mp h).1
  unfold atI ixN
  rw [if_pos h0, if_pos (by omega)]
  exact h
theorem atI_end {α : Type} {xs : List α} {v : α} (h : xs[xs.length - 1]? = some v) : atI xs (-1) = some v := by
  have lt := (List.getElem?_eq_some_iff.mp h).1
  unfold atI ixN
  rw [if_neg (by omega), if_pos (by omega)]
  rw [show (-1 + (xs.length : Int)).toNat = xs.length - 1 by omega]
  exact h
end Gh

namespace Gh
open PySem L2
/-! ### an expression that keeps off a name not yet set (a comprehension's own name is the def's, too) -/
end Gh

namespace L2
open PySem PySem.Spec PyProof.Rows
/-! ### lists of pairs as tables -/
section
variable {κ : Type} [DecidableEq κ]
def valV (kvs : List (κ × V)) (k : κ) : Option V := (kvs.find? fun kv => decide (kv.1 = k)).map (·.2)
/-- in its place, or at the end -/
def putK (kvs : List (κ × V)) (k : κ) (v : V) : List (κ × V) :=
  if (kvs.any fun kv => decide (kv.1 = k)) = true then kvs.map (fun kv => if kv.1 = k then (kv.1, v) else kv) else kvs ++ [(k, v)]
theorem valV_pos {p : κ × V} {r : List (κ × V)} {k : κ} (e : p.1 = k) : valV (p :: r) k = some p.2 := by simp [valV, List.find?_cons, e]
theorem valV_neg {p : κ × V} {r : List (κ × V)} {k : κ} (e : ¬ p.1 = k) : valV (p :: r) k = valV r k := by simp [valV, List.find?_cons, e]
theorem valV_any (k : κ) : ∀ kvs : List (κ × V), (kvs.any fun kv => decide (kv.1 = k)) = (valV kvs k).isSome
  | [] => rfl
  | p :: r => by
    rw [List.any_cons]
    by_cases e : p.1 = k
    · simp only [valV_pos e, decide_eq_true e, Bool.true_or, Option.isSome_some]
    · rw [valV_neg e, decide_eq_false e, Bool.false_or]; exact valV_any k r
theorem length_putK (kvs : List (κ × V)) (k : κ) (v : V) : (putK kvs k v).length ≤ kvs.length + 1 := by
  unfold putK
  split
  · rw [List.length_map]; omega
  · rw [List.length_append, List.length_cons, List.length_nil]; omega
theorem RelO.isSome_eq {o : Option V} {u : Option Value} (r : RelO o u) : o.isSome = u.isSome := by
  cases o with
  | none => cases u with
    | none => rfl
    | some _ => exact (show False from r).elim
  | some _ => cases u with
    | none => exact (show False from r).elim
    | some _ => rfl
theorem RelO.getD {o : Option V} {u : Option Value} {d : V} {d' : Value} (r : RelO o u) (rd : RelV d d') : RelV (o.getD d) (u.getD d') := by
  cases o with
  | none => cases u with
    | none => exact rd
    | some _ => exact (show False from r).elim
  | some _ => cases u with
    | none => exact (show False from r).elim
    | some _ => exact r

/-- raw tables of the same keys -/
theorem KV.val {kvs : List (κ × V)} {vs : List (κ × Value)} (r : KV kvs vs) (k : κ) : RelO (valV kvs k) (valueAt vs k) := by
  unfold KV at r
  induction r with
  | nil => exact True.intro
  | @cons p q ps qs h t ih =>
    obtain ⟨h1, h2⟩ := h
    by_cases e : p.1 = k
    · have e' : q.1 = k := h1.symm.trans e
      have b : valueAt (q :: qs) k = some q.2 := by simp [valueAt, List.find?_cons, e']
      rw [valV_pos e, b]; exact h2
    · have e' : ¬ q.1 = k := fun z => e (h1.trans z)
      have b : valueAt (q :: qs) k = valueAt qs k := by simp [valueAt, List.find?_cons, e']
      rw [valV_neg e, b]; exact ih
theorem KV.any {kvs : List (κ × V)} {vs : List (κ × Value)} (r : KV kvs vs) (k : κ) : (kvs.any fun kv => decide (kv.1 = k)) = vs.any fun kv => decide (kv.1 = k) := by
  unfold KV at r
  induction r with
  | nil => rfl
  | cons h t ih => rw [List.any_cons, List.any_cons, ih, h.1]
theorem KV.repl {kvs : List (κ × V)} {vs : List (κ × Value)} (r : KV kvs vs) (k : κ) {y : V} {u : Value} (ry : RelV y u) :
    KV (kvs.map fun kv => if kv.1 = k then (kv.1, y) else kv) (vs.map fun kv => if kv.1 = k then (kv.1, u) else kv) := by
  unfold KV at r ⊢
  induction r with
  | nil => exact .nil
  | @cons p q ps qs h t ih =>
    rw [List.map_cons, List.map_cons]
    refine .cons ?_ ih
    obtain ⟨h1, h2⟩ := h
    by_cases e : p.1 = k
    · rw [if_pos e, if_pos (h1.symm.trans e)]; exact ⟨h1, ry⟩
    · rw [if_neg e, if_neg (fun z => e (h1.trans z))]; exact ⟨h1, h2⟩
theorem KV.put {kvs : List (κ × V)} {vs : List (κ × Value)} (r : KV kvs vs) (k : κ) {y : V} {u : Value} (ry : RelV y u) : KV (putK kvs k y) (stored vs k u) := by
  unfold putK stored
  rw [r.any k]
  by_cases e : (vs.any fun kv => decide (kv.1 = k)) = true
  · rw [if_pos e, if_pos e]; exact r.repl k ry
  · rw [if_neg e, if_neg e]; exact Paired.snoc r ⟨rfl, ry⟩
theorem KV.length {kvs : List (κ × V)} {vs : List (κ × Value)} (r : KV kvs vs) : kvs.length = vs.length := Paired.length r
end


/-! ### a tracked dict, its keys ints and texts or tuples of these -/
theorem kV_is {P : Program} {w : World} {k : Key} {u : Value} (r : RelV (kV k) u) : (mixKind P w).is k u = true := by
  cases k with
  | inl i => obtain ⟨t, e⟩ := (show ∃ t, u = Value.int i t from r); subst e; exact mixKind_int P w i t
  | inr x => obtain ⟨t, e⟩ := (show ∃ t, u = Value.str x t from r); subst e; exact mixKind_str P w x t
theorem items_are {P : Program} {w : World} : ∀ {ks : List Key} {us : List Value}, Vals (ks.map kV) us → ItemsAre (mixKind P w) ks us
  | [], _, r => by rw [List.map_nil] at r; cases r; exact .nil
  | k :: ks, _, r => by
    rw [List.map_cons] at r
    cases r with
    | cons h t => exact .cons (kV_is h) (items_are t)

/-- raw entries of a dict with tuple keys -/
abbrev KT (H : Hp) : List (List Key × V) → List (List Key × Addr × Value) → Prop := Paired fun p q => p.1 = q.1 ∧ H q.2.1 = some (.tup (p.1.map kV)) ∧ RelV p.2 q.2.2
theorem KT.val {H : Hp} {kvs : List (List Key × V)} {xs : List (List Key × Addr × Value)} (r : KT H kvs xs) (k : List Key) : RelO (valV kvs k) ((atKey xs k).map (·.2)) := by
  induction r with
  | nil => exact True.intro
  | @cons p q ps qs h t ih =>
    obtain ⟨h1, _, h2⟩ := h
    by_cases e : p.1 = k
    · have e' : q.1 = k := h1.symm.trans e
      have b : atKey (q :: qs) k = some q.2 := by simp [atKey, List.find?_cons, e']
      rw [valV_pos e, b]; exact h2
    · have e' : ¬ q.1 = k := fun z => e (h1.trans z)
      have b : atKey (q :: qs) k = atKey qs k := by simp [atKey, List.find?_cons, e']
      rw [valV_neg e, b]; exact ih
theorem KT.repl {H : Hp} {kvs : List (List Key × V)} {xs : List (List Key × Addr × Value)} (r : KT H kvs xs) (k : List Key) {y : V} {u : Value} (ry : RelV y u) :
    KT H (kvs.map fun kv => if kv.1 = k then (kv.1, y) else kv) (xs.map (putAt k u)) := by
  induction r with
  | nil => exact .nil
  | @cons p q ps qs h t ih =>
    rw [List.map_cons, List.map_cons]
    refine .cons ?_ ih
    obtain ⟨h1, h2, h3⟩ := h
    unfold putAt
    by_cases e : p.1 = k
    · rw [if_pos e, if_pos (h1.symm.trans e)]; exact ⟨h1, h2, ry⟩
    · rw [if_neg e, if_neg (fun z => e (h1.trans z))]; exact ⟨h1, h2, h3⟩
theorem KT.put {H : Hp} {kvs : List (List Key × V)} {xs : List (List Key × Addr × Value)} (r : KT H kvs xs) (k : List Key) {b : Addr} {y : V} {u : Value} (hb : H b = some (.tup (k.map kV))) (ry : RelV y u) :
    KT H (putK kvs k y) (storedH xs k b u) := by
  have e : (kvs.any fun kv => decide (kv.1 = k)) = (atKey xs k).isSome := by
    rw [valV_any, (r.val k).isSome_eq, Option.isSome_map]
  unfold putK storedH
  rw [e]
  by_cases q : (atKey xs k).isSome = true
  · rw [if_pos q, if_pos q]; exact r.repl k ry
  · rw [if_neg q, if_neg q]; exact Paired.snoc r ⟨rfl, hb, ry⟩
theorem KT.keeps {H H' : Hp} {kvs : List (List Key × V)} {xs : List (List Key × Addr × Value)} (r : KT H kvs xs) (ht : ∀ b ys, H b = some (.tup ys) → H' b = some (.tup ys)) : KT H' kvs xs :=
  Paired.mapP r fun _ _ z => ⟨z.1, ht _ _ z.2.1, z.2.2⟩

section
variable {P : Program} {w : World} {H : Hp} {h : Heap} {a : Addr}
theorem rd_of {u : HO} (ok : HOk P w H h) (e : Rd H a u) : ObjOk P w H h a u := e.ok ok
theorem dk_rd {kvs : List (Key × V)} (ok : HOk P w H h) (e : Rd H a (.dK kvs)) : kvs.length ≤ sizeLine ∧ (a == sysModules) = false ∧ ∃ vs, KV kvs vs ∧ h.DictOf (mixKind P w) a vs :=
  show ObjOk P w H h a (.dK kvs) from rd_of ok e
theorem dk_of {kvs : List (Key × V)} (ok : HOk P w H h) (e : H a = some (.dK kvs)) : kvs.length ≤ sizeLine ∧ (a == sysModules) = false ∧ ∃ vs, KV kvs vs ∧ h.DictOf (mixKind P w) a vs := dk_rd ok (.inl e)
/-- a tracked tuple of ints and texts is a key -/
theorem key_of {ks : List Key} (ok : HOk P w H h) (e : H a = some (.tup (ks.map kV))) : (tupleKind (mixKind P w)).is h ks a := by
  obtain ⟨_, its, r, o, h1, h2, n, h3⟩ := (show ObjOk P w H h a (.tup (ks.map kV)) from ok a _ e)
  exact ⟨o, its.toArray, n, h1, h2, h3, by simpa using items_are r⟩
theorem dt_rd {kvs : List (List Key × V)} (ok : HOk P w H h) (e : Rd H a (.dT kvs)) : kvs.length ≤ sizeLine ∧ (a == sysModules) = false ∧
    ∃ xs, KT H kvs xs ∧ h.DictOfH (tupleKind (mixKind P w)) a xs := by
  obtain ⟨z, y, xs, r, o, es, ep, h1, h2, h3, h4, h5⟩ := (show ObjOk P w H h a (.dT kvs) from rd_of ok e)
  refine ⟨z, y, xs, r, o, es, ep, h1, h2, h3, h4, fun x hx => ?_, h5⟩
  have all : ∀ {l : List (List Key × V)} {m : List (List Key × Addr × Value)}, KT H l m → ∀ x ∈ m, (tupleKind (mixKind P w)).is h x.1 x.2.1 := by
    intro l m q
    induction q with
    | nil => intro x hx; exact nomatch hx
    | @cons p q ps qs hq t ih =>
      intro x hx
      rcases List.mem_cons.mp hx with e | hx
      · subst e
        exact key_of ok (by rw [← hq.1]; exact hq.2.1)
      · exact ih x hx
  exact all r x hx
theorem dt_of {kvs : List (List Key × V)} (ok : HOk P w H h) (e : H a = some (.dT kvs)) : kvs.length ≤ sizeLine ∧ (a == sysModules) = false ∧
    ∃ xs, KT H kvs xs ∧ h.DictOfH (tupleKind (mixKind P w)) a xs := dt_rd ok (.inl e)
end

/-- what the dict at a holds at the key y -/
def DGet (H : Hp) (a : Addr) (y : V) (r : Option V) : Prop :=
  (∃ kvs k, Rd H a (.dK kvs) ∧ y = kV k ∧ r = valV kvs k) ∨ ∃ kvs k b, Rd H a (.dT kvs) ∧ y = .ref b ∧ H b = some (.tup (k.map kV)) ∧ r = valV kvs k
/-- the heap behind a[y] = v -/
def DPut (H : Hp) (a : Addr) (y v : V) (H' : Hp) : Prop :=
  (∃ kvs k, H a = some (.dK kvs) ∧ y = kV k ∧ kvs.length < sizeLine ∧ H' = upd H a (.dK (putK kvs k v))) ∨
  ∃ kvs k b, H a = some (.dT kvs) ∧ y = .ref b ∧ H b = some (.tup (k.map kV)) ∧ kvs.length < sizeLine ∧ H' = upd H a (.dT (putK kvs k v))
theorem DGet.k {H : Hp} {a : Addr} {kvs : List (Key × V)} {k : Key} (e : H a = some (.dK kvs)) : DGet H a (kV k) (valV kvs k) := .inl ⟨kvs, k, .inl e, rfl, rfl⟩
theorem DPut.k {H : Hp} {a : Addr} {kvs : List (Key × V)} {k : Key} {v : V} (e : H a = some (.dK kvs)) (hl : kvs.length < sizeLine) : DPut H a (kV k) v (upd H a (.dK (putK kvs k v))) := .inl ⟨kvs, k, e, rfl, hl, rfl⟩
section
variable {X : Cx} {pins : List (Addr × Obj)} {σ : St} {H : Hp} {s : Shared} {a : Addr} {y v : V} {u r : Value} {o : Option V} {A : Around} {E : Value → Shared → Prop}

theorem Inv.big (I : Inv X pins σ H s) : sysModules < s.heap.objs.size := by
  have h : mainGlobals < s.heap.objs.size := (I.mod.glob.keeps I.bk).lt
  exact Nat.lt_trans (by decide) h

/-- a dict's object is replaced -/
theorem d_write {h' : Heap} {t' : Nat} {ob : HO} (I : Inv X pins σ H s) (mu : Mut (H a)) (hs : Heap.SameBut a s.heap h') (he : ∃ q, h'.get? a = some q) (new : ObjOk X.prog X.w (upd H a ob) h' a ob) :
    Inv X pins σ (upd H a ob) { s with heap := h', toks := t' } :=
  I.write (x := a) (e := a) mu (.inl rfl) (fun b q hb z => (hs.2 b hb).trans z) he new
theorem dk_new {P : Program} {w : World} {H' : Hp} {h' : Heap} {kvs : List (Key × V)} {vs : List (Key × Value)} (z : kvs.length ≤ sizeLine) (hd : (a == sysModules) = false) (rel : KV kvs vs) (dd : h'.DictOf (mixKind P w) a vs) :
    ObjOk P w H' h' a (.dK kvs) := ⟨z, hd, vs, rel, dd⟩
/-- d[y] = v -/
theorem d_setItem {H' : Hp} {Q : Unit → Shared → Prop} (hu : A.units + 1 < cLine) (I : Inv X pins σ H s) (g : DPut H a y v H') (ry : RelV y u) (rv : RelV v r) (h : ∀ s', Inv X pins σ H' s' → Q () s') :
    wpAny (model X.prog X.w) A (setItem (.ref a) u r) Q E s := by
  rcases g with ⟨kvs, k, e, ey, l, eH⟩ | ⟨kvs, k, b, e, ey, eb, l, eH⟩
  · subst ey eH
    obtain ⟨z, hd, vs, rel, dd⟩ := dk_of I.hok e
    have hz : vs.length ≤ sizeLine := by rw [← rel.length]; exact z
    have hl : (putK kvs k v).length ≤ sizeLine := by have := length_putK kvs k v; omega
    refine wpAny_setItem_pairs (hsz := hz) (kV_is ry) dd fun h' dd' hs => h _ ?_
    have he : ∃ q, h'.get? a = some q := let ⟨q, _, _, hq, _⟩ := dd'; ⟨q, hq⟩
    exact d_write I (by rw [e]; exact True.intro) hs he (dk_new hl hd (rel.put k rv) dd')
  · subst ey eH
    cases (show u = Value.ref b from ry)
    obtain ⟨z, hd, xs, rel, dd⟩ := dt_of I.hok e
    have hz : xs.length ≤ sizeLine := by rw [← Paired.length rel]; exact z
    have hl : (putK kvs k v).length ≤ sizeLine := by have := length_putK kvs k v; omega
    refine wpAny_setItem_heap (hsz := hz) (tupleKind_room_in1 hu) (key_of I.hok eb) dd fun h' dd' hs => h _ ?_
    obtain ⟨q, es, ep, hq, h2, h3, h4, _, h5⟩ := dd'
    refine d_write I (by rw [e]; exact True.intro) hs ⟨q, hq⟩ ⟨hl, hd, _, (rel.put k eb rv).keeps fun c ys ec => ?_, q, es, ep, hq, h2, h3, h4, h5⟩
    rw [upd_ne (ne_of ec e (fun z => nomatch z))]
    exact ec
end

section
variable {X : Cx} {pins : List (Addr × Obj)} {σ : St} {H : Hp} {s : Shared} {a : Addr} {kvs : List (Key × V)} {k : Key} {u : Value} {A : Around} {E : Value → Shared → Prop}
end


/-! ### readings and rules -/
/-- d[y] = v -/
def sDPut (td ty tv : TE) : TS := fun D σ H => tv σ H fun v H1 => td σ H1 fun x H2 => ty σ H2 fun y H3 => ∃ a H4, x = .ref a ∧ DPut H3 a y v H4 ∧ D.nx σ H4
section
variable {X : Cx} {o i e value : Expr} {pos pos' tpos : Pos} {td ty tv : TE}
theorem ps_dput (hu : X.A.units + 1 < cLine) (ho : PE X o td) (hi : PE X i ty) (hv : PE X value tv) (hs : swapsWith value (some (.Subscript o i pos')) pos.line X.env = pure false) :
    PS X (.Assign [.Subscript o i pos'] value pos) (sDPut td ty tv) := by
  intro pins s σ H D I h
  refine wpAny_Assign_Subscript (thn (hv pins s σ H _ I h) fun r s1 ⟨v, H1, I1, rv, q1⟩ => thn (ho pins s1 σ H1 _ I1 q1) fun u s2 ⟨x, H2, I2, rx, q2⟩ => thn (hi pins s2 σ H2 _ I2 q2) fun iv s3 ⟨y, H3, I3, ry, a, H4, ex, g, q3⟩ => ?_) hs
  subst ex
  obtain rfl : u = Value.ref a := rx
  exact d_setItem hu I3 g ry rv fun s4 I4 => ⟨σ, H4, I4, q3⟩
end


/-! ### displays -/
theorem dk_empty {P : Program} {w : World} {H : Hp} (h : Heap) (hb : sysModules < h.objs.size) : ObjOk P w H (h.push { cls := .type "dict", data := .dict #[] }) h.objs.size (.dK []) :=
  ⟨Nat.zero_le _, beq_eq_false_iff_ne.mpr (Ne.symm (Nat.ne_of_lt hb)), [], .nil, Heap.DictOf.new h⟩
section
variable {X : Cx} {pos : Pos}
end

/-- the pairs of a display, from the left -/
def tPairs : List (TE × TE) → St → Hp → (List (V × V) → Hp → Prop) → Prop
  | [], _, H, Q => Q [] H
  | (tk, tv) :: r, σ, H, Q => tk σ H fun x H1 => tv σ H1 fun y H2 => tPairs r σ H2 fun ps H3 => Q ((x, y) :: ps) H3
abbrev VV : List (V × V) → List (Value × Value) → Prop := Paired fun p q => RelV p.1 q.1 ∧ RelV p.2 q.2
def PPs (X : Cx) (pos : Pos) (keys : List (Option Expr)) (values : List Expr) (trs : List (TE × TE)) : Prop :=
  ∀ (pins : List (Addr × Obj)) (s : Shared) (σ : St) (H : Hp) (Q : List (V × V) → Hp → Prop), Inv X pins σ H s → tPairs trs σ H Q →
    wpAny (model X.prog X.w) X.A (evalPairs (pairTrees keys values X.env pos)) (fun vs s' => ∃ ps H', Inv X pins σ H' s' ∧ VV ps vs ∧ Q ps H') X.xe s
theorem pps_nil {X : Cx} {pos : Pos} : PPs X pos [] [] [] := fun pins s σ H Q I h => pairTrees_nil_walk ⟨[], H, I, .nil, h⟩
theorem pps_cons {X : Cx} {pos : Pos} {k v : Expr} {ks : List (Option Expr)} {vs : List Expr} {tk tv : TE} {trs : List (TE × TE)} (hk : PE X k tk) (hv : PE X v tv) (hr : PPs X pos ks vs trs) :
    PPs X pos (some k :: ks) (v :: vs) ((tk, tv) :: trs) := fun pins s σ H Q I h =>
  pairTrees_cons_walk (thn (hk pins s σ H _ I h) fun u s1 ⟨x, H1, I1, rx, q1⟩ => thn (hv pins s1 σ H1 _ I1 q1) fun w2 s2 ⟨y, H2, I2, ry, q2⟩ =>
    thn (hr pins s2 σ H2 _ I2 q2) fun ws s3 ⟨ps, H3, I3, rel, q3⟩ => ⟨(x, y) :: ps, H3, I3, .cons ⟨rx, ry⟩ rel, q3⟩)

def mergeK (kvs more : List (Key × V)) : List (Key × V) := more.foldl (fun acc kv => putK acc kv.1 kv.2) kvs
theorem KV.merge : ∀ {more : List (Key × V)} {rs : List (Key × Value)} {kvs : List (Key × V)} {vs : List (Key × Value)}, KV more rs → KV kvs vs → KV (mergeK kvs more) (merged vs rs) := by
  intro more rs kvs vs r
  unfold KV at r
  induction r generalizing kvs vs with
  | nil => intro q; exact q
  | @cons p q ps qs h t ih =>
    intro r0
    have e : KV (putK kvs p.1 p.2) (stored vs q.1 q.2) := by
      have := r0.put p.1 h.2
      rw [← h.1]; exact this
    exact ih e
theorem length_mergeK : ∀ (more kvs : List (Key × V)), (mergeK kvs more).length ≤ kvs.length + more.length
  | [], kvs => by show kvs.length ≤ kvs.length + 0; omega
  | p :: r, kvs => by
    have h1 := length_mergeK r (putK kvs p.1 p.2)
    have h2 := length_putK kvs p.1 p.2
    show (mergeK (putK kvs p.1 p.2) r).length ≤ _
    rw [List.length_cons]; omega
theorem carries_of {P : Program} {w : World} : ∀ {kvs : List (Key × V)} {ws : List (Value × Value)}, VV (kvs.map fun kv => (kV kv.1, kv.2)) ws → ∃ rs, Carries (mixKind P w) ws rs ∧ KV kvs rs
  | [], _, r => by rw [List.map_nil] at r; cases r; exact ⟨[], True.intro, .nil⟩
  | p :: kvs, _, r => by
    rw [List.map_cons] at r
    cases r with
    | @cons a b as bs h t =>
      obtain ⟨rs, c, q⟩ := carries_of (P := P) (w := w) t
      obtain ⟨b1, b2⟩ := b
      exact ⟨(p.1, b2) :: rs, ⟨kV_is h.1, rfl, c⟩, .cons ⟨rfl, h.2⟩ q⟩
/-- {k: v, ..} with keys ints and texts; the new dict stands empty while the pairs are made -/
def tDisp (trs : List (TE × TE)) : TE := fun σ H Q => ∀ p, H p = none → tPairs trs σ (upd H p (.dK [])) fun ps H2 => H2 p = some (.dK []) ∧ ∃ kvs : List (Key × V), ps = kvs.map (fun kv => (kV kv.1, kv.2)) ∧ kvs.length ≤ 15 ∧ Q (.ref p) (upd H2 p (.dK (mergeK [] kvs)))
theorem pe_disp {X : Cx} {pos : Pos} {keys : List (Option Expr)} {values : List Expr} {trs : List (TE × TE)} (h : PPs X pos keys values trs) (hall : keys.all (·.isSome) = true) (hl : keys.length = values.length) (h0 : keys ≠ [])
    (h15 : keys.length ≤ 15) : PE X (.Dict keys values pos) (tDisp trs) := by
  intro pins s σ H Q I q
  have hn := I.hok.fresh (Nat.le_refl s.heap.objs.size)
  have I1 := I.laid (a := s.heap.objs.size) (o := .dK []) (h' := s.heap.push { cls := .type "dict", data := .dict #[] }) (t' := s.toks) (fun _ _ q => Heap.get?_push_of_some _ q) (Nat.le_refl _) (dk_empty s.heap I.big)
  refine wpAny_Dict_walk (knd := mixKind X.prog X.w) hall hl h0 h15 (thn (h pins _ σ _ _ I1 (q _ hn)) fun ws s2 ⟨ps, H2, I2, rel, e, kvs, ep, lk, q2⟩ => ?_)
  subst ep
  obtain ⟨rs, c, rk⟩ := carries_of (P := X.prog) (w := X.w) rel
  obtain ⟨z, hd, vs0, r0, dd⟩ := dk_of I2.hok e
  cases r0
  refine ⟨rs, c, dd, fun h' dd' hs => ⟨.ref s.heap.objs.size, _, ?_, rfl, q2⟩⟩
  have hz : (mergeK [] kvs).length ≤ sizeLine := by
    have h1 := length_mergeK kvs []
    rw [List.length_nil] at h1
    rw [sizeLine_eq]; omega
  have he : ∃ q, h'.get? s.heap.objs.size = some q := let ⟨q, _, _, hq, _⟩ := dd'; ⟨q, hq⟩
  exact d_write I2 (by rw [e]; exact True.intro) hs he (dk_new hz hd (rk.merge .nil) dd')


/-! ### methods -/
/-- a method call o.m(e) of a built-in, with one argument: what must be seen of the text -/
structure M1 (X : Cx) (o : Expr) (m : Str) (apos : Pos) (e : Expr) (cpos : Pos) : Prop where
  base : attributeBase o m X.env (eval o X.env) = eval o X.env
  few : ((backTo cpos (starEach [e] X.env)).all (fun x => !x.1) && (backToKw cpos (keywordEach [] X.env)).all (fun x => x.1.isSome)
    && decide (([e] : List Expr).length + ([] : List Keyword).length + (if ([] : List Keyword).isEmpty then 0 else 1) < 30)) = true
  line : (apos.endLine == cpos.line) = true
  trees : backTo cpos (starEach [e] X.env) = [(false, eval e X.env)]
structure M2 (X : Cx) (o : Expr) (m : Str) (apos : Pos) (e f : Expr) (cpos : Pos) : Prop where
  base : attributeBase o m X.env (eval o X.env) = eval o X.env
  few : ((backTo cpos (starEach [e, f] X.env)).all (fun x => !x.1) && (backToKw cpos (keywordEach [] X.env)).all (fun x => x.1.isSome)
    && decide (([e, f] : List Expr).length + ([] : List Keyword).length + (if ([] : List Keyword).isEmpty then 0 else 1) < 30)) = true
  line : (apos.endLine == cpos.line) = true
  trees : backTo cpos (starEach [e, f] X.env) = [(false, eval e X.env), (false, eval f X.env)]

/-- a is a dict, whatever its keys -/
def IsD (H : Hp) (a : Addr) : Prop := (∃ kvs, Rd H a (.dK kvs)) ∨ ∃ kvs, Rd H a (.dT kvs)
theorem isD_at {X : Cx} {pins : List (Addr × Obj)} {σ : St} {H : Hp} {s : Shared} {a : Addr} (I : Inv X pins σ H s) (d : IsD H a) :
    s.TypeIs (.ref a) "dict" ∧ (∀ b, Value.ref a = .ref b → ∃ ob, s.heap.get? b = some ob ∧ ob.dict = none) ∧ (a == sysModules) = false := by
  rcases d with ⟨kvs, e⟩ | ⟨kvs, e⟩
  · obtain ⟨_, hd, vs, _, dd⟩ := dk_rd I.hok e
    refine ⟨dd.typeIs, fun b q => ?_, hd⟩
    cases q
    obtain ⟨ob, _, _, h1, h2, _⟩ := dd
    exact ⟨ob, h1, h2.2.1⟩
  · obtain ⟨_, hd, xs, _, dd⟩ := dt_rd I.hok e
    refine ⟨dd.typeIs, fun b q => ?_, hd⟩
    cases q
    obtain ⟨ob, _, _, h1, h2, _⟩ := dd
    exact ⟨ob, h1, h2.2.1⟩

section
variable {X : Cx} {pins : List (Addr × Obj)} {σ : St} {H : Hp} {s : Shared} {a : Addr} {y d : V} {u r : Value} {o : Option V} {A : Around} {E : Value → Shared → Prop}
/-- d.get(y, x) -/
theorem d_get2 {Q : Value → Shared → Prop} (hu : A.units + 1 < cLine) (I : Inv X pins σ H s) (g : DGet H a y o) (ry : RelV y u) (rd : RelV d r) (h : ∀ w' s', Inv X pins σ H s' → RelV (o.getD d) w' → Q w' s') :
    wpAny (model X.prog X.w) A (call (.builtin "dict.get") [.ref a, u, r]) Q E s := by
  rcases g with ⟨kvs, k, e, ey, l⟩ | ⟨kvs, k, b, e, ey, eb, l⟩
  · subst ey
    obtain ⟨z, hd, vs, rel, dd⟩ := dk_rd I.hok e
    refine call_meetsIn PySem.F.slot_dict_get dd.typeIs PySem.F.entry_dict_get (PySem.F.args_dict_get_3 _ _ _) (meets_dict_get_default (mixKind X.prog X.w) a (kV_is ry) hd r) ⟨_, dd.mapOf, h _ _ (I.tok _) ?_⟩
    rw [l]
    exact (rel.val k).getD rd
  · subst ey
    cases (show u = Value.ref b from ry)
    obtain ⟨z, hd, xs, rel, dd⟩ := dt_rd I.hok e
    refine call_meetsIn PySem.F.slot_dict_get dd.typeIs PySem.F.entry_dict_get (PySem.F.args_dict_get_3 _ _ _) (meetsH_dict_get_default (tupleKind (mixKind X.prog X.w)) a b hd r) ⟨tupleKind_room_in1 hu, k, xs, key_of I.hok eb, dd, h _ _ (I.tok _) ?_⟩
    rw [l]
    exact (rel.val k).getD rd
end

def tDGet2 (td ty tx : TE) : TE := fun σ H Q => td σ H fun x H1 => ∃ a, x = .ref a ∧ IsD H1 a ∧ ty σ H1 fun y H2 => tx σ H2 fun z H3 => ∃ o, DGet H3 a y o ∧ Q (o.getD z) H3
section
variable {X : Cx} {o e f : Expr} {apos cpos : Pos} {td ty tx : TE}
theorem pe_dget2 (hu : X.A.units + 1 < cLine) (ho : PE X o td) (he : PE X e ty) (hf : PE X f tx) (m : M2 X o "get" apos e f cpos) : PE X (.Call (.Attribute o "get" apos) [e, f] [] cpos) (tDGet2 td ty tx) := by
  intro pins s σ H Q I h
  refine wpAny_Call_method m.base m.few m.line PySem.F.plainAttrs_dict PySem.F.slot_dict_get PySem.F.type_dict_get (thn (ho pins s σ H _ I h) fun u s1 ⟨x, H1, I1, rx, a, ex, d, q1⟩ => ?_)
  subst ex
  obtain rfl : u = Value.ref a := rx
  obtain ⟨t1, t2, _⟩ := isD_at I1 d
  refine ⟨t1, t2, ?_⟩
  rw [m.trees]
  refine Calls.callWith_builtin rfl (Calls.evalArgs_plain (Calls.spliced_cons (thn (he pins s1 σ H1 _ I1 q1) fun iv s2 ⟨y, H2, I2, ry, q2⟩ =>
    Calls.spliced_cons (thn (hf pins s2 σ H2 _ I2 q2) fun fv s3 ⟨z, H3, I3, rz, ov, g, q3⟩ => Calls.spliced_nil ?_))))
  exact d_get2 hu I3 g ry rz fun w' s4 I4 rw' => ⟨_, H3, I4, rw', q3⟩
end

/-! ### dict(d): a copy -/
section
variable {X : Cx} {pins : List (Addr × Obj)} {σ : St} {H : Hp} {s : Shared} {a : Addr} {kvs : List (Key × V)} {A : Around} {E : Value → Shared → Prop}
end


section
variable {X : Cx} {pins : List (Addr × Obj)} {σ : St} {H : Hp} {s : Shared} {a : Addr} {y : V} {u : Value} {A : Around} {E : Value → Shared → Prop}
end
end L2

namespace L2
open PySem PySem.Spec PyProof.Rows PySem.W PySem.Calls
/-! ### many new objects at once -/
theorem Un.laids {fs ex : List Addr} {H H1 : Hp} {h h' : Heap} (k : ∀ b u, h.get? b = some u → h'.get? b = some u) (hf : ∀ b u, H b = some u → H1 b = some u) (hn : ∀ b o, h.get? b = some o → H b = none → H1 b = none) : Un fs ex H H1 h h' where
  keep := fun b u q _ _ _ => k b u q
  slot := fun b u q _ _ _ => ⟨u.slots, k b u q⟩
  free := fun b u q n _ => hn b u q n
  there := fun b u q _ => ⟨u, k b u q⟩
  tups := fun b xs q => hf _ _ q
  frzs := fun b u xs q => hf _ _ q
  tbls := fun b ps q => ⟨#[], by rw [hf _ _ q]; simp⟩
theorem HOk.laids {P : Program} {w : World} {H H1 : Hp} {h h' : Heap} (x : HOk P w H h) (k : ∀ b u, h.get? b = some u → h'.get? b = some u) (hf : ∀ b u, H b = some u → H1 b = some u) (new : ∀ b u, H b = none → H1 b = some u → ObjOk P w H1 h' b u) : HOk P w H1 h' := fun b u e => by
  cases q : H b with
  | none => exact new b u q e
  | some u' =>
    rw [hf b u' q] at e
    cases e
    exact (x b _ q).stay (fun c v _ q => k c v q) (fun c q => hf _ _ q) (fun c xs q => hf _ _ q)
/-- the heap with pairs of numbers at these addresses -/
noncomputable def pairsAt (H : Hp) (as : List Addr) (key val : Nat → Int) : Hp := fun b =>
  match H b with
  | some u => some u
  | none => by
    classical
    exact if h : ∃ i : Nat, as[i]? = some b then some (.tup [.int (key h.choose), .int (val h.choose)]) else none
theorem pairsAt_old {H : Hp} {as : List Addr} {key val : Nat → Int} {b : Addr} {u : HO} (e : H b = some u) : pairsAt H as key val b = some u := by
  unfold pairsAt; rw [e]
theorem pairsAt_no {H : Hp} {as : List Addr} {key val : Nat → Int} {b : Addr} (e : H b = none) (n : ∀ i : Nat, as[i]? ≠ some b) : pairsAt H as key val b = none := by
  unfold pairsAt; rw [e]
  have : ¬ ∃ i : Nat, as[i]? = some b := fun ⟨i, h⟩ => n i h
  simp only [dif_neg this]
theorem rise_inj {as : List Addr} (r : as.Pairwise (· < ·)) {i j : Nat} {b : Addr} (h1 : as[i]? = some b) (h2 : as[j]? = some b) : i = j := by
  obtain ⟨l1, e1⟩ := List.getElem?_eq_some_iff.mp h1
  obtain ⟨l2, e2⟩ := List.getElem?_eq_some_iff.mp h2
  have p := List.pairwise_iff_getElem.mp r
  rcases (by omega : i < j ∨ i = j ∨ j < i) with c | c | c
  · have := p i j l1 l2 c
    rw [e1, e2] at this
    exact absurd this (Nat.lt_irrefl _)
  · exact c
  · have := p j i l2 l1 c
    rw [e1, e2] at this
    exact absurd this (Nat.lt_irrefl _)
theorem pairsAt_at {H : Hp} {as : List Addr} {key val : Nat → Int} {b : Addr} {i : Nat} (r : as.Pairwise (· < ·)) (e : H b = none) (h : as[i]? = some b) : pairsAt H as key val b = some (.tup [.int (key i), .int (val i)]) := by
  unfold pairsAt; rw [e]
  have ex : ∃ i : Nat, as[i]? = some b := ⟨i, h⟩
  simp only [dif_pos ex]
  rw [rise_inj r ex.choose_spec h]
/-! ### sort of a list of pairs that a built-in has just made -/
theorem lsort_pairs {X : Cx} {pins : List (Addr × Obj)} {σ : St} {H : Hp} {s : Shared} {A : Around} {E : Value → Shared → Prop} {ts : List Addr} {key val : Nat → Int} {Q : Value → Shared → Prop} (I : Inv X pins σ H s) (l1 : 1 ≤ ts.length) (l64 : ts.length < 64)
    (htup : ∀ i t, ts[i]? = some t → SqT X.K H t [.int (key i), .int (val i)]) (inj : ∀ i j, i < ts.length → j < ts.length → i ≠ j → key i ≠ key j)
    (kq : ∀ (s' : Shared) (pm : List Nat), H s.heap.objs.size = none → pm.Perm (List.range ts.length) → (∀ i, 1 ≤ i → i < ts.length → key (pm.getD (i - 1) 0) < key (pm.getD i 0)) →
      Inv X pins σ (upd H s.heap.objs.size (.lst (pm.map fun i => V.ref (ts.getD i 0)))) s' → Q .none s') :
    wpAny (model X.prog X.w) A (call (.builtin "list.sort") [.ref s.heap.objs.size]) Q E { s with heap := s.heap.push (seqObj "list" (ts.map Value.ref).toArray 0) } := by
  obtain ⟨m, hm, _⟩ := id I.loc
  have F0 : Fr nilHeap X.env.locals s.heap m := ⟨hm, fun b o e => (by rw [nil_get] at e; cases e), Nat.zero_le _⟩
  have N0 : News nilHeap X.env.locals s.heap (allBut s.heap X.env.locals) := allBut_news nil_get
  have F1 : Fr nilHeap X.env.locals (s.heap.push (seqObj "list" (ts.map Value.ref).toArray 0)) m := F0.push _
  have N1 : News nilHeap X.env.locals (s.heap.push (seqObj "list" (ts.map Value.ref).toArray 0)) ((s.heap.objs.size, seqObj "list" (ts.map Value.ref).toArray 0) :: allBut s.heap X.env.locals) := News.push F0 N0 _ rfl
  have hD : ∀ q ∈ allBut s.heap X.env.locals, q.1 < s.heap.objs.size := fun q hq => Heap.lt_size (N0 q hq).1
  have len : (ts.map Value.ref).length = ts.length := List.length_map ..
  have hoD : (s.heap.push (seqObj "list" (ts.map Value.ref).toArray 0)).get? s.heap.objs.size = some (seqObj "list" (ts.map Value.ref).toArray 0) := Heap.get?_push_size _ rfl
  have hv0 : ∀ l : List Nat, Vals (l.map fun i => V.ref (ts.getD i 0)) (l.map fun i => Value.ref (ts.getD i 0)) := fun l => by
    induction l with
    | nil => exact .nil
    | cons a l ih => exact .cons rfl ih
  rcases (by omega : ts.length = 1 ∨ 2 ≤ ts.length) with e1 | l2
  · obtain ⟨t, rfl⟩ : ∃ t, ts = [t] := by
      match ts, e1 with
      | [t], _ => exact ⟨t, rfl⟩
    refine wpAny_call_entry slot_list_sort ⟨_, hoD, rfl⟩ entry_list_sort ?_ (args_list_sort _)
    refine one_list_sort (s := { s with heap := s.heap.push (seqObj "list" ([t].map Value.ref).toArray 0) }) (v := .ref t) F1 (N0.grown fun b o e => Heap.get?_push_of_some _ e) hoD (Nat.ne_of_gt I.lt) (nil_get _) (fun p hp => Nat.ne_of_lt (hD p hp)) fun h' c F' N' => ?_
    obtain ⟨HD, I2⟩ := I.newList hm F'.ns N' hD (ys := [.ref t]) (.cons rfl .nil) (by rw [sizeLine_eq]; show 1 ≤ 16777216; decide)
    exact ⟨_, rfl, kq _ [0] HD (List.Perm.refl _) (fun i h1 h2 => by simp at h2; omega) I2⟩
  · refine kat_lsort (s := { s with heap := s.heap.push (seqObj "list" (ts.map Value.ref).toArray 0) }) (vs := ts.map Value.ref) F1 N1 (.head fun q hq => Nat.ne_of_lt (hD q hq)) rfl (by rw [len]; exact l2) (by rw [len]; exact l64) fun e1 h' F' N' => ?_
    have obj : ∀ i, i < ts.length → ∃ (o : Obj) (c : Nat) (t1 t2 : Tok), h'.get? (ts.getD i 0) = some o ∧ o.cls = .type "tuple" ∧ o.data = .seq #[.int (key i) t1, .int (val i) t2] c := fun i hi => by
      have e : ts[i]? = some (ts.getD i 0) := by simp [List.getD, hi]
      obtain ⟨i2, v2, tp, z2⟩ := I.tuple (htup i _ e)
      obtain ⟨o, q, cl, c, d⟩ := tp
      cases v2 with
      | cons a1 r1 =>
        cases r1 with
        | cons a2 r2 =>
          cases r2
          obtain ⟨t1, rfl⟩ := a1
          obtain ⟨t2, rfl⟩ := a2
          have ne : ts.getD i 0 ≠ X.env.locals := fun z => by
            rw [z] at q
            obtain ⟨o', es, ep, q', d', _⟩ := id hm
            rw [q'] at q; cases q
            rw [d] at d'; cases d'
          exact ⟨o, c, t1, t2, (N' _ (List.mem_cons_of_mem _ (allBut_mem q ne))).1, cl, d⟩
    have at_ : ∀ i, i < ts.length → (ts.map Value.ref).getD i Value.none = .ref (ts.getD i 0) := fun i hi => by
      simp [List.getD, hi]
    have tups : ∀ (l : List Addr) (k : Nat), (∀ j, j < l.length → ∃ (o : Obj) (c : Nat) (t1 t2 : Tok), h'.get? (l.getD j 0) = some o ∧ o.cls = .type "tuple" ∧ o.data = .seq #[.int (key (k + j)) t1, .int (val (k + j)) t2] c) →
        ∃ fs : List Value, KatTups h' (l.map Value.ref) fs ∧ fs.length = l.length ∧ ∀ v ∈ fs, ∃ i t, v = .int i t := by
      intro l
      induction l with
      | nil => exact fun _ _ => ⟨[], trivial, rfl, fun v hv => (nomatch hv)⟩
      | cons a l ih =>
        intro k hk
        obtain ⟨o, c, t1, t2, q, cl, d⟩ := hk 0 (Nat.zero_lt_succ _)
        obtain ⟨fs, T, lf, hf⟩ := ih (k + 1) fun j hj => by
          have := hk (j + 1) (Nat.succ_lt_succ hj)
          rw [show k + (j + 1) = k + 1 + j by omega] at this
          exact this
        refine ⟨.int (key (k + 0)) t1 :: fs, KatTups.cons (q : h'.get? a = some o) cl d rfl T, by simp [lf], fun v hv => ?_⟩
        rcases List.mem_cons.mp hv with e | e
        · exact ⟨_, _, e⟩
        · exact hf v e
    obtain ⟨fs, KT, lf, hfs⟩ := tups ts 0 (fun j hj => by rw [Nat.zero_add]; exact obj j hj)
    refine kat_kind (s := { s with heap := h' }) KT (by omega) (T := .type "int") (fun v hv => ?_) (by decide) ?_
    · obtain ⟨i, t, rfl⟩ := hfs v hv
      exact Looks.of_pure rfl
    rw [len]
    refine Hl.wp (lt := ltK key) (P := (· < ts.length)) (Q := fun pm => Gp ts.length key pm ∧ AscT key pm ts.length) (fun i j C hi hj hC => ?_) (fun pm hp => ?_) _ (sort_ok (by omega) inj)
    · show wpAny _ _ (keyLt' _ _ _) C _ _
      rw [at_ i hi, at_ j hj]
      obtain ⟨o, c, t1, t2, q, cl, d⟩ := obj i hi
      obtain ⟨o', c', t1', t2', q', cl', d'⟩ := obj j hj
      refine kat_lt q d q' d' ?_
      show KatLex _ _ _ _ _ _ [(Value.int (key i) t1, Value.int (key j) t1'), (Value.int (val i) t2, Value.int (val j) t2')] 0 _
      refine kat_cons (wpAny_eqBool_int ?_)
      by_cases e : key i = key j
      · have ij : i = j := by
          apply Decidable.byContradiction
          intro ne
          exact inj i j hi hj ne e
        subst ij
        rw [show (key i == key i) = true by simp]
        refine kat_yes (kat_cons (wpAny_eqBool_int ?_))
        rw [show (val i == val i) = true by simp]
        refine kat_yes (kat_nil ?_)
        have z : ltK key i i = false := decide_eq_false (by omega)
        rw [z] at hC
        exact hC
      · rw [show (key i == key j) = false by simpa using e]
        exact kat_no (oneLt_int hC)
    · obtain ⟨G, A⟩ := hp
      refine KasFin.intro F' N' (.head fun q hq => Nat.ne_of_lt (hD q hq)) fun h2 c2 F2 N2 => ?_
      have pl2 : pm.toList.Perm (List.range ts.length) := by simpa using G.perm.toList
      have eo : (pm.toList.map fun i => (ts.map Value.ref).getD i Value.none) = (pm.toList.map fun i => Value.ref (ts.getD i 0)) := by
        refine List.map_congr_left fun i hi => at_ i ?_
        have := pl2.mem_iff.mp hi
        simpa using this
      rw [eo] at N2
      have lz : (pm.toList.map fun i => V.ref (ts.getD i 0)).length ≤ sizeLine := by
        rw [List.length_map, pl2.length_eq, List.length_range, sizeLine_eq]; omega
      obtain ⟨HD, I2⟩ := I.newList hm F2.ns N2 hD (hv0 pm.toList) lz
      refine kq _ pm.toList HD pl2 (fun i i1 i2 => ?_) I2
      have := A i i1 i2
      unfold ek at this
      have g : ∀ k, pm.toList.getD k 0 = pm.getD k 0 := fun k => by rw [getD_opt]; simp [List.getD]
      rw [g, g]
      exact this
/-! ### d.items(), sorted(d.items()) -/
def viewAt (v d : Addr) : Heap → Prop := fun h => h.IsItemsView v d
def rItems : V → List V → Hp → VK → Prop := fun x xs H Q => ∃ d kvs, x = .ref d ∧ xs = [] ∧ H d = some (.dK kvs) ∧ ∀ v, H v = none → Q (.ref v) (upd H v (.ext (viewAt v d)))
theorem mt_items {X : Cx} : MtM X "dict.items" rItems := by
  intro pins s σ H x xs v us Q I rx rs h
  obtain ⟨d, kvs, rfl, rfl, e, kq⟩ := h
  cases rx; cases rs
  obtain ⟨z, y, vs, r, hD⟩ := (show ObjOk X.prog X.w H s.heap d (.dK kvs) from I.hok d _ e)
  refine call_meetsIn PySem.F.slot_dict_items hD.typeIs PySem.F.entry_dict_items (PySem.F.args_dict_items_1 _) (meets_dict_items (mixKind X.prog X.w) d y) ⟨⟨vs, hD⟩, ?_⟩
  have hv : (s.heap.push { cls := .type "dict_items", data := .fields #[.ref d] }).get? s.heap.objs.size = some { cls := .type "dict_items", data := .fields #[.ref d] } := Heap.get?_push_size _ rfl
  refine ⟨.ref s.heap.objs.size, _, I.laid (a := s.heap.objs.size) (o := .ext (viewAt s.heap.objs.size d)) (t' := s.toks) (fun _ _ q => Heap.get?_push_of_some _ q) (Nat.le_refl _) ⟨⟨_, hv, rfl, rfl⟩, ⟨_, hv⟩, fun h1 h2 ⟨o, a, b⟩ k => ⟨o, k o a, b⟩⟩, rfl, kq _ (I.hok.fresh (Nat.le_refl _))⟩
/-- a dict of numbers by numbers -/
def dI (kvs : List (Int × Int)) : List (Key × V) := kvs.map fun p => (Sum.inl p.1, V.int p.2)
def rSortD : List V → Hp → VK → Prop := fun xs H Q => ∃ (v d : Addr) (kvs : List (Int × Int)), xs = [.ref v] ∧ H v = some (.ext (viewAt v d)) ∧ H d = some (.dK (dI kvs)) ∧ 1 ≤ kvs.length ∧ kvs.length < 64 ∧
  ∀ (D : Addr) (ts : List Addr) (pm : List Nat) (H1 : Hp), ts.length = kvs.length → Same H H1 → (∀ i t, ts[i]? = some t → H1 t = some (.tup [.int (kvs.getD i (0, 0)).1, .int (kvs.getD i (0, 0)).2])) → H1 D = none → pm.Perm (List.range kvs.length) →
    (∀ i, 1 ≤ i → i < kvs.length → (kvs.getD (pm.getD (i - 1) 0) (0, 0)).1 < (kvs.getD (pm.getD i 0) (0, 0)).1) → Q (.ref D) (upd H1 D (.lst (pm.map fun i => V.ref (ts.getD i 0))))
theorem dI_vals : ∀ {kvs : List (Int × Int)} {vs : List (Key × Value)}, KV (dI kvs) vs → vs.length = kvs.length ∧ (vs.map (·.1)) = kvs.map (fun p => Sum.inl p.1) ∧ ∀ i k x, vs[i]? = some (k, x) → k = Sum.inl (kvs.getD i (0, 0)).1 ∧ ∃ t, x = .int (kvs.getD i (0, 0)).2 t
  | [], _, .nil => ⟨rfl, rfl, fun i k x e => by simp at e⟩
  | p :: r, q :: vs, .cons h t => by
    obtain ⟨e1, e2, e3⟩ := dI_vals (kvs := r) t
    obtain ⟨h1, h2⟩ := h
    refine ⟨by simp [e1], ?_, fun i k x e => ?_⟩
    · rw [List.map_cons, List.map_cons, e2, ← h1]
    · cases i with
      | zero =>
        cases e
        exact ⟨h1.symm, h2⟩
      | succ i => exact e3 i k x e
theorem call_sorted_items {X : Cx} (hc : X.calm = true) : CallR X (.builtin "sorted") rSortD := by
  intro pins s σ H xs us Q I r h
  obtain ⟨v, d, kvs, rfl, hv, hd, l1, l64, kq⟩ := h
  obtain ⟨u, rfl, rx⟩ := vals1 r
  cases rx
  obtain ⟨z, y, vs, rel, hD⟩ := (show ObjOk X.prog X.w H s.heap d (.dK (dI kvs)) from I.hok d _ hd)
  obtain ⟨hview, _⟩ := (show ObjOk X.prog X.w H s.heap v (.ext (viewAt v d)) from I.hok v _ hv)
  obtain ⟨lv, keys, at_⟩ := dI_vals rel
  obtain ⟨o, es, ep, ho, r1, r2, r3, r4, nd⟩ := hD
  refine Calls.call_function_entry kind_sorted plain_sorted entry_sorted (args_sorted1 _) ?_
  unfold Builtin.«sorted»
  refine wpAny_bind (m := checkCount "sorted" 1 1 _) (wpAny_pure ?_)
  refine wpAny_bind (kdx_collect (A := X.A.in1) (knd := mixKind X.prog X.w) (kvs := vs) (ep := ep) (I.ok.hd hc) hview ⟨o, es, ho, r1, r2, r3, r4, nd⟩ (by rw [lv, sizeLine_eq]; omega) fun h' tk as hk hl hG => ?_)
  have la : as.length = kvs.length := hl.trans lv
  have fr : ∀ i t, as[i]? = some t → H t = none := fun i t e => I.hok.fresh (Nat.le_of_lt (hG.above t (List.mem_of_getElem? e)))
  have I1 : Inv X pins σ (pairsAt H as (fun i => (kvs.getD i (0, 0)).1) (fun i => (kvs.getD i (0, 0)).2)) { s with heap := h', toks := tk } := by
    refine I.un (Un.laids hk (fun b u e => pairsAt_old e) fun b o e n => pairsAt_no n fun i q => ?_) (I.hok.laids hk (fun b u e => pairsAt_old e) fun b u n e => ?_)
    · have := hG.above b (List.mem_of_getElem? q)
      exact absurd (Nat.lt_trans this (Heap.lt_size e)) (Nat.lt_irrefl _)
    · by_cases ex : ∃ i : Nat, as[i]? = some b
      · obtain ⟨i, ei⟩ := ex
        rw [pairsAt_at hG.rise n ei] at e
        cases e
        obtain ⟨key, k, x, e1, e2, e3⟩ := hG.pairs i b ei
        obtain ⟨rfl, t2, rfl⟩ := at_ i k x e1
        rw [mixKind_is] at e2
        rcases keyIs_shape e2 with ⟨i', t, ek, rfl⟩ | ⟨x', t, ek, rfl⟩
        · cases ek
          exact ⟨by rw [sizeLine_eq]; show 2 ≤ 16777216; decide, [_, _], .cons ⟨t, rfl⟩ (.cons ⟨t2, rfl⟩ .nil), _, e3, rfl, 0, rfl⟩
        · cases ek
      · rw [pairsAt_no n fun i q => ex ⟨i, q⟩] at e
        cases e
  refine wpAny_bind (wpAny_newList ?_ (by rw [List.length_map, la, sizeLine_eq]; omega))
  refine wpAny_bind (wpAny_holding (wpAny_mono (lsort_pairs (E := fun _ _ => False) (Q := fun _ s' => EP X pins σ Q (.ref h'.objs.size) s') I1 (ts := as) (by omega) (by omega) (key := fun i => (kvs.getD i (0, 0)).1) (val := fun i => (kvs.getD i (0, 0)).2) (fun i t e => SqT.of (pairsAt_at hG.rise (fr i t e) e)) (fun i j hi hj ne => ?_) (fun s' pm hn hp asc I2 => ?_)) (fun _ s' x => ?_) fun _ _ e => e.elim))
  · intro e
    have nd2 : (kvs.map fun p => (Sum.inl p.1 : Key)).Nodup := keys ▸ nd
    have p := List.pairwise_iff_getElem.mp nd2
    have gi : kvs.getD i (0, 0) = kvs[i]'(by omega) := by simp [List.getD, show i < kvs.length by omega]
    have gj : kvs.getD j (0, 0) = kvs[j]'(by omega) := by simp [List.getD, show j < kvs.length by omega]
    rw [gi, gj] at e
    rcases (by omega : i < j ∨ j < i) with c | c
    · have := p i j (by simp; omega) (by simp; omega) c
      simp at this
      exact this e
    · have := p j i (by simp; omega) (by simp; omega) c
      simp at this
      exact this e.symm
  · rw [la] at hp asc
    exact ⟨.ref h'.objs.size, _, I2, rfl, kq _ as pm _ la (fun b u e => pairsAt_old e) (fun i t e => pairsAt_at hG.rise (fr i t e) e) hn hp asc⟩
  · exact wpAny_pure ⟨_, rfl, x⟩
/-! ### sorted of a list of numbers -/
def rSortI (K : PySem.W.Frag) : List V → Hp → VK → Prop := fun xs H Q => ∃ (p : Addr) (ns : List Int), xs = [.ref p] ∧ SqL K H p (ns.map V.int) ∧ ns.length < 64 ∧
  ∀ (D : Addr) (ns' : List Int), H D = none → ns'.Perm ns → ns'.Pairwise (· ≤ ·) → Q (.ref D) (upd H D (.lst (ns'.map V.int)))
theorem ints_are : ∀ {ns : List Int} {vs : List Value}, Vals (ns.map V.int) vs → IntsAre vs ns
  | [], _, .nil => .nil
  | n :: r, _ :: _, .cons h t => by
    obtain ⟨t', rfl⟩ := h
    exact .cons n t' (ints_are t)
theorem ints_valsI : ∀ {vs : List Value} {ns : List Int}, IntsAre vs ns → Vals (ns.map V.int) vs
  | _, _, .nil => .nil
  | _, _, .cons n t r => .cons ⟨t, rfl⟩ (ints_valsI r)
theorem call_sorted_ints {X : Cx} : CallR X (.builtin "sorted") (rSortI X.K) := by
  intro pins s σ H xs us Q I r h
  obtain ⟨p, ns, rfl, hq, l64, kq⟩ := h
  obtain ⟨u, rfl, rx⟩ := vals1 r
  cases rx
  obtain ⟨its, hv, pl, hz⟩ := I.list hq
  have hI := ints_are hv
  have ll : its.length = ns.length := by have := hv.length; rw [List.length_map] at this; omega
  refine sorted_ints (vs := its) (ns := ns) pl.isList hI (by omega) fun out ns' h1 h2 h3 => ?_
  have hsz : ((s.heap.push (seqObj "list" #[] 0)).update s.heap.objs.size (Obj.mapSeq (· ++ its.toArray))).objs.size = s.heap.objs.size + 1 := by
    rw [Heap.size_update, size_push']
  have hoL : (((s.heap.push (seqObj "list" #[] 0)).update s.heap.objs.size (Obj.mapSeq (· ++ its.toArray))).push (seqObj "list" its.toArray 0)).get? (s.heap.objs.size + 1) = some (seqObj "list" its.toArray 0) := by
    rw [← hsz]; exact Heap.get?_push_size _ rfl
  have keep : ∀ b o, s.heap.get? b = some o → (((s.heap.push (seqObj "list" #[] 0)).update s.heap.objs.size (Obj.mapSeq (· ++ its.toArray))).push (seqObj "list" its.toArray 0)).get? b = some o := fun b o q => by
    have hlt : b < s.heap.objs.size := Heap.lt_size q
    rw [Heap.get?_push_ne _ _ _ (by rw [hsz]; exact Nat.ne_of_lt (Nat.lt_succ_of_lt hlt)), Heap.get?_update_ne _ _ _ _ (Nat.ne_of_lt hlt), Heap.get?_push_ne _ _ _ (Nat.ne_of_lt hlt)]
    exact q
  have two : ∀ (h : Heap) (a : Addr), h.get? a = some (seqObj "list" its.toArray 0) → (∃ n, (sortedHeap h a its out).get? a = some (seqObj "list" out n)) ∧ ∀ b o, b ≠ a → h.get? b = some o → (sortedHeap h a its out).get? b = some o := fun h a e => by
    obtain ⟨e1, ho1⟩ : ∃ e1, (h.update a (Obj.mapSeq fun _ => #[])).get? a = some (seqObj "list" #[] e1) := ⟨_, get?_update_seq e (fun _ => #[])⟩
    have ho2 := Heap.get?_push_of_some (seqObj "list" #[] 0) (Heap.get?_push_of_some (seqObj "tuple" its.toArray 0) ho1)
    refine ⟨⟨_, get?_update_seq ho2 fun _ => out⟩, fun b o ne q => ?_⟩
    unfold sortedHeap
    rw [Heap.get?_update_ne _ _ _ _ ne]
    refine Heap.get?_push_of_some _ (Heap.get?_push_of_some _ ?_)
    rw [Heap.get?_update_ne _ _ _ _ ne]
    exact q
  obtain ⟨⟨n, hn⟩, hk⟩ := two _ _ hoL
  have hv2 := ints_valsI h1
  refine ⟨.ref (s.heap.objs.size + 1), _, I.laid (a := s.heap.objs.size + 1) (o := .lst (ns'.map V.int)) (t' := s.toks) (h' := sortedAll s.heap its out) (fun b o q => hk b o (Nat.ne_of_lt (Nat.lt_succ_of_lt (Heap.lt_size q))) (keep b o q)) (Nat.le_succ _) ⟨?_, out.toList, n, hv2, by rw [Array.toArray_toList]; exact hn⟩, rfl, kq _ ns' (I.hok.fresh (Nat.le_succ _)) h2 h3⟩
  rw [List.length_map, h2.length_eq, sizeLine_eq]; omega
end L2

namespace Gh
open PySem L2
def top (i : Nat) : Stmt := PySem.Challenge.pw_gaphand_k05_three_gaps.main.body.getD i (.Pass ⟨0, 0, 0, 0⟩)
abbrev st_greatest : Stmt := top 6
theorem sc_greatest : FnScope [] [] (defScope st_greatest) := ⟨rfl, rfl, rfl, by decide +kernel, rfl, by decide +kernel, by decide +kernel⟩
abbrev st_is_whole : Stmt := top 7
theorem sc_is_whole : FnScope ["value", "least", "most"] ["value", "least", "most"] (defScope st_is_whole) := ⟨rfl, rfl, rfl, by decide +kernel, rfl, by decide +kernel, by decide +kernel⟩
abbrev st_check_beats : Stmt := top 8
theorem sc_check_beats : FnScope ["what", "value", "least", "most"] ["what", "value", "least", "most"] (defScope st_check_beats) := ⟨rfl, rfl, rfl, by decide +kernel, rfl, by decide +kernel, by decide +kernel⟩
abbrev st_Neighbours___init__ : Stmt := inClass (top 10) 0
theorem sc_Neighbours___init__ : FnScope ["self", "wheel"] ["self", "wheel"] (defScope st_Neighbours___init__) := ⟨rfl, rfl, rfl, by decide +kernel, rfl, by decide +kernel, by decide +kernel⟩
abbrev st_Neighbours_draw_ahead : Stmt := inClass (top 10) 1
theorem sc_Neighbours_draw_ahead : FnScope ["self", "most", "times"] ["self", "most"] (defScope st_Neighbours_draw_ahead) := ⟨rfl, rfl, rfl, by decide +kernel, rfl, by decide +kernel, by decide +kernel⟩
abbrev st_Neighbours_draw_behind : Stmt := inClass (top 10) 2
theorem sc_Neighbours_draw_behind : FnScope ["self", "most", "times"] ["self", "most"] (defScope st_Neighbours_draw_behind) := ⟨rfl, rfl, rfl, by decide +kernel, rfl, by decide +kernel, by decide +kernel⟩
abbrev st_around : Stmt := top 11
theorem sc_around : FnScope ["wheel", "many", "zero"] ["wheel", "many"] (defScope st_around) := ⟨rfl, rfl, rfl, by decide +kernel, rfl, by decide +kernel, by decide +kernel⟩
abbrev st_gaps : Stmt := top 12
theorem sc_gaps : FnScope ["wheel", "many", "four"] ["wheel", "many"] (defScope st_gaps) := ⟨rfl, rfl, rfl, by decide +kernel, rfl, by decide +kernel, by decide +kernel⟩
abbrev st_counted_gaps : Stmt := top 13
theorem sc_counted_gaps : FnScope ["many", "ahead", "near", "behind", "back", "counts"] ["many", "ahead", "near", "behind", "back"] (defScope st_counted_gaps) := ⟨rfl, rfl, rfl, by decide +kernel, rfl, by decide +kernel, by decide +kernel⟩
abbrev st_common : Stmt := top 15
theorem sc_common : FnScope ["one", "other", "rest"] ["one", "other"] (defScope st_common) := ⟨rfl, rfl, rfl, by decide +kernel, rfl, by decide +kernel, by decide +kernel⟩
abbrev st_check_wheel : Stmt := top 16
theorem sc_check_wheel : FnScope ["size", "step", "start", "bound"] ["size", "step", "start"] (defScope st_check_wheel) := ⟨rfl, rfl, rfl, by decide +kernel, rfl, by decide +kernel, by decide +kernel⟩
abbrev st_Wheel___init__ : Stmt := inClass (top 17) 0
theorem sc_Wheel___init__ : FnScope ["self", "size", "step", "start"] ["self", "size", "step", "start"] (defScope st_Wheel___init__) := ⟨rfl, rfl, rfl, by decide +kernel, rfl, by decide +kernel, by decide +kernel⟩
abbrev st__law_cell_at : Stmt := top 19
theorem sc__law_cell_at : FnScope ["_law_script", "_law_k"] ["_law_script", "_law_k"] (defScope st__law_cell_at) := ⟨rfl, rfl, rfl, by decide +kernel, rfl, by decide +kernel, by decide +kernel⟩
abbrev st__law_whole : Stmt := top 20
theorem sc__law_whole : FnScope ["_law_found"] ["_law_found"] (defScope st__law_whole) := ⟨rfl, rfl, rfl, by decide +kernel, rfl, by decide +kernel, by decide +kernel⟩
abbrev st__law_divisor : Stmt := top 21
theorem sc__law_divisor : FnScope ["_law_one", "_law_other", "_law_rest"] ["_law_one", "_law_other"] (defScope st__law_divisor) := ⟨rfl, rfl, rfl, by decide +kernel, rfl, by decide +kernel, by decide +kernel⟩
abbrev st__law_signed : Stmt := top 22
theorem sc__law_signed : FnScope ["_law_cell", "_law_share", "_law_most", "_law_number"] ["_law_cell", "_law_share"] (defScope st__law_signed) := ⟨rfl, rfl, rfl, by decide +kernel, rfl, by decide +kernel, by decide +kernel⟩
abbrev st__law_drawn : Stmt := top 23
theorem sc__law_drawn : FnScope ["_law_script", "_law_way", "_law_share", "_law_top", "_law_size"] ["_law_script"] (defScope st__law_drawn) := ⟨rfl, rfl, rfl, by decide +kernel, rfl, by decide +kernel, by decide +kernel⟩
abbrev st__law_shown : Stmt := top 24
theorem sc__law_shown : FnScope ["_law_found", "_law_size", "_law_step", "_law_many", "_law_number", "_law_ahead", "_law_near", "_law_behind", "_law_back"] ["_law_found", "_law_size", "_law_step", "_law_many"] (defScope st__law_shown) := ⟨rfl, rfl, rfl, by decide +kernel, rfl, by decide +kernel, by decide +kernel⟩
abbrev st__law_good : Stmt := top 25
theorem sc__law_good : FnScope ["_law_found", "_law_size", "_law_many", "_law_last", "_law_beats", "_law_width", "_law_row"] ["_law_found", "_law_size", "_law_many"] (defScope st__law_good) := ⟨rfl, rfl, rfl, by decide +kernel, rfl, by decide +kernel, by decide +kernel⟩
abbrev st__law_told : Stmt := top 26
theorem sc__law_told : FnScope ["_law_four", "_law_many", "_law_ahead", "_law_near", "_law_behind", "_law_back", "_law_counts", "_law_width", "_law_count"] ["_law_four", "_law_many"] (defScope st__law_told) := ⟨rfl, rfl, rfl, by decide +kernel, rfl, by decide +kernel, by decide +kernel⟩
abbrev st__law_counted : Stmt := top 27
theorem sc__law_counted : FnScope ["_law_size", "_law_step", "_law_many", "_law_places", "_law_counts", "_law_k", "_law_width"] ["_law_size", "_law_step", "_law_many"] (defScope st__law_counted) := ⟨rfl, rfl, rfl, by decide +kernel, rfl, by decide +kernel, by decide +kernel⟩
abbrev st__law_stands : Stmt := top 28
theorem sc__law_stands : FnScope ["_law_wheel", "_law_size", "_law_step", "_law_many", "_law_found", "_law_four", "_law_kept"] ["_law_wheel", "_law_size", "_law_step", "_law_many"] (defScope st__law_stands) := ⟨rfl, rfl, rfl, by decide +kernel, rfl, by decide +kernel, by decide +kernel⟩
abbrev st__law_manies : Stmt := top 29
theorem sc__law_manies : FnScope ["_law_script", "_law_size", "_law_lap", "_law_found", "_law_cell"] ["_law_script", "_law_size", "_law_lap"] (defScope st__law_manies) := ⟨rfl, rfl, rfl, by decide +kernel, rfl, by decide +kernel, by decide +kernel⟩
abbrev st__law_refused : Stmt := top 30
theorem sc__law_refused : FnScope ["_law_wheel", "_law_many", "_law_right", "e"] ["_law_wheel", "_law_many"] (defScope st__law_refused) := ⟨rfl, rfl, rfl, by decide +kernel, rfl, by decide +kernel, by decide +kernel⟩
abbrev st_law : Stmt := top 31
theorem sc_law : FnScope ["_law_script", "_law_size", "_law_step", "_law_start", "_law_wheel", "_law_lap", "_law_many", "_law_far", "_law_some"] ["_law_script"] (defScope st_law) := ⟨rfl, rfl, rfl, by decide +kernel, rfl, by decide +kernel, by decide +kernel⟩
structure Fn where
  f : Addr
  fd : FuncData
structure Adr where
  greatest : Fn
  is_whole : Fn
  check_beats : Fn
  Neighbours___init__ : Fn
  Neighbours_draw_ahead : Fn
  Neighbours_draw_behind : Fn
  around : Fn
  gaps : Fn
  counted_gaps : Fn
  common : Fn
  check_wheel : Fn
  Wheel___init__ : Fn
  _law_cell_at : Fn
  _law_whole : Fn
  _law_divisor : Fn
  _law_signed : Fn
  _law_drawn : Fn
  _law_shown : Fn
  _law_good : Fn
  _law_told : Fn
  _law_counted : Fn
  _law_stands : Fn
  _law_manies : Fn
  _law_refused : Fn
  law : Fn
  Nb : Addr
  W : Addr
  dflt : Addr
  HandError : Addr
  NoWheel : Addr
  NoBeats : Addr
structure Txt (K : PySem.W.Frag) (mg : Str → Option Value) (a : Adr) : Prop where
  F_greatest : FunD K "greatest" "greatest" st_greatest .none a.greatest.f a.greatest.fd
  m_greatest : mg "greatest" = some (.ref a.greatest.f)
  F_is_whole : FunD K "is_whole" "is_whole" st_is_whole .none a.is_whole.f a.is_whole.fd
  m_is_whole : mg "is_whole" = some (.ref a.is_whole.f)
  F_check_beats : FunD K "check_beats" "check_beats" st_check_beats .none a.check_beats.f a.check_beats.fd
  m_check_beats : mg "check_beats" = some (.ref a.check_beats.f)
  F_Neighbours___init__ : FunD K "__init__" "Neighbours.__init__" st_Neighbours___init__ .none a.Neighbours___init__.f a.Neighbours___init__.fd
  F_Neighbours_draw_ahead : FunD K "draw_ahead" "Neighbours.draw_ahead" st_Neighbours_draw_ahead .none a.Neighbours_draw_ahead.f a.Neighbours_draw_ahead.fd
  F_Neighbours_draw_behind : FunD K "draw_behind" "Neighbours.draw_behind" st_Neighbours_draw_behind .none a.Neighbours_draw_behind.f a.Neighbours_draw_behind.fd
  F_around : FunD K "around" "around" st_around .none a.around.f a.around.fd
  m_around : mg "around" = some (.ref a.around.f)
  F_gaps : FunD K "gaps" "gaps" st_gaps .none a.gaps.f a.gaps.fd
  m_gaps : mg "gaps" = some (.ref a.gaps.f)
  F_counted_gaps : FunD K "counted_gaps" "counted_gaps" st_counted_gaps .none a.counted_gaps.f a.counted_gaps.fd
  m_counted_gaps : mg "counted_gaps" = some (.ref a.counted_gaps.f)
  F_common : FunD K "common" "common" st_common .none a.common.f a.common.fd
  m_common : mg "common" = some (.ref a.common.f)
  F_check_wheel : FunD K "check_wheel" "check_wheel" st_check_wheel .none a.check_wheel.f a.check_wheel.fd
  m_check_wheel : mg "check_wheel" = some (.ref a.check_wheel.f)
  F_Wheel___init__ : FunD K "__init__" "Wheel.__init__" st_Wheel___init__ (.ref a.dflt) a.Wheel___init__.f a.Wheel___init__.fd
  F__law_cell_at : FunD K "_law_cell_at" "_law_cell_at" st__law_cell_at .none a._law_cell_at.f a._law_cell_at.fd
  m__law_cell_at : mg "_law_cell_at" = some (.ref a._law_cell_at.f)
  F__law_whole : FunD K "_law_whole" "_law_whole" st__law_whole .none a._law_whole.f a._law_whole.fd
  m__law_whole : mg "_law_whole" = some (.ref a._law_whole.f)
  F__law_divisor : FunD K "_law_divisor" "_law_divisor" st__law_divisor .none a._law_divisor.f a._law_divisor.fd
  m__law_divisor : mg "_law_divisor" = some (.ref a._law_divisor.f)
  F__law_signed : FunD K "_law_signed" "_law_signed" st__law_signed .none a._law_signed.f a._law_signed.fd
  m__law_signed : mg "_law_signed" = some (.ref a._law_signed.f)
  F__law_drawn : FunD K "_law_drawn" "_law_drawn" st__law_drawn .none a._law_drawn.f a._law_drawn.fd
  m__law_drawn : mg "_law_drawn" = some (.ref a._law_drawn.f)
  F__law_shown : FunD K "_law_shown" "_law_shown" st__law_shown .none a._law_shown.f a._law_shown.fd
  m__law_shown : mg "_law_shown" = some (.ref a._law_shown.f)
  F__law_good : FunD K "_law_good" "_law_good" st__law_good .none a._law_good.f a._law_good.fd
  m__law_good : mg "_law_good" = some (.ref a._law_good.f)
  F__law_told : FunD K "_law_told" "_law_told" st__law_told .none a._law_told.f a._law_told.fd
  m__law_told : mg "_law_told" = some (.ref a._law_told.f)
  F__law_counted : FunD K "_law_counted" "_law_counted" st__law_counted .none a._law_counted.f a._law_counted.fd
  m__law_counted : mg "_law_counted" = some (.ref a._law_counted.f)
  F__law_stands : FunD K "_law_stands" "_law_stands" st__law_stands .none a._law_stands.f a._law_stands.fd
  m__law_stands : mg "_law_stands" = some (.ref a._law_stands.f)
  F__law_manies : FunD K "_law_manies" "_law_manies" st__law_manies .none a._law_manies.f a._law_manies.fd
  m__law_manies : mg "_law_manies" = some (.ref a._law_manies.f)
  F__law_refused : FunD K "_law_refused" "_law_refused" st__law_refused .none a._law_refused.f a._law_refused.fd
  m__law_refused : mg "_law_refused" = some (.ref a._law_refused.f)
  F_law : FunD K "law" "law" st_law .none a.law.f a.law.fd
  me_draw_ahead : Meth K a.Nb "draw_ahead" a.Neighbours_draw_ahead.f
  me_draw_behind : Meth K a.Nb "draw_behind" a.Neighbours_draw_behind.f
  m_Neighbours : mg "Neighbours" = some (.ref a.Nb)
  cl_Neighbours : Cls K a.Nb
  mk_Neighbours : Mk K a.Nb a.Neighbours___init__.f
  a_ahead : NoAttr K a.Nb "ahead"
  a_near : NoAttr K a.Nb "near"
  a_behind : NoAttr K a.Nb "behind"
  a_back : NoAttr K a.Nb "back"
  m_Wheel : mg "Wheel" = some (.ref a.W)
  cl : Cls K a.W
  mk_Wheel : Mk K a.W a.Wheel___init__.f
  a_size : NoAttr K a.W "size"
  a_step : NoAttr K a.W "step"
  a_start : NoAttr K a.W "start"
  a_lap : NoAttr K a.W "lap"
  dfl : ∃ o tk n, K.lookup a.dflt = some o ∧ o.data = .seq #[.int 0 tk] n
  m_HandError : mg "HandError" = some (.ref a.HandError)
  m_NoWheel : mg "NoWheel" = some (.ref a.NoWheel)
  x_NoWheel : ExcCls K a.NoWheel
  m_NoBeats : mg "NoBeats" = some (.ref a.NoBeats)
  x_NoBeats : ExcCls K a.NoBeats
  n_ValueError : mg "ValueError" = none
  n_bool : mg "bool" = none
  n_int : mg "int" = none
  n_isinstance : mg "isinstance" = none
  n_len : mg "len" = none
  n_list : mg "list" = none
  n_max : mg "max" = none
  n_min : mg "min" = none
  n_range : mg "range" = none
  n_sorted : mg "sorted" = none
  n_tuple : mg "tuple" = none
  ty_NoneType : PySem.W.kitOne K (.type "NoneType") (.type "bool") = some false ∧ PySem.W.kitOne K (.type "NoneType") (.type "int") = some false
  ty_bool : PySem.W.kitOne K (.type "bool") (.type "bool") = some true ∧ PySem.W.kitOne K (.type "bool") (.type "int") = some true
  ty_str : PySem.W.kitOne K (.type "str") (.type "bool") = some false ∧ PySem.W.kitOne K (.type "str") (.type "int") = some false
  ty_tuple : PySem.W.kitOne K (.type "tuple") (.type "bool") = some false ∧ PySem.W.kitOne K (.type "tuple") (.type "int") = some false
  ty_list : PySem.W.kitOne K (.type "list") (.type "bool") = some false ∧ PySem.W.kitOne K (.type "list") (.type "int") = some false
  v_NoBeats : PySem.W.kitOne K (.ref a.NoBeats) (.type "ValueError") = some true
  q_NoBeats_HandError : PySem.W.kitOne K (.ref a.NoBeats) (.ref a.HandError) = some true
  ib : PySem.W.kitOne K (.type "int") (.type "bool") = some false
  ii : PySem.W.kitOne K (.type "int") (.type "int") = some true
theorem b_greatest {K : PySem.W.Frag} {mg : Str → Option Value} {a : Adr} (T : Txt K mg a) : Binds K a.greatest.fd [] [] := T.F_greatest.binds fun _ _ _ _ _ _ us hl => match us, hl with | [], _ => rfl
theorem b_is_whole {K : PySem.W.Frag} {mg : Str → Option Value} {a : Adr} (T : Txt K mg a) : Binds K a.is_whole.fd ["value", "least", "most"] [] := T.F_is_whole.binds fun _ _ _ _ _ _ us hl => match us, hl with | [_, _, _], _ => rfl
theorem b_check_beats {K : PySem.W.Frag} {mg : Str → Option Value} {a : Adr} (T : Txt K mg a) : Binds K a.check_beats.fd ["what", "value", "least", "most"] [] := T.F_check_beats.binds fun _ _ _ _ _ _ us hl => match us, hl with | [_, _, _, _], _ => rfl
theorem b_Neighbours___init__ {K : PySem.W.Frag} {mg : Str → Option Value} {a : Adr} (T : Txt K mg a) : Binds K a.Neighbours___init__.fd ["self", "wheel"] [] := T.F_Neighbours___init__.binds fun _ _ _ _ _ _ us hl => match us, hl with | [_, _], _ => rfl
theorem b_Neighbours_draw_ahead {K : PySem.W.Frag} {mg : Str → Option Value} {a : Adr} (T : Txt K mg a) : Binds K a.Neighbours_draw_ahead.fd ["self", "most"] [] := T.F_Neighbours_draw_ahead.binds fun _ _ _ _ _ _ us hl => match us, hl with | [_, _], _ => rfl
theorem b_Neighbours_draw_behind {K : PySem.W.Frag} {mg : Str → Option Value} {a : Adr} (T : Txt K mg a) : Binds K a.Neighbours_draw_behind.fd ["self", "most"] [] := T.F_Neighbours_draw_behind.binds fun _ _ _ _ _ _ us hl => match us, hl with | [_, _], _ => rfl
theorem b_around {K : PySem.W.Frag} {mg : Str → Option Value} {a : Adr} (T : Txt K mg a) : Binds K a.around.fd ["wheel", "many"] [] := T.F_around.binds fun _ _ _ _ _ _ us hl => match us, hl with | [_, _], _ => rfl
theorem b_gaps {K : PySem.W.Frag} {mg : Str → Option Value} {a : Adr} (T : Txt K mg a) : Binds K a.gaps.fd ["wheel", "many"] [] := T.F_gaps.binds fun _ _ _ _ _ _ us hl => match us, hl with | [_, _], _ => rfl
theorem b_counted_gaps {K : PySem.W.Frag} {mg : Str → Option Value} {a : Adr} (T : Txt K mg a) : Binds K a.counted_gaps.fd ["many", "ahead", "near", "behind", "back"] [] := T.F_counted_gaps.binds fun _ _ _ _ _ _ us hl => match us, hl with | [_, _, _, _, _], _ => rfl
theorem b_common {K : PySem.W.Frag} {mg : Str → Option Value} {a : Adr} (T : Txt K mg a) : Binds K a.common.fd ["one", "other"] [] := T.F_common.binds fun _ _ _ _ _ _ us hl => match us, hl with | [_, _], _ => rfl
theorem b_check_wheel {K : PySem.W.Frag} {mg : Str → Option Value} {a : Adr} (T : Txt K mg a) : Binds K a.check_wheel.fd ["size", "step", "start"] [] := T.F_check_wheel.binds fun _ _ _ _ _ _ us hl => match us, hl with | [_, _, _], _ => rfl
theorem b_Wheel___init__ {K : PySem.W.Frag} {mg : Str → Option Value} {a : Adr} (T : Txt K mg a) : Binds K a.Wheel___init__.fd ["self", "size", "step", "start"] [] := by
  obtain ⟨o, tk, n, lk, hd⟩ := T.dfl
  obtain ⟨oc, od, kV, doc, pm, an, cdv, ct, osl, e, _, _⟩ := T.F_Wheel___init__.ex
  intro s us KX hl
  rw [e]
  have hl : us.length = 4 := by simpa using hl
  match us, hl with
  | [_, _, _, _], _ => exact BindsTo.of_defaults rfl (KX _ _ lk) hd rfl rfl
theorem b__law_cell_at {K : PySem.W.Frag} {mg : Str → Option Value} {a : Adr} (T : Txt K mg a) : Binds K a._law_cell_at.fd ["_law_script", "_law_k"] [] := T.F__law_cell_at.binds fun _ _ _ _ _ _ us hl => match us, hl with | [_, _], _ => rfl
theorem b__law_whole {K : PySem.W.Frag} {mg : Str → Option Value} {a : Adr} (T : Txt K mg a) : Binds K a._law_whole.fd ["_law_found"] [] := T.F__law_whole.binds fun _ _ _ _ _ _ us hl => match us, hl with | [_], _ => rfl
theorem b__law_divisor {K : PySem.W.Frag} {mg : Str → Option Value} {a : Adr} (T : Txt K mg a) : Binds K a._law_divisor.fd ["_law_one", "_law_other"] [] := T.F__law_divisor.binds fun _ _ _ _ _ _ us hl => match us, hl with | [_, _], _ => rfl
theorem b__law_signed {K : PySem.W.Frag} {mg : Str → Option Value} {a : Adr} (T : Txt K mg a) : Binds K a._law_signed.fd ["_law_cell", "_law_share"] [] := T.F__law_signed.binds fun _ _ _ _ _ _ us hl => match us, hl with | [_, _], _ => rfl
theorem b__law_drawn {K : PySem.W.Frag} {mg : Str → Option Value} {a : Adr} (T : Txt K mg a) : Binds K a._law_drawn.fd ["_law_script"] [] := T.F__law_drawn.binds fun _ _ _ _ _ _ us hl => match us, hl with | [_], _ => rfl
theorem b__law_shown {K : PySem.W.Frag} {mg : Str → Option Value} {a : Adr} (T : Txt K mg a) : Binds K a._law_shown.fd ["_law_found", "_law_size", "_law_step", "_law_many"] [] := T.F__law_shown.binds fun _ _ _ _ _ _ us hl => match us, hl with | [_, _, _, _], _ => rfl
theorem b__law_good {K : PySem.W.Frag} {mg : Str → Option Value} {a : Adr} (T : Txt K mg a) : Binds K a._law_good.fd ["_law_found", "_law_size", "_law_many"] [] := T.F__law_good.binds fun _ _ _ _ _ _ us hl => match us, hl with | [_, _, _], _ => rfl
theorem b__law_told {K : PySem.W.Frag} {mg : Str → Option Value} {a : Adr} (T : Txt K mg a) : Binds K a._law_told.fd ["_law_four", "_law_many"] [] := T.F__law_told.binds fun _ _ _ _ _ _ us hl => match us, hl with | [_, _], _ => rfl
theorem b__law_counted {K : PySem.W.Frag} {mg : Str → Option Value} {a : Adr} (T : Txt K mg a) : Binds K a._law_counted.fd ["_law_size", "_law_step", "_law_many"] [] := T.F__law_counted.binds fun _ _ _ _ _ _ us hl => match us, hl with | [_, _, _], _ => rfl
theorem b__law_stands {K : PySem.W.Frag} {mg : Str → Option Value} {a : Adr} (T : Txt K mg a) : Binds K a._law_stands.fd ["_law_wheel", "_law_size", "_law_step", "_law_many"] [] := T.F__law_stands.binds fun _ _ _ _ _ _ us hl => match us, hl with | [_, _, _, _], _ => rfl
theorem b__law_manies {K : PySem.W.Frag} {mg : Str → Option Value} {a : Adr} (T : Txt K mg a) : Binds K a._law_manies.fd ["_law_script", "_law_size", "_law_lap"] [] := T.F__law_manies.binds fun _ _ _ _ _ _ us hl => match us, hl with | [_, _, _], _ => rfl
theorem b__law_refused {K : PySem.W.Frag} {mg : Str → Option Value} {a : Adr} (T : Txt K mg a) : Binds K a._law_refused.fd ["_law_wheel", "_law_many"] [] := T.F__law_refused.binds fun _ _ _ _ _ _ us hl => match us, hl with | [_, _], _ => rfl
end Gh

namespace Gh
open PySem L2
/-! ### neighbours of beat 0, and what their sums tell -/
structure Nbr (n s a x b y : Int) : Prop where
  a1 : 1 ≤ a
  x1 : 1 ≤ x
  b1 : 1 ≤ b
  y1 : 1 ≤ y
  ax : ∃ t, a * s = x + n * t
  yb : ∃ t, b * s + y = n * t
  det : b * x + a * y = n
structure Four (n s m a x b y : Int) : Prop extends Nbr n s a x b y where
  a2 : a < m
  b2 : b < m
  sum : m ≤ a + b
theorem Nbr.n1 {n s a x b y : Int} (F : Nbr n s a x b y) : 1 ≤ n := by
  have h1 := Int.mul_le_mul F.b1 F.x1 (by decide) (by have := F.b1; omega)
  have h2 := Int.mul_le_mul F.a1 F.y1 (by decide) (by have := F.a1; omega)
  have := F.det
  omega
theorem cancel {n p q : Int} (hn : 1 ≤ n) (h : n * p = n * q) : p = q := Int.eq_of_mul_eq_mul_left (by omega) h
theorem Nbr.basis {n s a x b y : Int} (F : Nbr n s a x b y) {k d t : Int} (h : d = k * s + n * t) : ∃ u v, k = u * a - v * b ∧ d = u * x + v * y := by
  obtain ⟨t1, h1⟩ := F.ax
  obtain ⟨t2, h2⟩ := F.yb
  have hd := F.det
  have n1 := F.n1
  refine ⟨k * t2 + t * b, k * t1 + t * a, cancel n1 ?_, cancel n1 ?_⟩
  · have e1 : n * (k * t2 + t * b) = k * y + d * b := by grind
    have e2 : n * (k * t1 + t * a) = d * a - k * x := by grind
    grind
  · have e1 : n * (k * t2 + t * b) = k * y + d * b := by grind
    have e2 : n * (k * t1 + t * a) = d * a - k * x := by grind
    grind
/-- between two first beats i and i + k: how far on -/
theorem Four.gap {n s m a x b y : Int} (F : Four n s m a x b y) {i k d t : Int} (h : d = k * s + n * t) (i0 : 0 ≤ i) (i1 : i < m) (k0 : 0 ≤ i + k) (k1 : i + k < m) (d0 : 0 < d) :
    (i + a < m → x ≤ d ∧ (d = x → k = a)) ∧ (b ≤ i → y ≤ d ∧ (d = y → k = -b)) ∧ (m ≤ i + a → i < b → x + y ≤ d ∧ (d = x + y → k = a - b)) := by
  obtain ⟨u, v, hk, hd⟩ := F.basis h
  have := F.a1; have := F.x1; have := F.b1; have := F.y1; have := F.sum; have := F.a2; have := F.b2
  -- neither u nor v is below 0
  have u0 : 0 ≤ u := by
    apply Decidable.byContradiction
    intro hu
    have v1 : 1 ≤ v := by
      apply Decidable.byContradiction
      intro hv
      have e1 : u * x ≤ -1 * x := Int.mul_le_mul_of_nonneg_right (by omega) (by omega)
      have e2 : v * y ≤ 0 * y := Int.mul_le_mul_of_nonneg_right (by omega) (by omega)
      omega
    have e1 : u * a ≤ -1 * a := Int.mul_le_mul_of_nonneg_right (by omega) (by omega)
    have e2 : 1 * b ≤ v * b := Int.mul_le_mul_of_nonneg_right (by omega) (by omega)
    omega
  have v0 : 0 ≤ v := by
    apply Decidable.byContradiction
    intro hv
    have u1 : 1 ≤ u := by
      apply Decidable.byContradiction
      intro hu
      have e1 : u * x ≤ 0 * x := Int.mul_le_mul_of_nonneg_right (by omega) (by omega)
      have e2 : v * y ≤ -1 * y := Int.mul_le_mul_of_nonneg_right (by omega) (by omega)
      omega
    have e1 : v * b ≤ -1 * b := Int.mul_le_mul_of_nonneg_right (by omega) (by omega)
    have e2 : 1 * a ≤ u * a := Int.mul_le_mul_of_nonneg_right (by omega) (by omega)
    omega
  have xu : u = 0 ∨ u = 1 ∨ 2 ≤ u := by omega
  have yv : v = 0 ∨ v = 1 ∨ 2 ≤ v := by omega
  have ux : 0 ≤ u * x := Int.mul_nonneg u0 (by omega)
  have vy : 0 ≤ v * y := Int.mul_nonneg v0 (by omega)
  have ua : 0 ≤ u * a := Int.mul_nonneg u0 (by omega)
  have vb : 0 ≤ v * b := Int.mul_nonneg v0 (by omega)
  have ux1 : 1 ≤ u → x ≤ u * x := fun h => by have := Int.mul_le_mul_of_nonneg_right h (by omega : 0 ≤ x); omega
  have vy1 : 1 ≤ v → y ≤ v * y := fun h => by have := Int.mul_le_mul_of_nonneg_right h (by omega : 0 ≤ y); omega
  have ua1 : 1 ≤ u → a ≤ u * a := fun h => by have := Int.mul_le_mul_of_nonneg_right h (by omega : 0 ≤ a); omega
  have vb1 : 1 ≤ v → b ≤ v * b := fun h => by have := Int.mul_le_mul_of_nonneg_right h (by omega : 0 ≤ b); omega
  have ux2 : 2 ≤ u → 2 * x ≤ u * x := fun h => Int.mul_le_mul_of_nonneg_right h (by omega : 0 ≤ x)
  have vy2 : 2 ≤ v → 2 * y ≤ v * y := fun h => Int.mul_le_mul_of_nonneg_right h (by omega : 0 ≤ y)
  have ua2 : 2 ≤ u → 2 * a ≤ u * a := fun h => Int.mul_le_mul_of_nonneg_right h (by omega : 0 ≤ a)
  have vb2 : 2 ≤ v → 2 * b ≤ v * b := fun h => Int.mul_le_mul_of_nonneg_right h (by omega : 0 ≤ b)
  rcases xu with rfl | rfl | hu <;> rcases yv with rfl | rfl | hv <;> (try simp only [Int.zero_mul, Int.one_mul] at *) <;> refine ⟨fun _ => ⟨?_, fun _ => ?_⟩, fun _ => ⟨?_, fun _ => ?_⟩, fun _ _ => ⟨?_, fun _ => ?_⟩⟩ <;> omega
structure IsLap (n s l : Int) : Prop where
  l1 : 1 ≤ l
  ln : l ≤ n
  back : ∃ t, l * s = n * t
  least : ∀ k, 0 < k → (∃ t, k * s = n * t) → l ≤ k
theorem Nbr.init {n s : Int} (h0 : 0 < s) (h1 : s < n) : Nbr n s 1 s 1 (n - s) := ⟨by omega, by omega, by omega, by omega, ⟨0, by omega⟩, ⟨1, by omega⟩, by omega⟩
theorem Nbr.ahead {n s a x b y t : Int} (F : Nbr n s a x b y) (t0 : 0 ≤ t) (ht : t * y < x) : Nbr n s (a + t * b) (x - t * y) b y := by
  obtain ⟨t1, h1⟩ := F.ax
  obtain ⟨t2, h2⟩ := F.yb
  have := F.a1; have := F.b1; have := F.y1; have hd := F.det
  have e : 0 ≤ t * b := Int.mul_nonneg t0 (by omega)
  refine ⟨by omega, by omega, F.b1, F.y1, ⟨t1 + t * t2, ?_⟩, ⟨t2, h2⟩, ?_⟩
  · grind
  · grind
theorem Nbr.behind {n s a x b y t : Int} (F : Nbr n s a x b y) (t0 : 0 ≤ t) (ht : t * x < y) : Nbr n s a x (b + t * a) (y - t * x) := by
  obtain ⟨t1, h1⟩ := F.ax
  obtain ⟨t2, h2⟩ := F.yb
  have := F.a1; have := F.b1; have := F.x1; have hd := F.det
  have e : 0 ≤ t * a := Int.mul_nonneg t0 (by omega)
  refine ⟨F.a1, F.x1, by omega, by omega, ⟨t1, h1⟩, ⟨t2 + t * t1, ?_⟩, ?_⟩
  · grind
  · grind
theorem Nbr.ne {n s a x b y l : Int} (F : Nbr n s a x b y) (L : IsLap n s l) (h : a + b < l) : x ≠ y := fun e => by
  obtain ⟨t1, h1⟩ := F.ax
  obtain ⟨t2, h2⟩ := F.yb
  have := F.a1; have := F.b1
  have := L.least (a + b) (by omega) ⟨t1 + t2, by subst e; grind⟩
  omega
theorem Nbr.xn {n s a x b y : Int} (F : Nbr n s a x b y) : x < n ∧ y < n := by
  have h1 : 1 * x ≤ b * x := Int.mul_le_mul_of_nonneg_right F.b1 (by have := F.x1; omega)
  have h2 : 1 * y ≤ a * y := Int.mul_le_mul_of_nonneg_right F.a1 (by have := F.y1; omega)
  have := F.det; have := F.x1; have := F.y1
  omega
/-- how often y goes into x - 1 -/
theorem quot_pred {x y : Int} (hx : 1 ≤ x) (hy : 1 ≤ y) : 0 ≤ (x - 1) / y ∧ (x - 1) / y * y < x ∧ (y < x → 1 ≤ (x - 1) / y) := by
  have d := Int.mul_ediv_add_emod (x - 1) y
  have r0 := Int.emod_nonneg (x - 1) (by omega : y ≠ 0)
  have r1 := Int.emod_lt_of_pos (x - 1) (by omega : 0 < y)
  have q0 := Int.ediv_nonneg (by omega : 0 ≤ x - 1) (by omega : 0 ≤ y)
  rw [Int.mul_comm] at d
  refine ⟨q0, by omega, fun h => ?_⟩
  apply Decidable.byContradiction
  intro z
  have e : (x - 1) / y = 0 := by omega
  rw [e, Int.zero_mul] at d
  omega
/-- how often b goes into what is left of m - 1 behind a -/
theorem quot_left {m a b : Int} (hb : 1 ≤ b) (h : a + b < m) : 1 ≤ (m - 1 - a) / b ∧ a + (m - 1 - a) / b * b < m := by
  have d := Int.mul_ediv_add_emod (m - 1 - a) b
  have r0 := Int.emod_nonneg (m - 1 - a) (by omega : b ≠ 0)
  have r1 := Int.emod_lt_of_pos (m - 1 - a) (by omega : 0 < b)
  have q0 := Int.ediv_nonneg (by omega : 0 ≤ m - 1 - a) (by omega : 0 ≤ b)
  rw [Int.mul_comm] at d
  refine ⟨?_, by omega⟩
  apply Decidable.byContradiction
  intro z
  have e : (m - 1 - a) / b = 0 := by omega
  rw [e, Int.zero_mul] at d
  omega
/-- the lesser of both keeps both bounds -/
theorem times_ok {x y m a b q r t : Int} (hy : 1 ≤ y) (hb : 1 ≤ b) (q1 : 1 ≤ q) (q2 : q * y < x) (r1 : 1 ≤ r) (r2 : a + r * b < m) (ht : t = if r < q then r else q) : 1 ≤ t ∧ t * y < x ∧ a + t * b < m ∧ t ≤ q ∧ t ≤ r := by
  have tq : t ≤ q := by rw [ht]; split <;> omega
  have tr : t ≤ r := by rw [ht]; split <;> omega
  have t1 : 1 ≤ t := by rw [ht]; split <;> omega
  have e1 : t * y ≤ q * y := Int.mul_le_mul_of_nonneg_right tq (by omega)
  have e2 : t * b ≤ r * b := Int.mul_le_mul_of_nonneg_right tr (by omega)
  exact ⟨t1, by omega, by omega, tq, tr⟩
/-- the size by the greatest number that divides it and the step -/
theorem lap_is {n s : Int} (n1 : 1 ≤ n) (s0 : 0 ≤ s) : IsLap n s (n / (Int.gcd n s : Nat)) := by
  have gp : (0 : Int) < ((Int.gcd n s : Nat) : Int) := by
    have := Int.gcd_pos_of_ne_zero_left s (by omega : n ≠ 0)
    omega
  generalize hg : Int.gcd n s = g at gp
  have d1 : (g : Int) ∣ n := hg ▸ Int.gcd_dvd_left ..
  have d2 : (g : Int) ∣ s := hg ▸ Int.gcd_dvd_right ..
  obtain ⟨n', hn⟩ := d1
  obtain ⟨s', hs⟩ := d2
  have e : n / (g : Int) = n' := by rw [hn]; exact Int.mul_ediv_cancel_left _ (by omega)
  have np : 1 ≤ n' := by
    apply Decidable.byContradiction
    intro z
    have : (g : Int) * n' ≤ g * 0 := Int.mul_le_mul_of_nonneg_left (by omega) (by omega)
    omega
  have cop : Int.gcd n' s' = 1 := by
    have h := Int.gcd_mul_left (g : Int) n' s'
    rw [← hn, ← hs, hg] at h
    have h3 : g * 1 = g * Int.gcd n' s' := by simpa using h
    have := Nat.eq_of_mul_eq_mul_left (by omega : 0 < g) h3
    omega
  rw [e]
  refine ⟨np, ?_, ⟨s', ?_⟩, fun k hk ⟨t, ht⟩ => ?_⟩
  · rw [hn]
    have : 1 * n' ≤ (g : Int) * n' := Int.mul_le_mul_of_nonneg_right (by omega) (by omega)
    omega
  · rw [hn, hs]; grind
  · have h1 : k * s' = n' * t := by
      have : (g : Int) * (k * s') = g * (n' * t) := by rw [hn, hs] at ht; grind
      exact Int.eq_of_mul_eq_mul_left (by omega) this
    have h2 : n' ∣ k := by
      have h3 : n'.natAbs ∣ k.natAbs * s'.natAbs := by
        rw [← Int.natAbs_mul]
        exact Int.natAbs_dvd_natAbs.mpr ⟨t, h1⟩
      exact Int.natAbs_dvd_natAbs.mp (Nat.Coprime.dvd_of_dvd_mul_right cop h3)
    exact Int.le_of_dvd hk h2
theorem IsLap.one {n s : Int} (L : IsLap n s 1) (s0 : 0 ≤ s) (s1 : s < n) : s = 0 := by
  obtain ⟨t, h⟩ := L.back
  rw [Int.one_mul] at h
  have hn : 1 ≤ n := L.ln
  rcases (by omega : t ≤ 0 ∨ 1 ≤ t) with z | z
  · have : n * t ≤ n * 0 := Int.mul_le_mul_of_nonneg_left z (by omega)
    omega
  · have : n * 1 ≤ n * t := Int.mul_le_mul_of_nonneg_left z (by omega)
    omega
/-! ### the one after, the one before -/
def goneOn (m b ah bh : Int) : Int := if b + ah < m then b + ah else if bh ≤ b then b - bh else b + ah - bh
theorem Four.unique {n s m a x b y a' x' b' y' : Int} (F : Four n s m a x b y) (G : Four n s m a' x' b' y') : a = a' ∧ x = x' ∧ b = b' ∧ y = y' := by
  have F1 := F.a1; have F2 := F.a2; have F3 := F.b1; have F4 := F.b2; have F5 := F.x1; have F6 := F.y1; have F7 := F.det
  have G1 := G.a1; have G2 := G.a2; have G3 := G.b1; have G4 := G.b2; have G5 := G.x1; have G6 := G.y1; have G7 := G.det
  obtain ⟨t1, h1⟩ := F.ax
  obtain ⟨t2, h2⟩ := G.ax
  have f := (F.gap (i := 0) (k := a') (d := x') (t := -t2) (by rw [Int.mul_neg]; omega) (by omega) (by omega) (by omega) (by omega) (by omega)).1 (by omega)
  have g := (G.gap (i := 0) (k := a) (d := x) (t := -t1) (by rw [Int.mul_neg]; omega) (by omega) (by omega) (by omega) (by omega) (by omega)).1 (by omega)
  have ex : x = x' := by omega
  have ea : a = a' := by have := f.2 ex.symm; omega
  subst ex ea
  have key : ∀ {b b' y y' : Int}, 1 ≤ y → 1 ≤ y' → b * x + a * y = n → b' * x + a * y' = n → b' ≤ b → y' ≤ y → b = b' ∧ y = y' := by
    intro b b' y y' _ _ e1 e2 h1 h2
    have m1 : b' * x ≤ b * x := Int.mul_le_mul_of_nonneg_right h1 (by omega)
    have m2 : a * y' ≤ a * y := Int.mul_le_mul_of_nonneg_left h2 (by omega)
    have z1 : b' * x = b * x := by omega
    have z2 : a * y' = a * y := by omega
    exact ⟨(Int.eq_of_mul_eq_mul_right (by omega) z1).symm, (Int.eq_of_mul_eq_mul_left (by omega) z2).symm⟩
  obtain ⟨u1, k1⟩ := F.yb
  obtain ⟨u2, k2⟩ := G.yb
  rcases (by omega : b' ≤ b ∨ b ≤ b') with c | c
  · have := ((G.gap (i := b) (k := -b) (d := y) (t := u1) (by rw [Int.neg_mul]; omega) (by omega) (by omega) (by omega) (by omega) (by omega)).2.1 c).1
    have := key F6 G6 F7 G7 c this
    exact ⟨rfl, rfl, this.1, this.2⟩
  · have := ((F.gap (i := b') (k := -b') (d := y') (t := u2) (by rw [Int.neg_mul]; omega) (by omega) (by omega) (by omega) (by omega) (by omega)).2.1 c).1
    have := key G6 F6 G7 F7 c this
    exact ⟨rfl, rfl, this.1.symm, this.2.symm⟩
theorem gone_range {m b a' b' : Int} (_a1 : 1 ≤ a') (a2 : a' < m) (b1 : 1 ≤ b') (b2 : b' < m) (sum : m ≤ a' + b') (h0 : 0 ≤ b) (h1 : b < m) : 0 ≤ goneOn m b a' b' ∧ goneOn m b a' b' < m := by
  unfold goneOn
  split
  · omega
  · split <;> omega
/-- how far on the one after stands, and no other one nearer -/
def gapOf (m b a x b' y : Int) : Int := if b + a < m then x else if b' ≤ b then y else x + y
theorem Four.next {n s m a x b y i : Int} (F : Four n s m a x b y) (i0 : 0 ≤ i) (i1 : i < m) : (∃ t, (goneOn m i a b - i) * s = gapOf m i a x b y + n * t) ∧ 1 ≤ gapOf m i a x b y ∧
    ∀ j d t, 0 ≤ j → j < m → 0 < d → d = (j - i) * s + n * t → gapOf m i a x b y ≤ d ∧ (d = gapOf m i a x b y → j = goneOn m i a b) := by
  have := F.x1; have := F.y1; have := F.sum; have := F.a1; have := F.b1; have := F.a2; have := F.b2
  obtain ⟨t1, h1⟩ := F.ax
  obtain ⟨t2, h2⟩ := F.yb
  refine ⟨?_, ?_, fun j d t j0 j1 d0 h => ?_⟩
  · unfold goneOn gapOf
    split
    · exact ⟨t1, by rw [show i + a - i = a by omega]; exact h1⟩
    · split
      · exact ⟨-t2, by rw [show i - b - i = -b by omega, Int.neg_mul, Int.mul_neg]; omega⟩
      · exact ⟨t1 - t2, by rw [show i + a - b - i = a - b by omega, Int.sub_mul, Int.mul_sub]; omega⟩
  · unfold gapOf
    split
    · omega
    · split <;> omega
  · have g := F.gap (i := i) (k := j - i) (d := d) (t := t) h i0 i1 (by omega) (by omega) d0
    unfold goneOn gapOf
    split
    · next c => have := g.1 c; exact ⟨this.1, fun e => by have := this.2 e; omega⟩
    · next c =>
      split
      · next c2 => have := g.2.1 c2; exact ⟨this.1, fun e => by have := this.2 e; omega⟩
      · next c2 => have := g.2.2 (by omega) (by omega); exact ⟨this.1, fun e => by have := this.2 e; omega⟩
/-- places all unlike, sorted: the one after stands behind in the row, the last one's is the first -/
theorem Four.sortedRow {n s m a x b y : Int} (F : Four n s m a x b y) {P : Int → Int} (hP : ∀ k, ∃ t, P k = k * s + n * t) (P0 : ∀ k, 0 ≤ P k) (P1 : ∀ k, P k < n) {pm : List Nat} (hp : pm.Perm (List.range m.toNat))
    (asc : ∀ i, 1 ≤ i → i < m.toNat → P (pm.getD (i - 1) 0) < P (pm.getD i 0)) (k : Nat) (hk : k < m.toNat) : goneOn m (pm.getD k 0) a b = pm.getD ((k + 1) % m.toNat) 0 := by
  have m2 : 2 ≤ m := by have := F.a1; have := F.a2; omega
  have len : pm.length = m.toNat := by rw [hp.length_eq, List.length_range]
  have rng : ∀ i, i < m.toNat → pm.getD i 0 < m.toNat := fun i hi => by
    have : pm.getD i 0 ∈ pm := by simp [List.getD, len, hi]
    have := hp.mem_iff.mp this
    simpa using this
  have mono : ∀ (d i : Nat), i + d < m.toNat → 0 < d → P (pm.getD i 0) < P (pm.getD (i + d) 0) := by
    intro d
    induction d with
    | zero => intro i _ h; omega
    | succ d ih =>
      intro i h1 _
      have s1 := asc (i + (d + 1)) (by omega) h1
      rw [show i + (d + 1) - 1 = i + d by omega] at s1
      rcases (by omega : d = 0 ∨ 0 < d) with e | e
      · subst e; exact s1
      · have := ih i (by omega) e; omega
  have lt : ∀ i j, i < j → j < m.toNat → P (pm.getD i 0) < P (pm.getD j 0) := fun i j h1 h2 => by
    have := mono (j - i) i (by omega) (by omega)
    rwa [show i + (j - i) = j by omega] at this
  -- the one after, as it stands in the row
  have r := gone_range (b := (pm.getD k 0 : Nat)) F.a1 F.a2 F.b1 F.b2 F.sum (by omega) (by have := rng k hk; omega)
  obtain ⟨⟨t0, e0⟩, g1, nx⟩ := F.next (i := (pm.getD k 0 : Nat)) (by omega) (by have := rng k hk; omega)
  obtain ⟨t, ht, et⟩ : ∃ t, t < m.toNat ∧ ((pm.getD t 0 : Nat) : Int) = goneOn m (pm.getD k 0) a b := by
    have : (goneOn m (pm.getD k 0) a b).toNat ∈ pm := hp.mem_iff.mpr (List.mem_range.mpr (by omega))
    obtain ⟨t, h1, h2⟩ := List.getElem_of_mem this
    have h3 : pm.getD t 0 = pm[t] := by simp [List.getD, h1]
    exact ⟨t, by omega, by rw [h3, h2]; omega⟩
  generalize goneOn m (pm.getD k 0) a b = rr at *
  generalize gapOf m (pm.getD k 0) a x b y = gp at *
  obtain ⟨tk, hk2⟩ := hP (pm.getD k 0 : Nat)
  obtain ⟨tt, ht2⟩ := hP rr
  have tne : t ≠ k := fun e => by
    subst e
    rw [← et, Int.sub_self, Int.zero_mul] at e0
    -- a gap of a multiple of the size: none is nearer than another beat's
    have q := nx ((pm.getD ((t + 1) % m.toNat) 0 : Nat) : Int)
    have z : n * (-t0) = gp := by rw [Int.mul_neg]; omega
    -- another beat
    have hm1 : (t + 1) % m.toNat < m.toNat := Nat.mod_lt _ (by omega)
    have hne : (t + 1) % m.toNat ≠ t := by
      rcases (by omega : t + 1 < m.toNat ∨ t + 1 = m.toNat) with c | c
      · rw [Nat.mod_eq_of_lt c]; omega
      · rw [c, Nat.mod_self]; omega
    obtain ⟨tu, hu⟩ := hP ((pm.getD ((t + 1) % m.toNat) 0 : Nat) : Int)
    have a0 := P0 ((pm.getD ((t + 1) % m.toNat) 0 : Nat) : Int); have a1 := P1 ((pm.getD ((t + 1) % m.toNat) 0 : Nat) : Int)
    have b0 := P0 ((pm.getD t 0 : Nat) : Int); have b1 := P1 ((pm.getD t 0 : Nat) : Int)
    have r1 := rng _ hm1
    have n1 : 1 ≤ n := by omega
    have tp : 1 ≤ -t0 := by
      apply Decidable.byContradiction
      intro c
      have : n * (-t0) ≤ n * 0 := Int.mul_le_mul_of_nonneg_left (by omega) (by omega)
      omega
    have big : n * 1 ≤ n * (-t0) := Int.mul_le_mul_of_nonneg_left tp (by omega)
    rcases (by omega : (t + 1) % m.toNat < t ∨ t < (t + 1) % m.toNat) with c | c
    · have := lt _ _ c hk
      have := (q (P ((pm.getD ((t + 1) % m.toNat) 0 : Nat) : Int) - P ((pm.getD t 0 : Nat) : Int) + n) (tu - tk + 1) (by omega) (by omega) (by omega) (by rw [hu, hk2, Int.sub_mul, Int.mul_add, Int.mul_sub]; omega)).1
      omega
    · have := lt _ _ c hm1
      have := (q (P ((pm.getD ((t + 1) % m.toNat) 0 : Nat) : Int) - P ((pm.getD t 0 : Nat) : Int)) (tu - tk) (by omega) (by omega) (by omega) (by rw [hu, hk2, Int.sub_mul, Int.mul_sub]; omega)).1
      omega
  obtain ⟨j, hj, hm1, jc⟩ : ∃ j, (k + 1) % m.toNat = j ∧ j < m.toNat ∧ ((k + 1 < m.toNat ∧ j = k + 1) ∨ (k + 1 = m.toNat ∧ j = 0)) := by
    refine ⟨_, rfl, Nat.mod_lt _ (by omega), ?_⟩
    rcases (by omega : k + 1 < m.toNat ∨ k + 1 = m.toNat) with c | c
    · exact .inl ⟨c, Nat.mod_eq_of_lt c⟩
    · exact .inr ⟨c, by rw [c, Nat.mod_self]⟩
  rw [hj]
  clear hj
  obtain ⟨tu, hu⟩ := hP ((pm.getD j 0 : Nat) : Int)
  have a0 := P0 ((pm.getD j 0 : Nat) : Int); have a1 := P1 ((pm.getD j 0 : Nat) : Int)
  have b0 := P0 ((pm.getD k 0 : Nat) : Int); have b1 := P1 ((pm.getD k 0 : Nat) : Int)
  have c0 := P0 rr; have c1 := P1 rr
  have r1 := rng _ hm1
  have q := nx ((pm.getD j 0 : Nat) : Int)
  have q2 := nx rr
  -- from a distance of the next in the row and one of the one after
  have fin : ∀ (d d' : Int) (z u v : Int), 0 < d → d ≤ d' → d' < n → d = (((pm.getD j 0 : Nat) : Int) - ((pm.getD k 0 : Nat) : Int)) * s + n * z → d' = (rr - ((pm.getD k 0 : Nat) : Int)) * s + n * u → rr = ((pm.getD j 0 : Nat) : Int) := by
    intro d d' z u v d0 dd dn e1 e2
    have g := q d z (by omega) (by omega) d0 e1
    have e3 : d' = gp + n * (t0 + u) := by rw [Int.mul_add]; omega
    have z0 : t0 + u = 0 := by
      rcases (by omega : t0 + u ≤ -1 ∨ t0 + u = 0 ∨ 1 ≤ t0 + u) with c | c | c
      · have : n * (t0 + u) ≤ n * (-1) := Int.mul_le_mul_of_nonneg_left c (by omega)
        omega
      · exact c
      · have : n * 1 ≤ n * (t0 + u) := Int.mul_le_mul_of_nonneg_left c (by omega)
        omega
    rw [z0, Int.mul_zero] at e3
    exact (g.2 (by omega)).symm
  have ett : P rr = P ((pm.getD t 0 : Nat) : Int) := by rw [et]
  rcases jc with ⟨c, rfl⟩ | ⟨c, rfl⟩
  · have l1 := lt k (k + 1) (by omega) c
    rcases (by omega : t < k ∨ t = k + 1 ∨ k + 1 < t) with d | d | d
    · have l2 := lt t k d hk
      exact fin (P ((pm.getD (k + 1) 0 : Nat) : Int) - P ((pm.getD k 0 : Nat) : Int)) (P rr - P ((pm.getD k 0 : Nat) : Int) + n) (tu - tk) (tt - tk + 1) 0 (by omega) (by omega) (by omega) (by rw [hu, hk2, Int.sub_mul, Int.mul_sub]; omega) (by rw [ht2, hk2, Int.sub_mul, Int.mul_add, Int.mul_sub]; omega)
    · rw [← et, d]
    · have l2 := lt (k + 1) t d ht
      exact fin (P ((pm.getD (k + 1) 0 : Nat) : Int) - P ((pm.getD k 0 : Nat) : Int)) (P rr - P ((pm.getD k 0 : Nat) : Int)) (tu - tk) (tt - tk) 0 (by omega) (by omega) (by omega) (by rw [hu, hk2, Int.sub_mul, Int.mul_sub]; omega) (by rw [ht2, hk2, Int.sub_mul, Int.mul_sub]; omega)
  · have l0 := lt 0 k (by omega) hk
    have l2 := lt t k (by omega) hk
    rcases (by omega : t = 0 ∨ 0 < t) with d | d
    · rw [← et, d]
    · have l1 := lt 0 t d ht
      exact fin (P ((pm.getD 0 0 : Nat) : Int) - P ((pm.getD k 0 : Nat) : Int) + n) (P rr - P ((pm.getD k 0 : Nat) : Int) + n) (tu - tk + 1) (tt - tk + 1) 0 (by omega) (by omega) (by omega) (by rw [hu, hk2, Int.sub_mul, Int.mul_add, Int.mul_sub]; omega) (by rw [ht2, hk2, Int.sub_mul, Int.mul_add, Int.mul_sub]; omega)
/-! ### tables of numbers by numbers -/
def cntD : List (Int × Int) → Int → Int
  | [], _ => 0
  | p :: r, w => if p.1 = w then p.2 else cntD r w
def putI (kvs : List (Int × Int)) (w c : Int) : List (Int × Int) :=
  if (kvs.any fun p => decide (p.1 = w)) = true then kvs.map (fun p => if p.1 = w then (p.1, c) else p) else kvs ++ [(w, c)]
theorem cnt_no {w : Int} : ∀ {kvs : List (Int × Int)}, (kvs.any fun p => decide (p.1 = w)) = false → cntD kvs w = 0
  | [], _ => rfl
  | p :: r, h => by
    rw [List.any_cons, Bool.or_eq_false_iff] at h
    have : ¬ p.1 = w := by simpa using h.1
    unfold cntD
    rw [if_neg this, cnt_no h.2]
theorem cnt_app {v w c : Int} : ∀ {kvs : List (Int × Int)}, (kvs.any fun p => decide (p.1 = w)) = false → cntD (kvs ++ [(w, c)]) v = if v = w then c else cntD kvs v
  | [], _ => by
    show (if w = v then c else 0) = _
    by_cases e : v = w
    · rw [if_pos e, if_pos e.symm]
    · rw [if_neg e, if_neg (fun z => e z.symm)]; rfl
  | p :: r, h => by
    rw [List.any_cons, Bool.or_eq_false_iff] at h
    have n : ¬ p.1 = w := by simpa using h.1
    show (if p.1 = v then p.2 else cntD (r ++ [(w, c)]) v) = _
    rw [cnt_app h.2]
    by_cases e : v = w
    · rw [if_pos e, if_pos e, if_neg (fun z => n (z.trans e))]
    · rw [if_neg e, if_neg e]; rfl
theorem cnt_map {v w c : Int} : ∀ {kvs : List (Int × Int)}, cntD (kvs.map fun p => if p.1 = w then (p.1, c) else p) v = if v = w ∧ (kvs.any fun p => decide (p.1 = w)) = true then c else cntD kvs v
  | [] => by simp [cntD]
  | p :: r => by
    rw [List.map_cons]
    show (if (if p.1 = w then (p.1, c) else p).1 = v then (if p.1 = w then (p.1, c) else p).2 else cntD (r.map fun p => if p.1 = w then (p.1, c) else p) v) = _
    rw [cnt_map, List.any_cons]
    have e0 : cntD (p :: r) v = if p.1 = v then p.2 else cntD r v := rfl
    rw [e0]
    by_cases a : p.1 = w
    · by_cases b : v = w
      · simp [a, b]
      · have n : ¬ w = v := fun z => b z.symm
        simp [a, b, n]
    · by_cases b : v = w
      · subst b
        rw [if_neg a, decide_eq_false a, Bool.false_or, if_neg a]
        simp [a]
      · simp [a, b]
theorem cnt_put {kvs : List (Int × Int)} {w c v : Int} : cntD (putI kvs w c) v = if v = w then c else cntD kvs v := by
  unfold putI
  cases e : (kvs.any fun p => decide (p.1 = w)) with
  | true =>
    simp only [if_true]
    rw [cnt_map, e]
    by_cases b : v = w <;> simp [b]
  | false =>
    simp only [Bool.false_eq_true, if_false]
    exact cnt_app e
/-- no key twice, all counts from one on -/
structure GoodD (kvs : List (Int × Int)) : Prop where
  nd : (kvs.map (·.1)).Nodup
  pos : ∀ p ∈ kvs, 1 ≤ p.2
theorem GoodD.nil : GoodD [] := ⟨List.nodup_nil, fun _ h => by simp at h⟩
theorem GoodD.put {kvs : List (Int × Int)} (G : GoodD kvs) {w c : Int} (hc : 1 ≤ c) : GoodD (putI kvs w c) := by
  unfold putI
  cases e : (kvs.any fun p => decide (p.1 = w)) with
  | true =>
    simp only [if_true]
    refine ⟨?_, fun p hp => ?_⟩
    · have : (kvs.map fun p => if p.1 = w then (p.1, c) else p).map (·.1) = kvs.map (·.1) := by
        rw [List.map_map]
        refine List.map_congr_left fun p _ => ?_
        show (if p.1 = w then (p.1, c) else p).1 = p.1
        split <;> rfl
      rw [this]; exact G.nd
    · obtain ⟨q, hq, rfl⟩ := List.mem_map.mp hp
      split
      · exact hc
      · exact G.pos q hq
  | false =>
    simp only [Bool.false_eq_true, if_false]
    refine ⟨?_, fun p hp => ?_⟩
    · rw [List.map_append, List.nodup_append]
      refine ⟨G.nd, by simp, fun a ha b hb => ?_⟩
      obtain ⟨q, hq, rfl⟩ := List.mem_map.mp ha
      have hb : b = w := by simpa using hb
      subst hb
      have := List.any_eq_false.mp e q hq
      simpa using this
    · rcases List.mem_append.mp hp with h | h
      · exact G.pos p h
      · have : p = (w, c) := by simpa using h
        subst this; exact hc
theorem putI_len (kvs : List (Int × Int)) (w c : Int) : (putI kvs w c).length ≤ kvs.length + 1 := by
  unfold putI
  split <;> simp
theorem cnt_mem : ∀ {kvs : List (Int × Int)}, GoodD kvs → ∀ {w c : Int}, (w, c) ∈ kvs ↔ cntD kvs w = c ∧ 1 ≤ c
  | [], _, w, c => by simp [cntD]; omega
  | p :: r, G, w, c => by
    have nd := G.nd
    rw [List.map_cons, List.nodup_cons] at nd
    have Gr : GoodD r := ⟨nd.2, fun q hq => G.pos q (List.mem_cons_of_mem _ hq)⟩
    have ih := cnt_mem Gr (w := w) (c := c)
    unfold cntD
    constructor
    · intro h
      rcases List.mem_cons.mp h with h | h
      · subst h
        rw [if_pos rfl]
        exact ⟨rfl, G.pos _ List.mem_cons_self⟩
      · have : ¬ p.1 = w := fun e => nd.1 (e ▸ List.mem_map.mpr ⟨_, h, rfl⟩)
        rw [if_neg this]
        exact ih.mp h
    · intro ⟨h1, h2⟩
      by_cases e : p.1 = w
      · rw [if_pos e] at h1
        exact List.mem_cons.mpr (.inl (by rw [← e, ← h1]))
      · rw [if_neg e] at h1
        exact List.mem_cons_of_mem _ (ih.mpr ⟨h1, h2⟩)
def AscP (l : List (Int × Int)) : Prop := l.Pairwise fun p q => p.1 < q.1
theorem asc_ext : ∀ {l1 l2 : List (Int × Int)}, AscP l1 → AscP l2 → (∀ p, p ∈ l1 ↔ p ∈ l2) → l1 = l2
  | [], [], _, _, _ => rfl
  | [], b :: l, _, _, h => by have := (h b).mpr List.mem_cons_self; simp at this
  | a :: l, [], _, _, h => by have := (h a).mp List.mem_cons_self; simp at this
  | a :: l1, b :: l2, h1, h2, h => by
    obtain ⟨a1, a2⟩ := List.pairwise_cons.mp h1
    obtain ⟨b1, b2⟩ := List.pairwise_cons.mp h2
    have e : a = b := by
      rcases List.mem_cons.mp ((h a).mp List.mem_cons_self) with e | e
      · exact e
      · rcases List.mem_cons.mp ((h b).mpr List.mem_cons_self) with e' | e'
        · exact e'.symm
        · have := b1 a e; have := a1 b e'; omega
    subst e
    rw [asc_ext a2 b2 fun p => ?_]
    constructor
    · intro hp
      rcases List.mem_cons.mp ((h p).mp (List.mem_cons_of_mem _ hp)) with e | e
      · subst e; have := a1 p hp; omega
      · exact e
    · intro hp
      rcases List.mem_cons.mp ((h p).mpr (List.mem_cons_of_mem _ hp)) with e | e
      · subst e; have := b1 p hp; omega
      · exact e
/-- two tables with the same counts, each sorted: one row -/
theorem same_rows {k1 k2 l1 l2 : List (Int × Int)} (G1 : GoodD k1) (G2 : GoodD k2) (h : ∀ w, cntD k1 w = cntD k2 w) (p1 : l1.Perm k1) (p2 : l2.Perm k2) (a1 : AscP l1) (a2 : AscP l2) : l1 = l2 := by
  refine asc_ext a1 a2 fun p => ?_
  rw [p1.mem_iff, p2.mem_iff]
  obtain ⟨w, c⟩ := p
  rw [cnt_mem G1, cnt_mem G2, h]
/-! ### the table of the gaps -/
def gapsD (m a x b y : Int) : List (Int × Int) :=
  let k1 := putI [(x, m - a)] y (cntD [(x, m - a)] y + m - b)
  if m < a + b then putI k1 (x + y) (a + b - m) else k1
theorem gapsD_good {m a x b y : Int} (a2 : a < m) (b2 : b < m) : GoodD (gapsD m a x b y) := by
  have g0 : GoodD [(x, m - a)] := ⟨by simp, fun p hp => by simp at hp; subst hp; show 1 ≤ m - a; omega⟩
  have c0 : 0 ≤ cntD [(x, m - a)] y := by
    show 0 ≤ if x = y then m - a else 0
    split <;> omega
  have g1 := g0.put (w := y) (c := cntD [(x, m - a)] y + m - b) (by omega)
  unfold gapsD
  dsimp only
  split
  · exact g1.put (by omega)
  · exact g1
theorem gapsD_cnt {m a x b y w : Int} (x1 : 1 ≤ x) (y1 : 1 ≤ y) (sum : m ≤ a + b) : cntD (gapsD m a x b y) w = (if w = x then m - a else 0) + (if w = y then m - b else 0) + (if w = x + y then a + b - m else 0) := by
  have c1 : ∀ v, cntD [(x, m - a)] v = if v = x then m - a else 0 := fun v => by
    show (if x = v then m - a else 0) = _
    by_cases e : v = x
    · rw [if_pos e, if_pos e.symm]
    · rw [if_neg e, if_neg (fun z => e z.symm)]
  unfold gapsD
  dsimp only
  split
  · rw [cnt_put, cnt_put, c1, c1]
    (repeat' split) <;> omega
  · rw [cnt_put, c1, c1]
    (repeat' split) <;> omega
theorem gapsD_len (m a x b y : Int) : 1 ≤ (gapsD m a x b y).length ∧ (gapsD m a x b y).length ≤ 3 := by
  have one : ∀ (k : List (Int × Int)) (w c : Int), 1 ≤ (putI k w c).length := fun k w c => by
    unfold putI
    split
    · next h =>
      rw [List.length_map]
      cases k with
      | nil => simp at h
      | cons p r => simp
    · simp
  unfold gapsD
  dsimp only
  have l1 := putI_len [(x, m - a)] y (cntD [(x, m - a)] y + m - b)
  split
  · exact ⟨one _ _ _, Nat.le_trans (putI_len _ _ _) (by simp at l1; omega)⟩
  · exact ⟨one _ _ _, Nat.le_trans l1 (by show 1 + 1 ≤ 3; decide)⟩
/-! ### counting -/
theorem perm_map_inv {α β : Type} {f : α → β} {p q : List β} (h : p.Perm q) : ∀ l : List α, l.map f = p → ∃ l' : List α, l'.Perm l ∧ l'.map f = q := by
  induction h with
  | nil => exact fun l e => ⟨l, List.Perm.refl _, e⟩
  | cons x _ ih =>
    intro l e
    cases l with
    | nil => cases e
    | cons c l =>
      rw [List.map_cons] at e
      injection e with e1 e2
      obtain ⟨l', h1, h2⟩ := ih l e2
      exact ⟨c :: l', h1.cons _, by rw [List.map_cons, e1, h2]⟩
  | swap x y r =>
    intro l e
    match l, e with
    | c :: d :: l, e =>
      simp only [List.map_cons, List.cons.injEq] at e
      exact ⟨d :: c :: l, List.Perm.swap _ _ _, by simp only [List.map_cons]; rw [e.1, e.2.1, e.2.2]⟩
  | trans _ _ ih1 ih2 =>
    intro l e
    obtain ⟨l1, h1, e1⟩ := ih1 l e
    obtain ⟨l2, h2, e2⟩ := ih2 l1 e1
    exact ⟨l2, h2.trans h1, e2⟩
def bkN (M k : Nat) : Nat := if k = 0 then M - 1 else k - 1
theorem bk_perm : ∀ M : Nat, ((List.range M).map (bkN M)).Perm (List.range M)
  | 0 => List.Perm.refl _
  | M + 1 => by
    have e : (List.range (M + 1)).map (bkN (M + 1)) = M :: List.range M := by
      rw [List.range_succ_eq_map, List.map_cons, List.map_map]
      have : List.map (bkN (M + 1) ∘ Nat.succ) (List.range M) = List.range M := by
        rw [show (bkN (M + 1) ∘ Nat.succ) = id from funext fun k => by simp [bkN]]
        simp
      rw [this]; rfl
    rw [e, List.range_succ]
    exact (List.perm_append_comm (l₁ := [M]) (l₂ := List.range M))
theorem gap_blocks {m a x b y : Int} (a1 : 1 ≤ a) (a2 : a < m) (_b1 : 1 ≤ b) (b2 : b < m) (sum : m ≤ a + b) :
    (List.range m.toNat).map (fun i : Nat => gapOf m (i : Int) a x b y) = List.replicate (m - a).toNat x ++ (List.replicate (a + b - m).toNat (x + y) ++ List.replicate (m - b).toNat y) := by
  apply List.ext_getElem
  · simp; omega
  · intro i h1 h2
    have h1 : i < m.toNat := by simpa using h1
    rw [List.getElem_map, List.getElem_range]
    unfold gapOf
    by_cases c1 : (i : Int) + a < m
    · rw [if_pos c1, List.getElem_append_left (by simp; omega)]; simp
    · by_cases c2 : b ≤ (i : Int)
      · rw [if_neg c1, if_pos c2, List.getElem_append_right (by simp; omega), List.getElem_append_right (by simp; omega)]; simp
      · rw [if_neg c1, if_neg c2, List.getElem_append_right (by simp; omega), List.getElem_append_left (by simp; omega)]; simp
theorem gap_count {m a x b y : Int} (a1 : 1 ≤ a) (a2 : a < m) (b1 : 1 ≤ b) (b2 : b < m) (sum : m ≤ a + b) (x1 : 1 ≤ x) (y1 : 1 ≤ y) (w : Int) :
    (((List.range m.toNat).map (fun i : Nat => gapOf m (i : Int) a x b y)).count w : Int) = cntD (gapsD m a x b y) w := by
  rw [gap_blocks a1 a2 b1 b2 sum, gapsD_cnt x1 y1 sum, List.count_append, List.count_append, List.count_replicate, List.count_replicate, List.count_replicate]
  simp only [beq_iff_eq, Int.natCast_add]
  by_cases e1 : w = x
  · by_cases e2 : w = y
    · by_cases e3 : w = x + y
      · omega
      · rw [if_pos e1.symm, if_neg (fun z => e3 z.symm), if_pos e2.symm, if_pos e1, if_pos e2, if_neg e3]; omega
    · by_cases e3 : w = x + y
      · omega
      · rw [if_pos e1.symm, if_neg (fun z => e3 z.symm), if_neg (fun z => e2 z.symm), if_pos e1, if_neg e2, if_neg e3]; omega
  · by_cases e2 : w = y
    · by_cases e3 : w = x + y
      · omega
      · rw [if_neg (fun z => e1 z.symm), if_neg (fun z => e3 z.symm), if_pos e2.symm, if_neg e1, if_pos e2, if_neg e3]; omega
    · by_cases e3 : w = x + y
      · rw [if_neg (fun z => e1 z.symm), if_pos e3.symm, if_neg (fun z => e2 z.symm), if_neg e1, if_neg e2, if_pos e3]; omega
      · rw [if_neg (fun z => e1 z.symm), if_neg (fun z => e3 z.symm), if_neg (fun z => e2 z.symm), if_neg e1, if_neg e2, if_neg e3]; omega
theorem asc_lt {P : Int → Int} {pm : List Nat} {M : Nat} (asc : ∀ i, 1 ≤ i → i < M → P (pm.getD (i - 1) 0) < P (pm.getD i 0)) : ∀ (d i : Nat), i + d < M → 0 < d → P (pm.getD i 0) < P (pm.getD (i + d) 0) := by
  intro d
  induction d with
  | zero => intro i _ h; omega
  | succ d ih =>
    intro i h1 _
    have s1 := asc (i + (d + 1)) (by omega) h1
    rw [show i + (d + 1) - 1 = i + d by omega] at s1
    rcases (by omega : d = 0 ∨ 0 < d) with e | e
    · subst e; exact s1
    · have := ih i (by omega) e; omega
theorem Four.width {n s m a x b y : Int} (F : Four n s m a x b y) {P : Int → Int} (hP : ∀ k, ∃ t, P k = k * s + n * t) (P0 : ∀ k, 0 ≤ P k) (P1 : ∀ k, P k < n) {pm : List Nat} (hp : pm.Perm (List.range m.toNat))
    (asc : ∀ i, 1 ≤ i → i < m.toNat → P (pm.getD (i - 1) 0) < P (pm.getD i 0)) (k : Nat) (hk : k < m.toNat) : P (pm.getD k 0) - P (pm.getD (bkN m.toNat k) 0) + (if k = 0 then n else 0) = gapOf m (pm.getD (bkN m.toNat k) 0) a x b y := by
  have m2 : 2 ≤ m := by have := F.a1; have := F.a2; omega
  have len : pm.length = m.toNat := by rw [hp.length_eq, List.length_range]
  have rng : ∀ i, i < m.toNat → pm.getD i 0 < m.toNat := fun i hi => by
    have : pm.getD i 0 ∈ pm := by simp [List.getD, len, hi]
    have := hp.mem_iff.mp this
    simpa using this
  have j1 : bkN m.toNat k < m.toNat := by unfold bkN; split <;> omega
  have j2 : (bkN m.toNat k + 1) % m.toNat = k := by
    unfold bkN
    split
    · next e => rw [e, show m.toNat - 1 + 1 = m.toNat by omega, Nat.mod_self]
    · rw [show k - 1 + 1 = k by omega, Nat.mod_eq_of_lt hk]
  have row := F.sortedRow hP P0 P1 hp asc (bkN m.toNat k) j1
  rw [j2] at row
  have rj := rng _ j1
  have rk := rng _ hk
  obtain ⟨⟨t0, e0⟩, g1, nx⟩ := F.next (i := (pm.getD (bkN m.toNat k) 0 : Nat)) (by omega) (by omega)
  rw [row] at e0
  obtain ⟨tk, hk2⟩ := hP (pm.getD k 0 : Nat)
  obtain ⟨tj, hj2⟩ := hP (pm.getD (bkN m.toNat k) 0 : Nat)
  have a0 := P0 (pm.getD k 0 : Nat); have a1 := P1 (pm.getD k 0 : Nat)
  have b0 := P0 (pm.getD (bkN m.toNat k) 0 : Nat); have b1 := P1 (pm.getD (bkN m.toNat k) 0 : Nat)
  obtain ⟨z, hz, d0, d1⟩ : ∃ z : Int, (if k = 0 then n else 0) = n * z ∧ 0 < P (pm.getD k 0) - P (pm.getD (bkN m.toNat k) 0) + n * z ∧ P (pm.getD k 0) - P (pm.getD (bkN m.toNat k) 0) + n * z < n := by
    by_cases c : k = 0
    · refine ⟨1, by rw [if_pos c, Int.mul_one], ?_⟩
      have e : bkN m.toNat k = m.toNat - 1 := by unfold bkN; rw [if_pos c]
      have := asc_lt asc (m.toNat - 1) 0 (by omega) (by omega)
      have ek : pm.getD k 0 = pm.getD 0 0 := by rw [c]
      rw [Nat.zero_add, ← e, ← ek] at this
      rw [Int.mul_one]; omega
    · refine ⟨0, by rw [if_neg c, Int.mul_zero], ?_⟩
      have e : bkN m.toNat k = k - 1 := by unfold bkN; rw [if_neg c]
      have := asc k (by omega) hk
      rw [e] at b0 b1 ⊢
      rw [Int.mul_zero]; omega
  rw [hz]
  have g := (nx (pm.getD k 0 : Nat) (P (pm.getD k 0) - P (pm.getD (bkN m.toNat k) 0) + n * z) (tk - tj + z) (by omega) (by omega) d0 (by rw [hk2, hj2, Int.sub_mul, Int.mul_add, Int.mul_sub]; omega)).1
  have e3 : P (pm.getD k 0) - P (pm.getD (bkN m.toNat k) 0) + n * z = gapOf m (pm.getD (bkN m.toNat k) 0) a x b y + n * (t0 + (tk - tj + z)) := by
    rw [hk2, hj2, Int.mul_add, Int.mul_add, Int.mul_sub]
    rw [Int.sub_mul] at e0
    omega
  generalize gapOf m (pm.getD (bkN m.toNat k) 0) a x b y = gp at *
  have z0 : t0 + (tk - tj + z) = 0 := by
    rcases (by omega : t0 + (tk - tj + z) ≤ -1 ∨ t0 + (tk - tj + z) = 0 ∨ 1 ≤ t0 + (tk - tj + z)) with c | c | c
    · have : n * (t0 + (tk - tj + z)) ≤ n * (-1) := Int.mul_le_mul_of_nonneg_left c (by omega)
      omega
    · exact c
    · have : n * 1 ≤ n * (t0 + (tk - tj + z)) := Int.mul_le_mul_of_nonneg_left c (by omega)
      omega
  rw [z0, Int.mul_zero] at e3
  omega
/-- the widths in the row of the places, counted -/
theorem Four.counted {n s m a x b y : Int} (F : Four n s m a x b y) {P : Int → Int} (hP : ∀ k, ∃ t, P k = k * s + n * t) (P0 : ∀ k, 0 ≤ P k) (P1 : ∀ k, P k < n) {ns : List Int} (pw : ns.Pairwise (· ≤ ·)) (hp : ns.Perm ((List.range m.toNat).map fun k : Nat => P (k : Int)))
    (inj : ∀ i j : Nat, i < j → j < m.toNat → P i ≠ P j) (w : Int) :
    (((List.range m.toNat).map fun k => ns.getD k 0 - ns.getD (bkN m.toNat k) 0 + (if k = 0 then n else 0)).count w : Int) = cntD (gapsD m a x b y) w := by
  obtain ⟨pm, hpm, rfl⟩ := perm_map_inv hp.symm (List.range m.toNat) rfl
  have len : pm.length = m.toNat := by rw [hpm.length_eq, List.length_range]
  have gd : ∀ i, i < m.toNat → (pm.map fun k : Nat => P (k : Int)).getD i 0 = P ((pm.getD i 0 : Nat) : Int) := fun i hi => by simp [List.getD, len, hi]
  have rng : ∀ i, i < m.toNat → pm.getD i 0 < m.toNat := fun i hi => by
    have : pm.getD i 0 ∈ pm := by simp [List.getD, len, hi]
    have := hpm.mem_iff.mp this
    simpa using this
  have nd : pm.Nodup := hpm.nodup_iff.mpr List.nodup_range
  have asc : ∀ i, 1 ≤ i → i < m.toNat → P ((pm.getD (i - 1) 0 : Nat) : Int) < P ((pm.getD i 0 : Nat) : Int) := fun i h1 h2 => by
    have p := List.pairwise_iff_getElem.mp pw (i - 1) i (by simp [len]; omega) (by simp [len]; omega) (by omega)
    have q := List.pairwise_iff_getElem.mp nd (i - 1) i (by omega) (by omega) (by omega)
    simp only [List.getElem_map] at p
    have e1 : pm.getD (i - 1) 0 = pm[i - 1]'(by omega) := by simp [List.getD, show i - 1 < pm.length by omega]
    have e2 : pm.getD i 0 = pm[i]'(by omega) := by simp [List.getD, show i < pm.length by omega]
    rw [e1, e2]
    have r1 := rng (i - 1) (by omega); have r2 := rng i h2
    rw [e1] at r1; rw [e2] at r2
    have ne : P ((pm[i - 1]'(by omega) : Nat) : Int) ≠ P ((pm[i]'(by omega) : Nat) : Int) := by
      rcases Nat.lt_or_gt_of_ne q with c | c
      · exact inj _ _ c r2
      · exact (inj _ _ c r1).symm
    omega
  have e : ((List.range m.toNat).map fun k => (pm.map fun k : Nat => P (k : Int)).getD k 0 - (pm.map fun k : Nat => P (k : Int)).getD (bkN m.toNat k) 0 + (if k = 0 then n else 0)) = (((List.range m.toNat).map (bkN m.toNat)).map fun j => pm.getD j 0).map fun i : Nat => gapOf m (i : Int) a x b y := by
    rw [List.map_map, List.map_map]
    refine List.map_congr_left fun k hk => ?_
    have hk := List.mem_range.mp hk
    have j1 : bkN m.toNat k < m.toNat := by unfold bkN; split <;> omega
    rw [gd k hk, gd _ j1]
    exact F.width hP P0 P1 hpm asc k hk
  rw [e, ← gap_count F.a1 F.a2 F.b1 F.b2 F.sum F.x1 F.y1 w]
  have pe : ((((List.range m.toNat).map (bkN m.toNat)).map fun j => pm.getD j 0).map fun i : Nat => gapOf m (i : Int) a x b y).Perm ((List.range m.toNat).map fun i : Nat => gapOf m (i : Int) a x b y) := by
    refine List.Perm.map _ ?_
    have h1 := (bk_perm m.toNat).map fun j => pm.getD j 0
    have h2 : (List.range m.toNat).map (fun j => pm.getD j 0) = pm := by
      apply List.ext_getElem
      · simp [len]
      · intro i u1 u2
        simp [List.getD, u2]
    rw [h2] at h1
    exact h1.trans hpm
  rw [pe.count_eq]
/-! ### sums over the table -/
def sumC (l : List (Int × Int)) : Int := (l.map (·.2)).sum
def sumW (l : List (Int × Int)) : Int := (l.map fun p => p.1 * p.2).sum
theorem isum_perm {l1 l2 : List Int} (h : l1.Perm l2) : l1.sum = l2.sum := by
  induction h with
  | nil => rfl
  | cons x _ ih => rw [List.sum_cons, List.sum_cons, ih]
  | swap x y r => rw [List.sum_cons, List.sum_cons, List.sum_cons, List.sum_cons]; omega
  | trans _ _ i1 i2 => exact i1.trans i2
theorem sumC_perm {l1 l2 : List (Int × Int)} (h : l1.Perm l2) : sumC l1 = sumC l2 := isum_perm (h.map _)
theorem sumW_perm {l1 l2 : List (Int × Int)} (h : l1.Perm l2) : sumW l1 = sumW l2 := isum_perm (h.map _)
theorem gapsD_form {m a x b y : Int} (x1 : 1 ≤ x) (y1 : 1 ≤ y) : gapsD m a x b y = (if x = y then [(x, m - a + m - b)] else [(x, m - a), (y, m - b)]) ++ (if m < a + b then [(x + y, a + b - m)] else []) := by
  have k1 : putI [(x, m - a)] y (cntD [(x, m - a)] y + m - b) = if x = y then [(x, m - a + m - b)] else [(x, m - a), (y, m - b)] := by
    by_cases e : x = y
    · subst e
      simp [putI, cntD]
    · simp [putI, cntD, e]
  unfold gapsD
  dsimp only
  rw [k1]
  by_cases c : m < a + b
  · rw [if_pos c, if_pos c]
    have n1 : ¬ x = x + y := by omega
    have n2 : ¬ y = x + y := by omega
    by_cases e : x = y
    · rw [if_pos e]; simp [putI, n1]
    · rw [if_neg e]; simp [putI, n1, n2]
  · rw [if_neg c, if_neg c, List.append_nil]
structure RowOk (n m : Int) (l : List (Int × Int)) : Prop where
  len1 : 1 ≤ l.length
  len3 : l.length ≤ 3
  pos : ∀ q ∈ l, 1 ≤ q.1 ∧ q.1 ≤ n ∧ 1 ≤ q.2 ∧ q.2 ≤ m
  cs : sumC l = m
  ws : sumW l = n
  three : l.length = 3 → (l.getD 2 (0, 0)).1 = (l.getD 0 (0, 0)).1 + (l.getD 1 (0, 0)).1
  asc : AscP l
theorem Four.rowOk {n s m a x b y : Int} (F : Four n s m a x b y) {l : List (Int × Int)} (p : l.Perm (gapsD m a x b y)) (asc : AscP l) : RowOk n m l := by
  have x1 := F.x1; have y1 := F.y1; have a1 := F.a1; have a2 := F.a2; have b1 := F.b1; have b2 := F.b2; have sm := F.sum; have dt := F.det
  have f := gapsD_form (m := m) (a := a) (b := b) x1 y1
  have g := gapsD_len m a x b y
  have xb : 1 * x ≤ b * x := Int.mul_le_mul_of_nonneg_right b1 (by omega)
  have ya : 1 * y ≤ a * y := Int.mul_le_mul_of_nonneg_right a1 (by omega)
  have mem : ∀ q ∈ l, (q.1 = x ∨ q.1 = y ∨ q.1 = x + y) ∧ 1 ≤ q.2 ∧ q.2 ≤ m := fun q hq => by
    have h := p.mem_iff.mp hq
    rw [f] at h
    rcases List.mem_append.mp h with h | h
    · by_cases e : x = y
      · rw [if_pos e] at h
        have : q = (x, m - a + m - b) := by simpa using h
        subst this
        exact ⟨.inl rfl, by show 1 ≤ m - a + m - b; omega, by show m - a + m - b ≤ m; omega⟩
      · rw [if_neg e] at h
        have : q = (x, m - a) ∨ q = (y, m - b) := by simpa using h
        rcases this with rfl | rfl
        · exact ⟨.inl rfl, by show 1 ≤ m - a; omega, by show m - a ≤ m; omega⟩
        · exact ⟨.inr (.inl rfl), by show 1 ≤ m - b; omega, by show m - b ≤ m; omega⟩
    · by_cases c : m < a + b
      · rw [if_pos c] at h
        have : q = (x + y, a + b - m) := by simpa using h
        subst this
        exact ⟨.inr (.inr rfl), by show 1 ≤ a + b - m; omega, by show a + b - m ≤ m; omega⟩
      · rw [if_neg c] at h; simp at h
  refine ⟨by rw [p.length_eq]; exact g.1, by rw [p.length_eq]; exact g.2, fun q hq => ?_, ?_, ?_, fun h3 => ?_, asc⟩
  · obtain ⟨h1, h2, h3⟩ := mem q hq
    refine ⟨by omega, by omega, h2, h3⟩
  · rw [sumC_perm p, f]
    unfold sumC
    by_cases e : x = y <;> by_cases c : m < a + b <;> simp [e, c] <;> omega
  · rw [sumW_perm p, f]
    unfold sumW
    by_cases e : x = y <;> by_cases c : m < a + b <;> simp only [e, c, if_true, if_false, List.map_append, List.map_cons, List.map_nil, List.sum_append, List.sum_cons, List.sum_nil] <;> (try subst e) <;> grind
  · match l, h3, mem, asc with
    | [p0, p1, p2], _, mem, asc =>
      have q0 := (mem p0 (by simp)).1
      have q1 := (mem p1 (by simp)).1
      have q2 := (mem p2 (by simp)).1
      unfold AscP at asc
      simp only [List.pairwise_cons, List.mem_cons, List.not_mem_nil, or_false, forall_eq_or_imp, forall_eq] at asc
      obtain ⟨⟨u1, u2⟩, u3, _⟩ := asc
      show p2.1 = p0.1 + p1.1
      omega
theorem RowOk.one {n : Int} (n1 : 1 ≤ n) : RowOk n 1 [(n, 1)] :=
  ⟨by simp, by simp, fun q hq => by simp at hq; subst hq; exact ⟨n1, Int.le_refl _, Int.le_refl _, Int.le_refl _⟩, by simp [sumC], by simp [sumW], fun h => by simp at h, by unfold AscP; simp⟩
section
variable {P : Program} {w : World} {K : PySem.W.Frag} {mg : Str → Option Value} {base : Heap} {a : Adr}
def spGreatest : Sp := fun vs H Q _ => vs = [] ∧ Q (.int G60) H
theorem ok_greatest (T : Txt K mg a) : FnOk P w K mg base (CXR P w) 1 a.greatest.f a.greatest.fd [] spGreatest := by
  refine T.F_greatest.okN sc_greatest (fun vs H Q E h => ?_) (fun cdv A outer s H vs Q E hr h => ?_)
  · rw [h.1]; rfl
  · obtain ⟨rfl, k⟩ := h
    refine ⟨_, (@pss_one _ _ _ (@ps_ret _ _ _ _ (@pe_op _ _ _ _ _ _ _ _ op_pow (@pe_int _ _ _ _) (@pe_int _ _ _ _)))), ?_⟩
    refine ⟨_, _, rfl, rfl, ⟨by decide, by decide, by decide⟩, ?_⟩
    show Q (.int ((10 : Int) ^ (60 : Int).toNat)) H
    rw [pow60]; exact k
/-- a whole number within bounds -/
def wholeIn (x : V) (l m : Int) : Bool := match x with | .int v => decide (l ≤ v) && decide (v ≤ m) | _ => false
theorem wholeIn_int {x : V} {l m : Int} (h : wholeIn x l m = true) : ∃ v, x = .int v ∧ l ≤ v ∧ v ≤ m := by
  cases x with
  | int v =>
    have h : (decide (l ≤ v) && decide (v ≤ m)) = true := h
    rw [Bool.and_eq_true, decide_eq_true_eq, decide_eq_true_eq] at h
    exact ⟨v, rfl, h⟩
  | _ => cases h
theorem wholeIn_of {v l m : Int} (h1 : l ≤ v) (h2 : v ≤ m) : wholeIn (.int v) l m = true := by
  show (decide (l ≤ v) && decide (v ≤ m)) = true
  rw [decide_eq_true h1, decide_eq_true h2]; rfl
/-- a thing whose kind is known: an int, or none -/
def Known (K : PySem.W.Frag) (H : Hp) (x : V) : Prop := ∃ t b1 b2, TyOf K H x t ∧ PySem.W.kitOne K t (.type "bool") = some b1 ∧ PySem.W.kitOne K t (.type "int") = some b2 ∧
  (b1 = false → b2 = true → ∃ v, x = .int v) ∧ (¬ (b1 = false ∧ b2 = true) → ∀ v, x ≠ .int v)
theorem Known.int (T : Txt K mg a) (H : Hp) (v : Int) : Known K H (.int v) := ⟨_, _, _, .int v, T.ib, T.ii, fun _ _ => ⟨v, rfl⟩, fun z => absurd ⟨rfl, rfl⟩ z⟩
def spWhole (K : PySem.W.Frag) : Sp := fun vs H Q _ => ∃ x l m, vs = [x, .int l, .int m] ∧ Known K H x ∧ Q (.bl (wholeIn x l m)) H
theorem ok_is_whole (T : Txt K mg a) : FnOk P w K mg base (CXR P w) 1 a.is_whole.f a.is_whole.fd ["value", "least", "most"] (spWhole K) := by
  refine T.F_is_whole.okN sc_is_whole (fun vs H Q E h => ?_) (fun cdv A outer s H vs Q E hr h => ?_)
  · obtain ⟨x, l, m, rfl, _⟩ := h; rfl
  · obtain ⟨x, l, m, rfl, ⟨t, b1, b2, ty, e1, e2, g1, g2⟩, k⟩ := h
    refine ⟨_, (@pss_cons _ _ _ _ _ (@ps_if _ _ _ _ _ _ _ _ (@PW.pt _ _ _ (@pw_or _ _ _ _ _ _ _ (@pt_val _ _ _ (pe_callB call_isi rfl T.n_isinstance bt_isinstance (@pa_consN _ _ _ _ _ (pv 0) (@pa_consN _ _ _ _ _ (pe_ty rfl T.n_bool bt_bool) (@pa_nil _) rfl) rfl)) (by intro _; rfl)) (@pw_or1 _ _ _ _ (@pt_not _ _ _ _ (@pt_val _ _ _ (pe_callB call_isi rfl T.n_isinstance bt_isinstance (@pa_consN _ _ _ _ _ (pv 0) (@pa_consN _ _ _ _ _ (pe_ty rfl T.n_int bt_int) (@pa_nil _) rfl) rfl)) (by intro _; rfl)))))) (@pss_one _ _ _ (@ps_ret _ _ _ _ (@pe_bl _ _ _ _))) (@pss_nil _)) (@pss_one _ _ _ (@ps_ret _ _ _ _ (pe_chain op_le op_le (pv 1) (pv 0) (pv 2))))), ?_⟩
    refine ⟨_, rfl, x, _, t, _, b1, rfl, ty, rfl, e1, _, rfl, ?_⟩
    have no : ¬ (b1 = false ∧ b2 = true) → wholeIn x l m = false := fun z => by
      have z' := g2 z
      cases x <;> first | rfl | exact absurd rfl (z' _)
    cases b1 with
    | true =>
      refine iteT (iteT ?_)
      rw [no (by simp)] at k
      exact k
    | false =>
      refine iteF ⟨_, rfl, x, _, t, _, b2, rfl, ty, rfl, e2, _, rfl, ?_⟩
      cases b2 with
      | false =>
        refine iteT ?_
        rw [no (by simp)] at k
        exact k
      | true =>
        refine iteF ?_
        obtain ⟨v, rfl⟩ := g1 rfl rfl
        refine ⟨_, rfl, _, rfl, _, _, rfl, rfl, _, rfl, ?_⟩
        refine ite2 (fun h => ?_) (fun h => ?_)
        · refine ⟨_, rfl, _, _, rfl, rfl, ?_⟩
          have e : wholeIn (.int v) l m = decide (v ≤ m) := by
            show (decide (l ≤ v) && decide (v ≤ m)) = _
            rw [h, Bool.true_and]
          rw [e] at k
          exact k
        · have e : wholeIn (.int v) l m = false := by
            show (decide (l ≤ v) && decide (v ≤ m)) = _
            rw [Bool.eq_false_iff.mpr h, Bool.false_and]
          rw [e] at k
          exact k
def spBeats (K : PySem.W.Frag) (a : Adr) : Sp := fun vs H Q E => ∃ (w : Str) (x : V) (l m : Int), vs = [.str w, x, .int l, .int m] ∧ w.length ≤ 100 ∧ Known K H x ∧ (-(G60 * G60 * G60) ≤ l ∧ l ≤ G60 * G60 * G60) ∧ (-(G60 * G60 * G60) ≤ m ∧ m ≤ G60 * G60 * G60) ∧ (∀ v, x = .int v → l ≤ v → v ≤ m → Q .non H) ∧ (wholeIn x l m = false → E (.ref a.NoBeats) none H)
theorem ok_check_beats (T : Txt K mg a) : FnOk P w K mg base (CXR P w) 2 a.check_beats.f a.check_beats.fd ["what", "value", "least", "most"] (spBeats K a) := by
  refine T.F_check_beats.okR sc_check_beats (fun vs H Q E h => ?_) (fun cdv A outer s H vs Q E hr h => ?_)
  · obtain ⟨w, x, l, m, rfl, _⟩ := h; rfl
  · obtain ⟨w, x, l, m, rfl, hw, kx, hl, hm, kq, ke⟩ := h
    refine ⟨_, (@pss_one _ _ _ (@ps_if _ _ _ _ _ _ _ _ (@pt_not _ _ _ _ (@pt_val _ _ _ (pe_call (ok_is_whole T) (hr.mono (by decide)) rfl T.m_is_whole T.F_is_whole.kp (b_is_whole T) .nil passR (@pa_consN _ _ _ _ _ (pv 1) (@pa_consN _ _ _ _ _ (pv 2) (@pa_consN _ _ _ _ _ (pv 3) (@pa_nil _) rfl) rfl) rfl)) (by intro _; rfl))) (@pss_one _ _ _ (ps_raise flies_fn rfl rfl T.m_NoBeats T.x_NoBeats.exc (@pa_consN _ _ _ _ _ (@pe_join _ _ _ _ _ _ (@pj_cons _ _ _ _ _ (@pe_fmt _ _ _ _ (pv 0)) (@pj_cons _ _ _ _ _ (@pe_str _ _ _ _) (@pj_cons _ _ _ _ _ (@pe_fmt _ _ _ _ (pv 2)) (@pj_cons _ _ _ _ _ (@pe_str _ _ _ _) (@pj_cons _ _ _ _ _ (@pe_fmt _ _ _ _ (pv 3)) (@pj_nil _))))))) (@pa_nil _) rfl))) (@pss_nil _))), ?_⟩
    refine ⟨_, rfl, _, rfl, _, rfl, x, l, m, rfl, kx, _, rfl, ?_⟩
    refine iteB (fun h1 => ?_) (fun h1 => ?_)
    · have l1 : (Str.empty ++ w).length ≤ 0 + 100 := app_len (by decide) hw
      have l2 := app_len l1 (show (Str.ofString " is no whole number from ").length ≤ 25 by decide)
      have l3 := app_len l2 (text_len (fits_log hl))
      have l4 := app_len l3 (show (Str.ofString " to ").length ≤ 4 by decide)
      have l5 := app_len l4 (text_len (fits_log hm))
      refine ⟨_, rfl, .inl ⟨w, rfl, str_fits hw (by decide), _, rfl, str_fits l1 (by decide), _, rfl, str_fits l2 (by decide), ?_⟩⟩
      refine ⟨_, rfl, .inr ⟨l, rfl, fits_log hl, _, rfl, str_fits l3 (by decide), _, rfl, str_fits l4 (by decide), ?_⟩⟩
      refine ⟨_, rfl, .inr ⟨m, rfl, fits_log hm, _, rfl, str_fits l5 (by decide), str_fits l5 (by decide), ?_⟩⟩
      exact ⟨by show 1 ≤ sizeLine; decide, ke (by simpa using h1)⟩
    · have h1 : wholeIn x l m = true := by simpa using h1
      obtain ⟨v, rfl, v1, v2⟩ := wholeIn_int h1
      exact kq v rfl v1 v2
def spCommon : Sp := fun vs H Q _ => ∃ p q : Int, vs = [.int p, .int q] ∧ 0 ≤ p ∧ 0 ≤ q ∧ Q (.int (Int.gcd p q : Nat)) H
theorem gcd_step {p q : Int} (hq : 0 ≤ q) (hp : 0 ≤ p) : Int.gcd q (p % q) = Int.gcd p q := by
  obtain ⟨n, rfl⟩ := Int.eq_ofNat_of_zero_le hp
  obtain ⟨m, rfl⟩ := Int.eq_ofNat_of_zero_le hq
  rw [← Int.natCast_emod]
  show Nat.gcd m (n % m) = Nat.gcd n m
  rw [Nat.gcd_comm m, ← Nat.gcd_rec, Nat.gcd_comm]
theorem ok_common (T : Txt K mg a) : FnOk P w K mg base (CXR P w) 1 a.common.f a.common.fd ["one", "other"] spCommon := by
  refine T.F_common.okN sc_common (fun vs H Q E h => ?_) (fun cdv A outer s H vs Q E hr h => ?_)
  · obtain ⟨p, q, rfl, _⟩ := h; rfl
  · obtain ⟨p, q, rfl, hp, hq, k⟩ := h
    refine ⟨_, (@pss_cons _ _ _ _ _ (@ps_while _ _ _ _ _ _ PassesOwn.never (@pt_cmpR _ _ _ _ _ _ _ _ op_ne (pv 1) (@pe_int _ _ _ _) (nomark _)) (@pss_cons _ _ _ _ _ (@ps_set _ _ 2 _ _ _ _ sc_common.nd rfl (Or.inl rfl) (@pe_op _ _ _ _ _ _ _ _ op_mod (pv 0) (pv 1)) (by rfl) (by first | exact .inl rfl | exact .inr rfl | assumption)) (@pss_cons _ _ _ _ _ (@ps_set _ _ 0 _ _ _ _ sc_common.nd rfl (Or.inl rfl) (pv 1) (by rfl) (by first | exact .inl rfl | exact .inr rfl | assumption)) (@pss_one _ _ _ (@ps_set _ _ 1 _ _ _ _ sc_common.nd rfl (Or.inl rfl) (pv 2) (by rfl) (by first | exact .inl rfl | exact .inr rfl | assumption)))))) (@pss_one _ _ _ (@ps_ret _ _ _ _ (pv 0)))), ?_⟩
    refine ⟨fun n σ H' => ∃ (p' q' : Int) (r : Option V), σ = [some (.int p'), some (.int q'), r] ∧ H' = H ∧ 0 ≤ p' ∧ 0 ≤ q' ∧ Int.gcd p' q' = Int.gcd p q ∧ n = q'.toNat, ⟨_, p, q, none, rfl, rfl, hp, hq, rfl, rfl⟩, ?_⟩
    rintro n σ H' ⟨p', q', r, rfl, rfl, hp', hq', hg, rfl⟩
    refine ⟨_, rfl, rfl, _, rfl, ?_⟩
    by_cases z : q' = 0
    · subst z
      refine iteF ⟨_, rfl, ?_⟩
      have e : p' = ((Int.gcd p q : Nat) : Int) := by rw [← hg, Int.gcd_zero_right]; omega
      rw [e]
      exact k
    · have e : (!decide (V.int q' = V.int 0)) = true := by simp [z]
      refine iteP e ⟨_, fun σ' H'' h => h, ?_⟩
      refine ⟨_, rfl, _, rfl, _, _, rfl, rfl, (by show (0 : Int) < q'; omega), _, rfl, _, rfl, ?_⟩
      have lt := Int.emod_lt_of_pos p' (by omega : 0 < q')
      have nn := Int.emod_nonneg p' (by omega : q' ≠ 0)
      exact ⟨_, by omega, _, _, _, rfl, rfl, hq', nn, (gcd_step hq' hp').trans hg, rfl⟩
/-! ### wheels -/
def okW (x y z : V) : Bool := wholeIn x 1 G60 && (wholeIn y (-G60) G60 && wholeIn z (-G60) G60)
theorem okW_ints {x y z : V} (h : okW x y z = true) : ∃ n st s0 : Int, x = .int n ∧ y = .int st ∧ z = .int s0 ∧ 1 ≤ n ∧ n ≤ G60 ∧ -G60 ≤ st ∧ st ≤ G60 ∧ -G60 ≤ s0 ∧ s0 ≤ G60 := by
  unfold okW at h
  rw [Bool.and_eq_true, Bool.and_eq_true] at h
  obtain ⟨n, rfl, a1, a2⟩ := wholeIn_int h.1
  obtain ⟨st, rfl, b1, b2⟩ := wholeIn_int h.2.1
  obtain ⟨s0, rfl, c1, c2⟩ := wholeIn_int h.2.2
  exact ⟨n, st, s0, rfl, rfl, rfl, a1, a2, b1, b2, c1, c2⟩
def spCheck (K : PySem.W.Frag) (a : Adr) : Sp := fun vs H Q E => ∃ x y z, vs = [x, y, z] ∧ Known K H x ∧ Known K H y ∧ Known K H z ∧ (okW x y z = true → Q .non H) ∧ (okW x y z = false → E (.ref a.NoWheel) none H)
theorem ok_check_wheel (T : Txt K mg a) : FnOk P w K mg base (CXR P w) 2 a.check_wheel.f a.check_wheel.fd ["size", "step", "start"] (spCheck K a) := by
  refine T.F_check_wheel.okR sc_check_wheel (fun vs H Q E h => ?_) (fun cdv A outer s H vs Q E hr h => ?_)
  · obtain ⟨x, y, z, rfl, _⟩ := h; rfl
  · obtain ⟨x, y, z, rfl, kx, ky, kz, kq, ke⟩ := h
    refine ⟨_, (@pss_cons _ _ _ _ _ (@ps_set _ _ 3 _ _ _ _ sc_check_wheel.nd rfl (Or.inl rfl) (pe_call0 (ok_greatest T) (hr.mono (by decide)) rfl T.m_greatest T.F_greatest.kp (b_greatest T) .nil passR) (by rfl) (by first | exact .inl rfl | exact .inr rfl | assumption)) (@pss_cons _ _ _ _ _ (@ps_if _ _ _ _ _ _ _ _ (@pt_not _ _ _ _ (@pt_val _ _ _ (pe_call (ok_is_whole T) (hr.mono (by decide)) rfl T.m_is_whole T.F_is_whole.kp (b_is_whole T) .nil passR (@pa_consN _ _ _ _ _ (pv 0) (@pa_consN _ _ _ _ _ (@pe_int _ _ _ _) (@pa_consN _ _ _ _ _ (pv 3) (@pa_nil _) rfl) rfl) rfl)) (by intro _; rfl))) (@pss_one _ _ _ (ps_raise flies_fn rfl rfl T.m_NoWheel T.x_NoWheel.exc (@pa_consN _ _ _ _ _ (@pe_str _ _ _ _) (@pa_nil _) rfl))) (@pss_nil _)) (@pss_cons _ _ _ _ _ (@ps_if _ _ _ _ _ _ _ _ (@pt_not _ _ _ _ (@pt_val _ _ _ (pe_call (ok_is_whole T) (hr.mono (by decide)) rfl T.m_is_whole T.F_is_whole.kp (b_is_whole T) .nil passR (@pa_consN _ _ _ _ _ (pv 1) (@pa_consN _ _ _ _ _ (@pe_un _ _ _ _ _ _ un_neg (pv 3)) (@pa_consN _ _ _ _ _ (pv 3) (@pa_nil _) rfl) rfl) rfl)) (by intro _; rfl))) (@pss_one _ _ _ (ps_raise flies_fn rfl rfl T.m_NoWheel T.x_NoWheel.exc (@pa_consN _ _ _ _ _ (@pe_str _ _ _ _) (@pa_nil _) rfl))) (@pss_nil _)) (@pss_one _ _ _ (@ps_if _ _ _ _ _ _ _ _ (@pt_not _ _ _ _ (@pt_val _ _ _ (pe_call (ok_is_whole T) (hr.mono (by decide)) rfl T.m_is_whole T.F_is_whole.kp (b_is_whole T) .nil passR (@pa_consN _ _ _ _ _ (pv 2) (@pa_consN _ _ _ _ _ (@pe_un _ _ _ _ _ _ un_neg (pv 3)) (@pa_consN _ _ _ _ _ (pv 3) (@pa_nil _) rfl) rfl) rfl)) (by intro _; rfl))) (@pss_one _ _ _ (ps_raise flies_fn rfl rfl T.m_NoWheel T.x_NoWheel.exc (@pa_consN _ _ _ _ _ (@pe_str _ _ _ _) (@pa_nil _) rfl))) (@pss_nil _)))))), ?_⟩
    refine ⟨rfl, ?_⟩
    refine ⟨_, rfl, _, rfl, x, 1, G60, rfl, kx, _, rfl, ?_⟩
    refine iteB (fun h1 => ?_) (fun h1 => ?_)
    · refine ⟨by decide, ke ?_⟩
      have h1 : wholeIn x 1 G60 = false := by simpa using h1
      unfold okW
      rw [h1]; rfl
    · have h1 : wholeIn x 1 G60 = true := by simpa using h1
      refine ⟨_, rfl, _, rfl, _, rfl, _, rfl, y, -G60, G60, rfl, ky, _, rfl, ?_⟩
      refine iteB (fun h2 => ?_) (fun h2 => ?_)
      · refine ⟨by decide, ke ?_⟩
        have h2 : wholeIn y (-G60) G60 = false := by simpa using h2
        unfold okW
        rw [h1, h2]; rfl
      · have h2 : wholeIn y (-G60) G60 = true := by simpa using h2
        refine ⟨_, rfl, _, rfl, _, rfl, _, rfl, z, -G60, G60, rfl, kz, _, rfl, ?_⟩
        refine iteB (fun h3 => ?_) (fun h3 => ?_)
        · refine ⟨by decide, ke ?_⟩
          have h3 : wholeIn z (-G60) G60 = false := by simpa using h3
          unfold okW
          rw [h1, h2, h3]; rfl
        · have h3 : wholeIn z (-G60) G60 = true := by simpa using h3
          refine kq ?_
          unfold okW
          rw [h1, h2, h3]; rfl
/-- the fields of a wheel, as kept -/
def wf (n st s0 l : Int) : List (Str × V) := [("size", .int n), ("step", .int st), ("start", .int s0), ("lap", .int l)]
theorem wf_put (n st s0 l : Int) : putF "lap" (.int l) (putF "start" (.int s0) (putF "step" (.int st) (putF "size" (.int n) []))) = wf n st s0 l := by
  have e1 : ¬ (("size" : Str) = "step") := by decide +kernel
  have e2 : ¬ (("size" : Str) = "start") := by decide +kernel
  have e3 : ¬ (("size" : Str) = "lap") := by decide +kernel
  have e4 : ¬ (("step" : Str) = "start") := by decide +kernel
  have e5 : ¬ (("step" : Str) = "lap") := by decide +kernel
  have e6 : ¬ (("start" : Str) = "lap") := by decide +kernel
  simp only [putF, wf, if_neg e1, if_neg e2, if_neg e3, if_neg e4, if_neg e5, if_neg e6]
theorem wf_size (n st s0 l : Int) : (wf n st s0 l).lookup ("size" : Str) = some (.int n) := by rfl
theorem wf_step (n st s0 l : Int) : (wf n st s0 l).lookup ("step" : Str) = some (.int st) := by rfl
theorem wf_lap (n st s0 l : Int) : (wf n st s0 l).lookup ("lap" : Str) = some (.int l) := by rfl
/-- the lap -/
def lapOf (n st : Int) : Int := n / (Int.gcd n (st % n) : Nat)
def spInit (K : PySem.W.Frag) (a : Adr) : Sp := fun vs H Q E => ∃ (p dx : Addr) (x y z : V), vs = [.ref p, x, y, z] ∧ H p = some (.ins a.W dx []) ∧ Known K H x ∧ Known K H y ∧ Known K H z ∧
  (okW x y z = true → ∀ n st s0 : Int, x = .int n → y = .int st → z = .int s0 → 1 ≤ n → n ≤ G60 → Q .non (upd H p (.ins a.W dx (wf n (st % n) (s0 % n) (lapOf n st))))) ∧ (okW x y z = false → E (.ref a.NoWheel) none H)
theorem ok_Wheel___init__ (T : Txt K mg a) : FnOk P w K mg base (CXR P w) 3 a.Wheel___init__.f a.Wheel___init__.fd ["self", "size", "step", "start"] (spInit K a) := by
  refine T.F_Wheel___init__.okR sc_Wheel___init__ (fun vs H Q E h => ?_) (fun cdv A outer s H vs Q E hr h => ?_)
  · obtain ⟨p, dx, x, y, z, rfl, _⟩ := h; rfl
  · obtain ⟨p, dx, x, y, z, rfl, hp, kx, ky, kz, kq, ke⟩ := h
    refine ⟨_, (@pss_cons _ _ _ _ _ (@ps_expr _ _ _ _ (pe_callS (ok_check_wheel T) (hr.mono (by decide)) rfl T.m_check_wheel T.F_check_wheel.kp (b_check_wheel T) .nil (pass_fn fun _ _ _ _ h => h) (@pa_consN _ _ _ _ _ (pv 1) (@pa_consN _ _ _ _ _ (pv 2) (@pa_consN _ _ _ _ _ (pv 3) (@pa_nil _) rfl) rfl) rfl)) (by rfl)) (@pss_cons _ _ _ _ _ (@ps_fld _ _ _ _ _ _ _ _ (pv 0) (pv 1) rfl) (@pss_cons _ _ _ _ _ (@ps_fld _ _ _ _ _ _ _ _ (pv 0) (@pe_op _ _ _ _ _ _ _ _ op_mod (pv 2) (pv 1)) rfl) (@pss_cons _ _ _ _ _ (@ps_fld _ _ _ _ _ _ _ _ (pv 0) (@pe_op _ _ _ _ _ _ _ _ op_mod (pv 3) (pv 1)) rfl) (@pss_one _ _ _ (@ps_fld _ _ _ _ _ _ _ _ (pv 0) (@pe_op _ _ _ _ _ _ _ _ op_fdivB (pv 1) (pe_call (ok_common T) (hr.mono (by decide)) rfl T.m_common T.F_common.kp (b_common T) .nil passR (@pa_consN _ _ _ _ _ (pv 1) (@pa_consN _ _ _ _ _ (@pe_fld _ _ _ _ _ (pv 0) rfl) (@pa_nil _) rfl) rfl))) rfl)))))), ?_⟩
    refine ⟨_, rfl, _, rfl, _, rfl, x, y, z, rfl, kx, ky, kz, fun ok => ?_, ke⟩
    obtain ⟨n, st, s0, rfl, rfl, rfl, a1, a2, b1, b2, c1, c2⟩ := okW_ints ok
    have pos : (0 : Int) < n := by omega
    refine ⟨_, rfl, _, rfl, p, a.W, dx, _, rfl, hp, T.cl, T.a_size, (by show 0 < 1000; decide), ?_⟩
    refine ⟨_, rfl, _, rfl, _, _, rfl, rfl, pos, _, rfl, p, a.W, dx, _, rfl, upd_same, T.cl, T.a_step, (by show 1 < 1000; decide), ?_⟩
    refine ⟨_, rfl, _, rfl, _, _, rfl, rfl, pos, _, rfl, p, a.W, dx, _, rfl, upd_same, T.cl, T.a_start, (by show 2 < 1000; decide), ?_⟩
    have g1 : 0 ≤ st % n := Int.emod_nonneg _ (by omega)
    have g2 : (0 : Int) < ((Int.gcd n (st % n) : Nat) : Int) := by
      have := Int.gcd_pos_of_ne_zero_left (st % n) (by omega : n ≠ 0)
      omega
    have g3 : ((Int.gcd n (st % n) : Nat) : Int) ≤ n := Int.le_of_dvd pos (Int.gcd_dvd_left ..)
    refine ⟨_, rfl, _, rfl, _, rfl, p, a.W, dx, _, _, rfl, upd_same, T.cl, T.a_step, rfl, n, st % n, rfl, by omega, g1, _, _, rfl, rfl, ⟨g2, big_g ⟨by omega, by omega⟩⟩, ?_⟩
    refine ⟨_, rfl, p, a.W, dx, _, rfl, upd_same, T.cl, T.a_lap, (by show 3 < 1000; decide), ?_⟩
    rw [upd_upd, upd_upd, upd_upd]
    have e := kq ok n st s0 rfl rfl rfl a1 a2
    rw [← wf_put] at e
    exact e
/-- a wheel stands at p -/
structure WheelAt (W : Addr) (H : Hp) (p : Addr) (n st s0 l : Int) : Prop where
  at_ : ∃ dx, H p = some (.ins W dx (wf n st s0 l))
  n1 : 1 ≤ n
  n2 : n ≤ G60
  st1 : 0 ≤ st
  st2 : st < n
  s1 : 0 ≤ s0
  s2 : s0 < n
theorem big_le {i : Int} (h : -G60 ≤ i ∧ i ≤ G60) : -(G60 * G60 * G60) ≤ i ∧ i ≤ G60 * G60 * G60 := by
  have e : G60 ≤ G60 * G60 * G60 := by decide
  exact ⟨by omega, by omega⟩
end
theorem WheelAt.same {W : Addr} {H H' : Hp} {p : Addr} {n st s0 l : Int} (s : Same H H') (h : WheelAt W H p n st s0 l) : WheelAt W H' p n st s0 l :=
  ⟨let ⟨dx, e⟩ := h.at_; ⟨dx, s _ _ e⟩, h.n1, h.n2, h.st1, h.st2, h.s1, h.s2⟩
theorem okW_of {n st s0 : Int} (a1 : 1 ≤ n) (a2 : n ≤ G60) (b1 : -G60 ≤ st) (b2 : st ≤ G60) (c1 : -G60 ≤ s0) (c2 : s0 ≤ G60) : okW (.int n) (.int st) (.int s0) = true := by
  unfold okW
  rw [wholeIn_of a1 a2, wholeIn_of b1 b2, wholeIn_of c1 c2]; rfl
/-- a wheel just made -/
theorem made {W : Addr} {H : Hp} {x dx : Addr} {n st s0 : Int} (hx : H x = none) (hdx : H dx = none) (ne : dx ≠ x) (n1 : 1 ≤ n) (n2 : n ≤ G60) :
    Same H (upd (upd (upd H dx (.own x)) x (.ins W dx [])) x (.ins W dx (wf n (st % n) (s0 % n) (lapOf n st)))) ∧
      WheelAt W (upd (upd (upd H dx (.own x)) x (.ins W dx [])) x (.ins W dx (wf n (st % n) (s0 % n) (lapOf n st)))) x n (st % n) (s0 % n) (lapOf n st) := by
  refine ⟨fun b o e => ?_, ⟨dx, upd_same⟩, n1, n2, Int.emod_nonneg _ (by omega), Int.emod_lt_of_pos _ (by omega), Int.emod_nonneg _ (by omega), Int.emod_lt_of_pos _ (by omega)⟩
  rw [upd_ne (ne_of_none e hx), upd_ne (ne_of_none e hx), upd_ne (ne_of_none e hdx)]
  exact e
/-- the fields of neighbours -/
def nf (ah x bh y : Int) : List (Str × V) := [("ahead", .int ah), ("near", .int x), ("behind", .int bh), ("back", .int y)]
theorem nf_put (ah x bh y : Int) : putF "back" (.int y) (putF "behind" (.int bh) (putF "near" (.int x) (putF "ahead" (.int ah) []))) = nf ah x bh y := by
  have e1 : ¬ (("ahead" : Str) = "near") := by decide +kernel
  have e2 : ¬ (("ahead" : Str) = "behind") := by decide +kernel
  have e3 : ¬ (("ahead" : Str) = "back") := by decide +kernel
  have e4 : ¬ (("near" : Str) = "behind") := by decide +kernel
  have e5 : ¬ (("near" : Str) = "back") := by decide +kernel
  have e6 : ¬ (("behind" : Str) = "back") := by decide +kernel
  simp only [putF, nf, if_neg e1, if_neg e2, if_neg e3, if_neg e4, if_neg e5, if_neg e6]
theorem nf_put2 (ah x bh y ah' x' : Int) : putF "near" (.int x') (putF "ahead" (.int ah') (nf ah x bh y)) = nf ah' x' bh y := by
  have e1 : ¬ (("ahead" : Str) = "near") := by decide +kernel
  simp only [putF, nf, if_neg e1, ↓reduceIte]
theorem nf_put3 (ah x bh y bh' y' : Int) : putF "back" (.int y') (putF "behind" (.int bh') (nf ah x bh y)) = nf ah x bh' y' := by
  have e2 : ¬ (("ahead" : Str) = "behind") := by decide +kernel
  have e3 : ¬ (("ahead" : Str) = "back") := by decide +kernel
  have e4 : ¬ (("near" : Str) = "behind") := by decide +kernel
  have e5 : ¬ (("near" : Str) = "back") := by decide +kernel
  have e6 : ¬ (("behind" : Str) = "back") := by decide +kernel
  simp only [putF, nf, if_neg e2, if_neg e3, if_neg e4, if_neg e5, if_neg e6, ↓reduceIte]
theorem nf_ahead (ah x bh y : Int) : (nf ah x bh y).lookup ("ahead" : Str) = some (.int ah) := by rfl
theorem nf_near (ah x bh y : Int) : (nf ah x bh y).lookup ("near" : Str) = some (.int x) := by rfl
theorem nf_behind (ah x bh y : Int) : (nf ah x bh y).lookup ("behind" : Str) = some (.int bh) := by rfl
theorem nf_back (ah x bh y : Int) : (nf ah x bh y).lookup ("back" : Str) = some (.int y) := by rfl
theorem nf_no (ah x bh y : Int) {m : Str} (h : (nf ah x bh y).lookup m = none := by rfl) : (nf ah x bh y).lookup m = none := h
theorem Same.old {H H' : Hp} {q : Addr} {o : HO} (s : Same H H') (h : H q = none) : Same H (upd H' q o) := fun b u e => by rw [upd_ne (ne_of_none e h)]; exact s b u e
section
variable {P : Program} {w : World} {K : PySem.W.Frag} {mg : Str → Option Value} {base : Heap} {a : Adr}
def spNbInit (a : Adr) : Sp := fun vs H Q _ => ∃ (q dq p : Addr) (n st s0 l : Int), vs = [.ref q, .ref p] ∧ H q = some (.ins a.Nb dq []) ∧ WheelAt a.W H p n st s0 l ∧ Q .non (upd H q (.ins a.Nb dq (nf 1 st 1 (n - st))))
theorem ok_Neighbours___init__ (T : Txt K mg a) : FnOk P w K mg base (CXR P w) 1 a.Neighbours___init__.f a.Neighbours___init__.fd ["self", "wheel"] (spNbInit a) := by
  refine T.F_Neighbours___init__.okN sc_Neighbours___init__ (fun vs H Q E h => ?_) (fun cdv A outer s H vs Q E hr h => ?_)
  · obtain ⟨q, dq, p, n, st, s0, l, rfl, _⟩ := h; rfl
  · obtain ⟨q, dq, p, n, st, s0, l, rfl, hq, ⟨⟨dx, hp⟩, _⟩, kq⟩ := h
    have ne : p ≠ q := fun e => by
      subst e
      have e := HO.ins.inj (Option.some.inj (hp.symm.trans hq))
      exact absurd e.2.2 (by unfold wf; simp)
    refine ⟨_, (@pss_cons _ _ _ _ _ (@ps_fld _ _ _ _ _ _ _ _ (pv 0) (@pe_int _ _ _ _) rfl) (@pss_cons _ _ _ _ _ (@ps_fld _ _ _ _ _ _ _ _ (pv 0) (@pe_fld _ _ _ _ _ (pv 1) rfl) rfl) (@pss_cons _ _ _ _ _ (@ps_fld _ _ _ _ _ _ _ _ (pv 0) (@pe_int _ _ _ _) rfl) (@pss_one _ _ _ (@ps_fld _ _ _ _ _ _ _ _ (pv 0) (@pe_op _ _ _ _ _ _ _ _ op_sub (@pe_fld _ _ _ _ _ (pv 1) rfl) (@pe_fld _ _ _ _ _ (pv 1) rfl)) rfl))))), ?_⟩
    refine ⟨_, rfl, q, a.Nb, dq, _, rfl, hq, T.cl_Neighbours, T.a_ahead, (by show 0 < 1000; decide), ?_⟩
    refine ⟨_, rfl, p, a.W, dx, _, _, rfl, (by rw [upd_ne ne]; exact hp), T.cl, T.a_step, wf_step _ _ _ _, _, rfl, q, a.Nb, dq, _, rfl, upd_same, T.cl_Neighbours, T.a_near, (by show 1 < 1000; decide), ?_⟩
    refine ⟨_, rfl, q, a.Nb, dq, _, rfl, upd_same, T.cl_Neighbours, T.a_behind, (by show 2 < 1000; decide), ?_⟩
    refine ⟨_, rfl, p, a.W, dx, _, _, rfl, (by rw [upd_ne ne, upd_ne ne, upd_ne ne]; exact hp), T.cl, T.a_size, wf_size _ _ _ _, _, rfl, p, a.W, dx, _, _, rfl, (by rw [upd_ne ne, upd_ne ne, upd_ne ne]; exact hp), T.cl, T.a_step, wf_step _ _ _ _, _, _, rfl, rfl, ?_⟩
    refine ⟨_, rfl, q, a.Nb, dq, _, rfl, upd_same, T.cl_Neighbours, T.a_back, (by show 3 < 1000; decide), ?_⟩
    rw [upd_upd, upd_upd, upd_upd]
    have e := kq
    rw [← nf_put] at e
    exact e
def Bd (x : Int) : Prop := -G60 ≤ x ∧ x ≤ G60
def spDraw (a : Adr) (f : Int → Int → Int → Int → Int → List (Str × V)) (u v c : Int → Int → Int → Int → Int) : Sp := fun vs H Q _ => ∃ (q dq : Addr) (ah x bh y mo : Int), vs = [.ref q, .int mo] ∧ H q = some (.ins a.Nb dq (nf ah x bh y)) ∧ Bd ah ∧ Bd x ∧ Bd bh ∧ Bd y ∧ Bd mo ∧ 1 ≤ u ah x bh y ∧ 1 ≤ v ah x bh y ∧
  Q .non (upd H q (.ins a.Nb dq (f (if mo < (v ah x bh y - 1) / u ah x bh y then mo else (v ah x bh y - 1) / u ah x bh y) ah x bh y)))
theorem min_bd {x y mo : Int} (h1 : 1 ≤ y) (h2 : 1 ≤ x) (h3 : x ≤ G60) (hm : Bd mo) : Bd (if mo < (x - 1) / y then mo else (x - 1) / y) := by
  have d := div_abs (x := x - 1) (B := G60) h1 (by have := G60_pos; omega) (by omega)
  split
  · exact hm
  · exact d
def fAhead (t ah x bh y : Int) : List (Str × V) := nf (ah + t * bh) (x - t * y) bh y
def fBehind (t ah x bh y : Int) : List (Str × V) := nf ah x (bh + t * ah) (y - t * x)
theorem ok_Neighbours_draw_ahead (T : Txt K mg a) : FnOk P w K mg base (CXR P w) 1 a.Neighbours_draw_ahead.f a.Neighbours_draw_ahead.fd ["self", "most"] (spDraw a fAhead (fun _ _ _ y => y) (fun _ x _ _ => x) (fun _ _ b _ => b)) := by
  refine T.F_Neighbours_draw_ahead.okN sc_Neighbours_draw_ahead (fun vs H Q E h => ?_) (fun cdv A outer s H vs Q E hr h => ?_)
  · obtain ⟨q, dq, ah, x, bh, y, mo, rfl, _⟩ := h; rfl
  · obtain ⟨q, dq, ah, x, bh, y, mo, rfl, hq, bah, bx, bbh, by_, bmo, u1, v1, kq⟩ := h
    have tb := min_bd u1 v1 bx.2 bmo
    refine ⟨_, (@pss_cons _ _ _ _ _ (@ps_set _ _ 2 _ _ _ _ sc_Neighbours_draw_ahead.nd rfl (Or.inl rfl) (pe_callB (call_min2 rfl) rfl T.n_min bt_min (@pa_consN _ _ _ _ _ (@pe_op _ _ _ _ _ _ _ _ op_fdivB (@pe_op _ _ _ _ _ _ _ _ op_sub (@pe_fld _ _ _ _ _ (pv 0) rfl) (@pe_int _ _ _ _)) (@pe_fld _ _ _ _ _ (pv 0) rfl)) (@pa_consN _ _ _ _ _ (pv 1) (@pa_nil _) rfl) rfl)) (by rfl) (by first | exact .inl rfl | exact .inr rfl | assumption)) (@pss_cons _ _ _ _ _ (@ps_fld _ _ _ _ _ _ _ _ (pv 0) (@pe_op _ _ _ _ _ _ _ _ op_add (@pe_fld _ _ _ _ _ (pv 0) rfl) (@pe_op _ _ _ _ _ _ _ _ op_mulA (pv 2) (@pe_fld _ _ _ _ _ (pv 0) rfl))) rfl) (@pss_one _ _ _ (@ps_fld _ _ _ _ _ _ _ _ (pv 0) (@pe_op _ _ _ _ _ _ _ _ op_sub (@pe_fld _ _ _ _ _ (pv 0) rfl) (@pe_op _ _ _ _ _ _ _ _ op_mulA (pv 2) (@pe_fld _ _ _ _ _ (pv 0) rfl))) rfl)))), ?_⟩
    refine ⟨_, rfl, q, a.Nb, dq, _, _, rfl, hq, T.cl_Neighbours, T.a_near, nf_near _ _ _ _, _, _, rfl, rfl, _, rfl, q, a.Nb, dq, _, _, rfl, hq, T.cl_Neighbours, T.a_back, nf_back _ _ _ _, _, _, rfl, rfl, ⟨u1, big_g by_⟩, _, rfl, _, _, rfl, ?_⟩
    have kq : Q .non (upd H q (.ins a.Nb dq (fAhead (if mo < (x - 1) / y then mo else (x - 1) / y) ah x bh y))) := kq
    have tb : Bd (if mo < (x - 1) / y then mo else (x - 1) / y) := tb
    dsimp only at kq ⊢
    generalize (if mo < (x - 1) / y then mo else (x - 1) / y) = t at tb kq ⊢
    refine ⟨_, rfl, q, a.Nb, dq, _, _, rfl, hq, T.cl_Neighbours, T.a_ahead, nf_ahead _ _ _ _, _, rfl, _, rfl, q, a.Nb, dq, _, _, rfl, hq, T.cl_Neighbours, T.a_behind, nf_behind _ _ _ _, _, _, rfl, rfl, mulB (big_g tb) (big_g bbh), _, _, rfl, rfl, ?_⟩
    refine ⟨_, rfl, q, a.Nb, dq, _, rfl, hq, T.cl_Neighbours, T.a_ahead, (by show 4 < 1000; decide), ?_⟩
    refine ⟨_, rfl, q, a.Nb, dq, _, _, rfl, upd_same, T.cl_Neighbours, T.a_near, rfl, _, rfl, _, rfl, q, a.Nb, dq, _, _, rfl, upd_same, T.cl_Neighbours, T.a_back, rfl, _, _, rfl, rfl, mulB (big_g tb) (big_g by_), _, _, rfl, rfl, ?_⟩
    refine ⟨_, rfl, q, a.Nb, dq, _, rfl, upd_same, T.cl_Neighbours, T.a_near, (by show 4 < 1000; decide), ?_⟩
    rw [upd_upd]
    unfold fAhead at kq
    rw [← nf_put2 ah x bh y] at kq
    exact kq
theorem ok_Neighbours_draw_behind (T : Txt K mg a) : FnOk P w K mg base (CXR P w) 1 a.Neighbours_draw_behind.f a.Neighbours_draw_behind.fd ["self", "most"] (spDraw a fBehind (fun _ x _ _ => x) (fun _ _ _ y => y) (fun a _ _ _ => a)) := by
  refine T.F_Neighbours_draw_behind.okN sc_Neighbours_draw_behind (fun vs H Q E h => ?_) (fun cdv A outer s H vs Q E hr h => ?_)
  · obtain ⟨q, dq, ah, x, bh, y, mo, rfl, _⟩ := h; rfl
  · obtain ⟨q, dq, ah, x, bh, y, mo, rfl, hq, bah, bx, bbh, by_, bmo, u1, v1, kq⟩ := h
    have tb := min_bd u1 v1 by_.2 bmo
    refine ⟨_, (@pss_cons _ _ _ _ _ (@ps_set _ _ 2 _ _ _ _ sc_Neighbours_draw_behind.nd rfl (Or.inl rfl) (pe_callB (call_min2 rfl) rfl T.n_min bt_min (@pa_consN _ _ _ _ _ (@pe_op _ _ _ _ _ _ _ _ op_fdivB (@pe_op _ _ _ _ _ _ _ _ op_sub (@pe_fld _ _ _ _ _ (pv 0) rfl) (@pe_int _ _ _ _)) (@pe_fld _ _ _ _ _ (pv 0) rfl)) (@pa_consN _ _ _ _ _ (pv 1) (@pa_nil _) rfl) rfl)) (by rfl) (by first | exact .inl rfl | exact .inr rfl | assumption)) (@pss_cons _ _ _ _ _ (@ps_fld _ _ _ _ _ _ _ _ (pv 0) (@pe_op _ _ _ _ _ _ _ _ op_add (@pe_fld _ _ _ _ _ (pv 0) rfl) (@pe_op _ _ _ _ _ _ _ _ op_mulA (pv 2) (@pe_fld _ _ _ _ _ (pv 0) rfl))) rfl) (@pss_one _ _ _ (@ps_fld _ _ _ _ _ _ _ _ (pv 0) (@pe_op _ _ _ _ _ _ _ _ op_sub (@pe_fld _ _ _ _ _ (pv 0) rfl) (@pe_op _ _ _ _ _ _ _ _ op_mulA (pv 2) (@pe_fld _ _ _ _ _ (pv 0) rfl))) rfl)))), ?_⟩
    refine ⟨_, rfl, q, a.Nb, dq, _, _, rfl, hq, T.cl_Neighbours, T.a_back, nf_back _ _ _ _, _, _, rfl, rfl, _, rfl, q, a.Nb, dq, _, _, rfl, hq, T.cl_Neighbours, T.a_near, nf_near _ _ _ _, _, _, rfl, rfl, ⟨u1, big_g bx⟩, _, rfl, _, _, rfl, ?_⟩
    have kq : Q .non (upd H q (.ins a.Nb dq (fBehind (if mo < (y - 1) / x then mo else (y - 1) / x) ah x bh y))) := kq
    have tb : Bd (if mo < (y - 1) / x then mo else (y - 1) / x) := tb
    dsimp only at kq ⊢
    generalize (if mo < (y - 1) / x then mo else (y - 1) / x) = t at tb kq ⊢
    refine ⟨_, rfl, q, a.Nb, dq, _, _, rfl, hq, T.cl_Neighbours, T.a_behind, nf_behind _ _ _ _, _, rfl, _, rfl, q, a.Nb, dq, _, _, rfl, hq, T.cl_Neighbours, T.a_ahead, nf_ahead _ _ _ _, _, _, rfl, rfl, mulB (big_g tb) (big_g bah), _, _, rfl, rfl, ?_⟩
    refine ⟨_, rfl, q, a.Nb, dq, _, rfl, hq, T.cl_Neighbours, T.a_behind, (by show 4 < 1000; decide), ?_⟩
    refine ⟨_, rfl, q, a.Nb, dq, _, _, rfl, upd_same, T.cl_Neighbours, T.a_back, rfl, _, rfl, _, rfl, q, a.Nb, dq, _, _, rfl, upd_same, T.cl_Neighbours, T.a_near, rfl, _, _, rfl, rfl, mulB (big_g tb) (big_g bx), _, _, rfl, rfl, ?_⟩
    refine ⟨_, rfl, q, a.Nb, dq, _, rfl, upd_same, T.cl_Neighbours, T.a_back, (by show 4 < 1000; decide), ?_⟩
    rw [upd_upd]
    unfold fBehind at kq
    rw [← nf_put3 ah x bh y] at kq
    exact kq
theorem Nbr.bd {n s ah x bh y : Int} (F : Nbr n s ah x bh y) (n2 : n ≤ G60) : Bd ah ∧ Bd x ∧ Bd bh ∧ Bd y := by
  have h1 : bh * 1 ≤ bh * x := Int.mul_le_mul_of_nonneg_left F.x1 (by have := F.b1; omega)
  have h2 : ah * 1 ≤ ah * y := Int.mul_le_mul_of_nonneg_left F.y1 (by have := F.a1; omega)
  have h3 := F.xn
  have := F.det; have := F.x1; have := F.y1; have := F.a1; have := F.b1; have := G60_pos
  exact ⟨⟨by omega, by omega⟩, ⟨by omega, by omega⟩, ⟨by omega, by omega⟩, ⟨by omega, by omega⟩⟩
/-- neighbours just made -/
theorem madeN {C : Addr} {H : Hp} {x dx : Addr} {fs : List (Str × V)} (hx : H x = none) (hdx : H dx = none) (ne : dx ≠ x) :
    Same H (upd (upd (upd H dx (.own x)) x (.ins C dx [])) x (.ins C dx fs)) := fun b o e => by
  rw [upd_ne (ne_of_none e hx), upd_ne (ne_of_none e hx), upd_ne (ne_of_none e hdx)]
  exact e
def spAround (K : PySem.W.Frag) (a : Adr) : Sp := fun vs H Q E => ∃ (p : Addr) (n st s0 l : Int) (b : V), vs = [.ref p, b] ∧ WheelAt a.W H p n st s0 l ∧ IsLap n st l ∧ Known K H b ∧
  (∀ m, b = .int m → 2 ≤ m → m ≤ l → ∀ (ah x bh y : Int) (r : Addr) (H' : Hp), Four n st m ah x bh y → Same H H' → H' r = some (.tup [.int ah, .int x, .int bh, .int y]) → Q (.ref r) H') ∧ (wholeIn b 2 l = false → E (.ref a.NoBeats) none H)
theorem ok_around (T : Txt K mg a) : FnOk P w K mg base (CXR P w) 3 a.around.f a.around.fd ["wheel", "many"] (spAround K a) := by
  refine T.F_around.okR sc_around (fun vs H Q E h => ?_) (fun cdv A outer s H vs Q E hr h => ?_)
  · obtain ⟨p, n, st, s0, l, b, rfl, _⟩ := h; rfl
  · obtain ⟨p, n, st, s0, l, b, rfl, W, L, kb, kq, ke⟩ := h
    obtain ⟨⟨dx, hp⟩, n1, n2, st1, st2, s1, s2⟩ := id W
    have l1 := L.l1
    have ln := L.ln
    have gp := G60_pos
    refine ⟨_, (@pss_cons _ _ _ _ _ (@ps_expr _ _ _ _ (pe_callS (ok_check_beats T) (hr.mono (by decide)) rfl T.m_check_beats T.F_check_beats.kp (b_check_beats T) .nil (pass_fn fun _ _ _ _ h => h) (@pa_consN _ _ _ _ _ (@pe_str _ _ _ _) (@pa_consN _ _ _ _ _ (pv 1) (@pa_consN _ _ _ _ _ (@pe_int _ _ _ _) (@pa_consN _ _ _ _ _ (@pe_fld _ _ _ _ _ (pv 0) rfl) (@pa_nil _) rfl) rfl) rfl) rfl)) (by rfl)) (@pss_cons _ _ _ _ _ (@ps_set _ _ 2 _ _ _ _ sc_around.nd rfl (Or.inl rfl) (pe_make T.mk_Neighbours (ok_Neighbours___init__ T) (hr.mono (by decide)) rfl T.m_Neighbours (b_Neighbours___init__ T) .nil passR (@pa_consN _ _ _ _ _ (pv 0) (@pa_nil _) rfl)) (by rfl) (by first | exact .inl rfl | exact .inr rfl | assumption)) (@pss_cons _ _ _ _ _ (@PS.nox _ _ _ (@ps_while _ _ _ _ _ _ PassesOwn.never (@pt_cmpR _ _ _ _ _ _ _ _ op_lt (@pe_op _ _ _ _ _ _ _ _ op_add (@pe_fld _ _ _ _ _ (pv 2) rfl) (@pe_fld _ _ _ _ _ (pv 2) rfl)) (pv 1) (nomark _)) (@pss_one _ _ _ (@ps_if _ _ _ _ _ _ _ _ (@pt_cmpR _ _ _ _ _ _ _ _ op_gt (@pe_fld _ _ _ _ _ (pv 2) rfl) (@pe_fld _ _ _ _ _ (pv 2) rfl) (nomark _)) (@pss_one _ _ _ (@ps_expr _ _ _ _ (pe_meth (pv 2) T.cl_Neighbours T.me_draw_ahead (ok_Neighbours_draw_ahead T) (hr.mono (by decide)) (b_Neighbours_draw_ahead T) .nil passR (@pa_consN _ _ _ _ _ (@pe_op _ _ _ _ _ _ _ _ op_fdivB (@pe_op _ _ _ _ _ _ _ _ op_sub (@pe_op _ _ _ _ _ _ _ _ op_sub (pv 1) (@pe_int _ _ _ _)) (@pe_fld _ _ _ _ _ (pv 2) rfl)) (@pe_fld _ _ _ _ _ (pv 2) rfl)) (@pa_nil _) rfl)) (by rfl))) (@pss_one _ _ _ (@ps_expr _ _ _ _ (pe_meth (pv 2) T.cl_Neighbours T.me_draw_behind (ok_Neighbours_draw_behind T) (hr.mono (by decide)) (b_Neighbours_draw_behind T) .nil passR (@pa_consN _ _ _ _ _ (@pe_op _ _ _ _ _ _ _ _ op_fdivB (@pe_op _ _ _ _ _ _ _ _ op_sub (@pe_op _ _ _ _ _ _ _ _ op_sub (pv 1) (@pe_int _ _ _ _)) (@pe_fld _ _ _ _ _ (pv 2) rfl)) (@pe_fld _ _ _ _ _ (pv 2) rfl)) (@pa_nil _) rfl)) (by rfl))))))) (@pss_one _ _ _ (@ps_ret _ _ _ _ (@pe_tup _ _ _ _ _ (@pa_consN _ _ _ _ _ (@pe_fld _ _ _ _ _ (pv 2) rfl) (@pa_consN _ _ _ _ _ (@pe_fld _ _ _ _ _ (pv 2) rfl) (@pa_consN _ _ _ _ _ (@pe_fld _ _ _ _ _ (pv 2) rfl) (@pa_consN _ _ _ _ _ (@pe_fld _ _ _ _ _ (pv 2) rfl) (@pa_nil _) rfl) rfl) rfl) rfl))))))), ?_⟩
    refine ⟨_, rfl, _, rfl, p, a.W, dx, _, _, rfl, hp, T.cl, T.a_lap, wf_lap _ _ _ _, _, b, 2, l, rfl, by decide, kb, ⟨by decide, by decide⟩, big_le ⟨by omega, by omega⟩, fun m e m1 m2 => ?_, ke⟩
    subst e
    have stp : 0 < st := by
      rcases (by omega : 0 < st ∨ st = 0) with z | z
      · exact z
      · exfalso
        have := L.least 1 (by decide) ⟨0, by rw [z]; simp⟩
        omega
    refine ⟨_, rfl, fun q dq hq hdq hne => ⟨q, dq, p, n, st, s0, l, rfl, upd_same, W.same (fun b o e => by rw [upd_ne (ne_of_none e hq), upd_ne (ne_of_none e hdq)]; exact e), rfl, ?_⟩⟩
    have sm := madeN (C := a.Nb) (fs := nf 1 st 1 (n - st)) hq hdq hne
    have at0 : (upd (upd (upd H dq (.own q)) q (.ins a.Nb dq [])) q (.ins a.Nb dq (nf 1 st 1 (n - st)))) q = some (.ins a.Nb dq (nf 1 st 1 (n - st))) := upd_same
    generalize upd (upd (upd H dq (.own q)) q (.ins a.Nb dq [])) q (.ins a.Nb dq (nf 1 st 1 (n - st))) = H1 at sm at0 ⊢
    refine ⟨fun k σ H' => ∃ (ah x bh y : Int), σ = [some (.ref p), some (.int m), some (.ref q)] ∧ Same H H' ∧ H' q = some (.ins a.Nb dq (nf ah x bh y)) ∧ Nbr n st ah x bh y ∧ ah < m ∧ bh < m ∧ k = (2 * m - ah - bh).toNat,
      ⟨_, 1, st, 1, n - st, rfl, sm, at0, Nbr.init stp st2, by omega, by omega, rfl⟩, ?_⟩
    rintro k σ H' ⟨ah, x, bh, y, rfl, sm', hq', N, am, bm, rfl⟩
    have a1 := N.a1; have b1 := N.b1; have x1 := N.x1; have y1 := N.y1
    obtain ⟨dah, dx_, dbh, dy⟩ := N.bd n2
    refine ⟨_, rfl, q, a.Nb, dq, _, _, rfl, hq', T.cl_Neighbours, T.a_ahead, nf_ahead _ _ _ _, _, rfl, q, a.Nb, dq, _, _, rfl, hq', T.cl_Neighbours, T.a_behind, nf_behind _ _ _ _, _, _, rfl, rfl, _, rfl, _, _, rfl, rfl, _, rfl, ?_⟩
    refine ite2 (fun h => ?_) (fun h => ?_)
    · have h : ah + bh < m := by simpa using h
      have ne := N.ne L (by omega)
      refine ⟨_, fun σ' H'' h => h, ?_⟩
      refine ⟨_, rfl, q, a.Nb, dq, _, _, rfl, hq', T.cl_Neighbours, T.a_near, nf_near _ _ _ _, _, rfl, q, a.Nb, dq, _, _, rfl, hq', T.cl_Neighbours, T.a_back, nf_back _ _ _ _, _, _, rfl, rfl, _, rfl, ?_⟩
      refine ite2 (fun c => ?_) (fun c => ?_)
      · have c : y < x := by simpa using c
        have qp := quot_pred x1 y1
        have ql := quot_left b1 h
        have tk := times_ok y1 b1 (qp.2.2 c) qp.2.1 ql.1 ql.2 rfl
        have db := div_abs (x := m - 1 - ah) (B := G60) b1 (by omega) (by omega)
        refine ⟨_, rfl, q, dq, _, rfl, hq', nf_no _ _ _ _, _, rfl, _, _, rfl, rfl, _, rfl, q, a.Nb, dq, _, _, rfl, hq', T.cl_Neighbours, T.a_ahead, nf_ahead _ _ _ _, _, _, rfl, rfl, _, rfl, q, a.Nb, dq, _, _, rfl, hq', T.cl_Neighbours, T.a_behind, nf_behind _ _ _ _, _, _, rfl, rfl, ⟨b1, big_g dbh⟩, ?_⟩
        refine ⟨q, dq, ah, x, bh, y, _, rfl, hq', dah, dx_, dbh, dy, db, y1, x1, ?_⟩
        dsimp only
        generalize (if (m - 1 - ah) / bh < (x - 1) / y then (m - 1 - ah) / bh else (x - 1) / y) = t at tk ⊢
        have tb : 1 * bh ≤ t * bh := Int.mul_le_mul_of_nonneg_right tk.1 (by omega)
        exact ⟨_, by omega, _, _, _, _, rfl, Same.old sm' hq, upd_same, N.ahead (by omega) tk.2.1, tk.2.2.1, bm, rfl⟩
      · have c : ¬ y < x := by simpa using c
        have qp := quot_pred y1 x1
        have ql := quot_left (m := m) (a := bh) a1 (by omega)
        have tk := times_ok x1 a1 (qp.2.2 (by omega)) qp.2.1 ql.1 ql.2 rfl
        have db := div_abs (x := m - 1 - bh) (B := G60) a1 (by omega) (by omega)
        refine ⟨_, rfl, q, dq, _, rfl, hq', nf_no _ _ _ _, _, rfl, _, _, rfl, rfl, _, rfl, q, a.Nb, dq, _, _, rfl, hq', T.cl_Neighbours, T.a_behind, nf_behind _ _ _ _, _, _, rfl, rfl, _, rfl, q, a.Nb, dq, _, _, rfl, hq', T.cl_Neighbours, T.a_ahead, nf_ahead _ _ _ _, _, _, rfl, rfl, ⟨a1, big_g dah⟩, ?_⟩
        refine ⟨q, dq, ah, x, bh, y, _, rfl, hq', dah, dx_, dbh, dy, db, x1, y1, ?_⟩
        dsimp only
        generalize (if (m - 1 - bh) / ah < (y - 1) / x then (m - 1 - bh) / ah else (y - 1) / x) = t at tk ⊢
        have tb : 1 * ah ≤ t * ah := Int.mul_le_mul_of_nonneg_right tk.1 (by omega)
        exact ⟨_, by omega, _, _, _, _, rfl, Same.old sm' hq, upd_same, N.behind (by omega) tk.2.1, am, tk.2.2.1, rfl⟩
    · have h : ¬ ah + bh < m := by simpa using h
      refine ⟨_, rfl, q, a.Nb, dq, _, _, rfl, hq', T.cl_Neighbours, T.a_ahead, nf_ahead _ _ _ _, _, rfl, q, a.Nb, dq, _, _, rfl, hq', T.cl_Neighbours, T.a_near, nf_near _ _ _ _, _, rfl, q, a.Nb, dq, _, _, rfl, hq', T.cl_Neighbours, T.a_behind, nf_behind _ _ _ _, _, rfl, q, a.Nb, dq, _, _, rfl, hq', T.cl_Neighbours, T.a_back, nf_back _ _ _ _, ?_⟩
      refine ⟨by show 4 ≤ sizeLine; decide, fun r hr => ?_⟩
      exact kq m rfl m1 m2 ah x bh y r _ ⟨N, am, bm, by omega⟩ (sm'.trans (Same.fresh hr)) upd_same
end
section
/-! ### tables of numbers by numbers, as the program keeps them -/
theorem dI_any {kvs : List (Int × Int)} {w : Int} : ((dI kvs).any fun kv => decide (kv.1 = (Sum.inl w : Key))) = kvs.any fun p => decide (p.1 = w) := by
  unfold dI
  rw [List.any_map]
  congr 1
  funext p
  show decide ((Sum.inl p.1 : Key) = Sum.inl w) = decide (p.1 = w)
  by_cases e : p.1 = w
  · rw [e]; simp
  · rw [decide_eq_false e, decide_eq_false (fun z => e (Sum.inl.inj z))]
theorem dI_put {kvs : List (Int × Int)} {w c : Int} : putK (dI kvs) (Sum.inl w : Key) (V.int c) = dI (putI kvs w c) := by
  unfold putK putI
  rw [dI_any]
  split
  · unfold dI
    rw [List.map_map, List.map_map]
    refine List.map_congr_left fun p _ => ?_
    show (if (Sum.inl p.1 : Key) = Sum.inl w then ((Sum.inl p.1 : Key), V.int c) else (Sum.inl p.1, V.int p.2)) = ((Sum.inl (if p.1 = w then (p.1, c) else p).1 : Key), V.int (if p.1 = w then (p.1, c) else p).2)
    by_cases e : p.1 = w
    · rw [if_pos e, if_pos (congrArg Sum.inl e)]
    · rw [if_neg e, if_neg (fun z => e (Sum.inl.inj z))]
  · unfold dI
    rw [List.map_append]; rfl
theorem dI_val : ∀ {kvs : List (Int × Int)} {w : Int}, (valV (dI kvs) (Sum.inl w : Key)).getD (.int 0) = .int (cntD kvs w)
  | [], _ => rfl
  | p :: r, w => by
    show (valV ((Sum.inl p.1, V.int p.2) :: dI r) (Sum.inl w : Key)).getD (.int 0) = .int (if p.1 = w then p.2 else cntD r w)
    by_cases e : p.1 = w
    · rw [valV_pos (congrArg Sum.inl e), if_pos e]; rfl
    · rw [valV_neg (fun z => e (Sum.inl.inj z)), if_neg e]
      exact dI_val
theorem dI_len (kvs : List (Int × Int)) : (dI kvs).length = kvs.length := List.length_map ..
/-- a row of pairs -/
def PairsL (H : Hp) (D : Addr) (kvs : List (Int × Int)) : Prop := ∃ ts : List Addr, H D = some (.lst (ts.map V.ref)) ∧ ts.length = kvs.length ∧ ∀ i t, ts[i]? = some t → H t = some (.tup [.int (kvs.getD i (0, 0)).1, .int (kvs.getD i (0, 0)).2])
theorem PairsL.same {H H' : Hp} {D : Addr} {kvs : List (Int × Int)} (s : Same H H') (h : PairsL H D kvs) : PairsL H' D kvs := by
  obtain ⟨ts, h1, h2, h3⟩ := h
  exact ⟨ts, s _ _ h1, h2, fun i t e => s _ _ (h3 i t e)⟩
theorem Same.none {H H' : Hp} {D : Addr} (s : Same H H') (h : H' D = none) : H D = none := by
  cases e : H D with
  | none => rfl
  | some o => rw [s _ _ e] at h; cases h
theorem sortD_of {H : Hp} {Q : VK} {v d : Addr} {kvs : List (Int × Int)} (hv : H v = some (.ext (viewAt v d))) (hd : H d = some (.dK (dI kvs))) (l1 : 1 ≤ kvs.length) (l64 : kvs.length < 64)
    (kq : ∀ (D : Addr) (H' : Hp) (l : List (Int × Int)), Same H H' → H D = none → l.Perm kvs → AscP l → PairsL H' D l → Q (.ref D) H') : rSortD [.ref v] H Q := by
  refine ⟨v, d, kvs, rfl, hv, hd, l1, l64, fun D ts pm H1 lt sm hts hD hp asc => ?_⟩
  have lp : pm.length = kvs.length := by rw [hp.length_eq, List.length_range]
  have rng : ∀ i, i < pm.length → pm.getD i 0 < kvs.length := fun i hi => by
    have : pm.getD i 0 ∈ pm := by simp [List.getD, hi]
    have := hp.mem_iff.mp this
    simpa using this
  have s1 : Same H1 (upd H1 D (.lst (pm.map fun i => V.ref (ts.getD i 0)))) := Same.fresh hD
  refine kq D _ (pm.map fun i => kvs.getD i (0, 0)) (sm.trans s1) (Same.none sm hD) ?_ ?_ ⟨pm.map fun i => ts.getD i 0, ?_, by simp, fun i t e => ?_⟩
  · have h1 := hp.map fun i => kvs.getD i ((0, 0) : Int × Int)
    have h2 : (List.range kvs.length).map (fun i => kvs.getD i ((0, 0) : Int × Int)) = kvs := by
      apply List.ext_getElem
      · simp
      · intro i u1 u2
        simp [List.getD, u2]
    rw [h2] at h1
    exact h1
  · unfold AscP
    rw [List.pairwise_iff_getElem]
    have key : ∀ (d i : Nat), i + d < pm.length → 0 < d → (kvs.getD (pm.getD i 0) (0, 0)).1 < (kvs.getD (pm.getD (i + d) 0) (0, 0)).1 := by
      intro d
      induction d with
      | zero => intro i _ h; omega
      | succ d ih =>
        intro i h1 _
        have s1 := asc (i + (d + 1)) (by omega) (by omega)
        rw [show i + (d + 1) - 1 = i + d by omega] at s1
        rcases (by omega : d = 0 ∨ 0 < d) with e | e
        · subst e; exact s1
        · have := ih i (by omega) e; omega
    intro i j hi hj ij
    have hi' : i < pm.length := by simpa using hi
    have hj' : j < pm.length := by simpa using hj
    have := key (j - i) i (by omega) (by omega)
    rw [show i + (j - i) = j by omega] at this
    rw [List.getElem_map, List.getElem_map]
    have e1 : pm.getD i 0 = pm[i] := by simp [List.getD, hi']
    have e2 : pm.getD j 0 = pm[j] := by simp [List.getD, hj']
    rw [e1, e2] at this
    exact this
  · rw [upd_same, List.map_map]; rfl
  · rw [List.getElem?_map] at e
    obtain ⟨j, ej, rfl⟩ := Option.map_eq_some_iff.mp e
    have hi : i < pm.length := (List.getElem?_eq_some_iff.mp ej).1
    have hj : j < kvs.length := by
      have := hp.mem_iff.mp (List.mem_of_getElem? ej)
      simpa using this
    have et : ts[j]? = some (ts.getD j 0) := by simp [List.getD, show j < ts.length by omega]
    have eg : (pm.map fun i => kvs.getD i ((0, 0) : Int × Int)).getD i (0, 0) = kvs.getD j (0, 0) := by
      simp [List.getD, ej]
    rw [eg]
    exact s1 _ _ (hts j _ et)
variable {P : Program} {w : World} {K : PySem.W.Frag} {mg : Str → Option Value} {base : Heap} {a : Adr}
def spCounts : Sp := fun vs H Q _ => ∃ m ah x bh y : Int, vs = [.int m, .int ah, .int x, .int bh, .int y] ∧ ∀ (D : Addr) (H' : Hp) (l : List (Int × Int)), Same H H' → H D = none → l.Perm (gapsD m ah x bh y) → AscP l → PairsL H' D l → Q (.ref D) H'
theorem ok_counted_gaps (T : Txt K mg a) : FnOk P w K mg base (CXR P w) 1 a.counted_gaps.f a.counted_gaps.fd ["many", "ahead", "near", "behind", "back"] spCounts := by
  refine T.F_counted_gaps.okN sc_counted_gaps (fun vs H Q E h => ?_) (fun cdv A outer s H vs Q E hr h => ?_)
  · obtain ⟨m, ah, x, bh, y, rfl, _⟩ := h; rfl
  · obtain ⟨m, ah, x, bh, y, rfl, kq⟩ := h
    refine ⟨_, (@pss_cons _ _ _ _ _ (@ps_set _ _ 5 _ _ _ _ sc_counted_gaps.nd rfl (Or.inl rfl) (pe_disp (pps_cons (pv 2) (@pe_op _ _ _ _ _ _ _ _ op_sub (pv 0) (pv 1)) pps_nil) rfl rfl (List.cons_ne_nil _ _) (by decide)) (by rfl) (by first | exact .inl rfl | exact .inr rfl | assumption)) (@pss_cons _ _ _ _ _ (ps_dput (hu_of hr) (pv 5) (pv 4) (@pe_op _ _ _ _ _ _ _ _ op_sub (@pe_op _ _ _ _ _ _ _ _ op_add (pe_dget2 (hu_of hr) (pv 5) (pv 4) (@pe_int _ _ _ _) ⟨rfl, rfl, rfl, rfl⟩) (pv 0)) (pv 3)) rfl) (@pss_cut _ _ _ _ _ (@ps_if _ _ _ _ _ _ _ _ (@pt_cmpR _ _ _ _ _ _ _ _ op_gt (@pe_op _ _ _ _ _ _ _ _ op_add (pv 1) (pv 3)) (pv 0) (nomark _)) (@pss_one _ _ _ (ps_dput (hu_of hr) (pv 5) (@pe_op _ _ _ _ _ _ _ _ op_add (pv 2) (pv 4)) (@pe_op _ _ _ _ _ _ _ _ op_sub (@pe_op _ _ _ _ _ _ _ _ op_add (pv 1) (pv 3)) (pv 0)) rfl)) (@pss_nil _)) (@pss_one _ _ _ (@ps_ret _ _ _ _ (pe_callB (call_sorted_items rfl) rfl T.n_sorted bt_sorted (@pa_consN _ _ _ _ _ (pe_bm0 PySem.F.plainAttrs_dict PySem.F.slot_dict_items PySem.F.type_dict_items mt_items (pv 5)) (@pa_nil _) rfl))))))), ?_⟩
    refine fun d hd => ⟨_, rfl, _, rfl, _, rfl, _, _, rfl, rfl, upd_same, [(Sum.inl x, .int (m - ah))], rfl, by show 1 ≤ 15; decide, ?_⟩
    rw [upd_upd, show mergeK [] [((Sum.inl x : Key), V.int (m - ah))] = dI [(x, m - ah)] from rfl]
    have s1 : Same H (upd H d (.dK (dI [(x, m - ah)]))) := Same.fresh hd
    have h1 : (upd H d (.dK (dI [(x, m - ah)]))) d = some (.dK (dI [(x, m - ah)])) := upd_same
    refine ⟨_, rfl, d, rfl, .inl ⟨_, .inl h1⟩, _, rfl, _, DGet.k (k := .inl y) h1, ?_⟩
    rw [dI_val]
    refine ⟨_, rfl, _, _, rfl, rfl, _, rfl, _, _, rfl, rfl, _, rfl, _, rfl, d, _, rfl, DPut.k (k := .inl y) h1 (by rw [sizeLine_eq]; show 1 < 16777216; decide), ?_⟩
    rw [upd_upd, dI_put]
    obtain ⟨k1, hk1⟩ : ∃ k1, putI [(x, m - ah)] y (cntD [(x, m - ah)] y + m - bh) = k1 := ⟨_, rfl⟩
    have lk : k1.length ≤ 2 := by rw [← hk1]; exact putI_len _ _ _
    dsimp only
    rw [hk1]
    have h2 : (upd H d (.dK (dI k1))) d = some (.dK (dI k1)) := upd_same
    have gE : gapsD m ah x bh y = if m < ah + bh then putI k1 (x + y) (ah + bh - m) else k1 := by
      unfold gapsD; rw [← hk1]
    refine ⟨fun σ' H' => σ' = [some (.int m), some (.int ah), some (.int x), some (.int bh), some (.int y), some (.ref d)] ∧ Same H H' ∧ H' d = some (.dK (dI (gapsD m ah x bh y))), ?_, ?_⟩
    · refine ⟨_, rfl, _, rfl, _, _, rfl, rfl, _, rfl, _, _, rfl, rfl, _, rfl, ?_⟩
      refine ite2 (fun h => ?_) (fun h => ?_)
      · have h : m < ah + bh := by simpa using h
        refine ⟨_, rfl, _, rfl, _, _, rfl, rfl, _, rfl, _, _, rfl, rfl, _, rfl, _, rfl, _, rfl, _, _, rfl, rfl, d, _, rfl, DPut.k (k := .inl (x + y)) h2 (by rw [dI_len, sizeLine_eq]; omega), ?_⟩
        rw [upd_upd, dI_put, gE, if_pos h]
        exact ⟨rfl, Same.fresh hd, upd_same⟩
      · have h : ¬ m < ah + bh := by simpa using h
        rw [gE, if_neg h]
        exact ⟨rfl, Same.fresh hd, h2⟩
    · rintro σ' H' ⟨rfl, sm, hd'⟩
      have gl := gapsD_len m ah x bh y
      refine ⟨_, rfl, .inr (.inr (.inl ⟨rfl, .inl ⟨_, hd'⟩⟩)), d, _, rfl, rfl, hd', fun v hv => ?_⟩
      have s3 : Same H' (upd H' v (.ext (viewAt v d))) := Same.fresh hv
      exact sortD_of upd_same (s3 _ _ hd') gl.1 (by omega) fun D H'' l s4 hn hp asc pl => kq D H'' l (sm.trans (s3.trans s4)) (Same.none sm (Same.none s3 hn)) hp asc pl
def spGaps (K : PySem.W.Frag) (a : Adr) : Sp := fun vs H Q E => ∃ (p : Addr) (n st s0 l : Int) (b : V), vs = [.ref p, b] ∧ WheelAt a.W H p n st s0 l ∧ IsLap n st l ∧ Known K H b ∧
  (∀ m, b = .int m → 1 ≤ m → m ≤ l → ∀ (D : Addr) (H' : Hp) (r : List (Int × Int)), Same H H' → H D = none → PairsL H' D r → AscP r → ((m = 1 ∧ r = [(n, 1)]) ∨ ∃ ah x bh y, Four n st m ah x bh y ∧ r.Perm (gapsD m ah x bh y)) → Q (.ref D) H') ∧ (wholeIn b 1 l = false → E (.ref a.NoBeats) none H)
theorem ok_gaps (T : Txt K mg a) : FnOk P w K mg base (CXR P w) 4 a.gaps.f a.gaps.fd ["wheel", "many"] (spGaps K a) := by
  refine T.F_gaps.okR sc_gaps (fun vs H Q E h => ?_) (fun cdv A outer s H vs Q E hr h => ?_)
  · obtain ⟨p, n, st, s0, l, b, rfl, _⟩ := h; rfl
  · obtain ⟨p, n, st, s0, l, b, rfl, W, L, kb, kq, ke⟩ := h
    obtain ⟨⟨dx, hp⟩, n1, n2, st1, st2, s1, s2⟩ := id W
    have l1 := L.l1
    have ln := L.ln
    have gp := G60_pos
    refine ⟨_, (@pss_cons _ _ _ _ _ (@ps_expr _ _ _ _ (pe_callS (ok_check_beats T) (hr.mono (by decide)) rfl T.m_check_beats T.F_check_beats.kp (b_check_beats T) .nil (pass_fn fun _ _ _ _ h => h) (@pa_consN _ _ _ _ _ (@pe_str _ _ _ _) (@pa_consN _ _ _ _ _ (pv 1) (@pa_consN _ _ _ _ _ (@pe_int _ _ _ _) (@pa_consN _ _ _ _ _ (@pe_fld _ _ _ _ _ (pv 0) rfl) (@pa_nil _) rfl) rfl) rfl) rfl)) (by rfl)) (@pss_cons _ _ _ _ _ (@ps_if _ _ _ _ _ _ _ _ (@pt_cmpR _ _ _ _ _ _ _ _ op_eq (pv 1) (@pe_int _ _ _ _) (nomark _)) (@pss_one _ _ _ (@ps_ret _ _ _ _ (@pe_lst _ _ _ _ (@pa_consN _ _ _ _ _ (@pe_tup _ _ _ _ _ (@pa_consN _ _ _ _ _ (@pe_fld _ _ _ _ _ (pv 0) rfl) (@pa_consN _ _ _ _ _ (@pe_int _ _ _ _) (@pa_nil _) rfl) rfl)) (@pa_nil _) rfl)))) (@pss_nil _)) (@pss_cons _ _ _ _ _ (@ps_set _ _ 2 _ _ _ _ sc_gaps.nd rfl (Or.inl rfl) (pe_callS (ok_around T) (hr.mono (by decide)) rfl T.m_around T.F_around.kp (b_around T) .nil (pass_fn fun _ _ _ _ h => h) (@pa_consN _ _ _ _ _ (pv 0) (@pa_consN _ _ _ _ _ (pv 1) (@pa_nil _) rfl) rfl)) (by rfl) (by first | exact .inl rfl | exact .inr rfl | assumption)) (@pss_one _ _ _ (@ps_ret _ _ _ _ (pe_call (ok_counted_gaps T) (hr.mono (by decide)) rfl T.m_counted_gaps T.F_counted_gaps.kp (b_counted_gaps T) .nil passR (@pa_consN _ _ _ _ _ (pv 1) (@pa_consN _ _ _ _ _ (@pe_ix _ _ _ _ _ _ _ ix_seq (pv 2) (@pe_int _ _ _ _) (fun _ _ => rfl)) (@pa_consN _ _ _ _ _ (@pe_ix _ _ _ _ _ _ _ ix_seq (pv 2) (@pe_int _ _ _ _) (fun _ _ => rfl)) (@pa_consN _ _ _ _ _ (@pe_ix _ _ _ _ _ _ _ ix_seq (pv 2) (@pe_int _ _ _ _) (fun _ _ => rfl)) (@pa_consN _ _ _ _ _ (@pe_ix _ _ _ _ _ _ _ ix_seq (pv 2) (@pe_int _ _ _ _) (fun _ _ => rfl)) (@pa_nil _) rfl) rfl) rfl) rfl) rfl))))))), ?_⟩
    refine ⟨_, rfl, _, rfl, p, a.W, dx, _, _, rfl, hp, T.cl, T.a_lap, wf_lap _ _ _ _, _, b, 1, l, rfl, by decide, kb, ⟨by decide, by decide⟩, big_le ⟨by omega, by omega⟩, fun m e m1 m2 => ?_, ke⟩
    subst e
    refine ⟨_, rfl, rfl, _, rfl, ?_⟩
    refine ite2 (fun h => ?_) (fun h => ?_)
    · have h : m = 1 := by simpa using h
      refine ⟨_, rfl, p, a.W, dx, _, _, rfl, hp, T.cl, T.a_size, wf_size _ _ _ _, by show 2 ≤ sizeLine; decide, fun t ht => ⟨by show 1 ≤ sizeLine; decide, fun D hD => ?_⟩⟩
      have e1 : Same H (upd H t (.tup [.int n, .int 1])) := Same.fresh ht
      have e2 : Same (upd H t (.tup [.int n, .int 1])) (upd (upd H t (.tup [.int n, .int 1])) D (.lst [.ref t])) := Same.fresh hD
      have hDn : H D = none := Same.none e1 hD
      refine kq m rfl m1 m2 D _ [(n, 1)] (e1.trans e2) hDn ⟨[t], upd_same, rfl, fun i t' e => ?_⟩ (by unfold AscP; simp) (.inl ⟨h, rfl⟩)
      cases i with
      | zero => cases e; exact e2 _ _ upd_same
      | succ i => cases e
    · have h : m ≠ 1 := by simpa using h
      refine ⟨_, rfl, _, rfl, p, n, st, s0, l, _, rfl, W, L, Known.int T _ _, fun m' e _ _ ah x bh y r H6 F sm6 hr6 => ?_, fun z => ?_⟩
      · cases e
        refine ⟨_, rfl, _, rfl, .inr (.inl ⟨r, _, _, _, rfl, rfl, SqT.of hr6, rfl, _, rfl, .inr (.inl ⟨r, _, _, _, rfl, rfl, SqT.of hr6, rfl, _, rfl, .inr (.inl ⟨r, _, _, _, rfl, rfl, SqT.of hr6, rfl, _, rfl, .inr (.inl ⟨r, _, _, _, rfl, rfl, SqT.of hr6, rfl, m, ah, x, bh, y, rfl, fun D H7 l sm7 hn hp asc pl => ?_⟩)⟩)⟩)⟩)⟩
        exact kq m rfl m1 m2 D H7 l (sm6.trans sm7) (Same.none sm6 hn) pl asc (.inr ⟨ah, x, bh, y, F, hp⟩)
      · rw [wholeIn_of (by omega) m2] at z; cases z
end

end Gh

namespace Gh
open PySem L2
section
variable {P : Program} {w : World} {K : PySem.W.Frag} {mg : Str → Option Value} {base : Heap} {a : Adr}
/-- a cell of the script, 0 behind its end -/
def spCell (K : PySem.W.Frag) : Sp := fun vs H Q _ => ∃ (p : Addr) (k : Int) (ns : List Int), vs = [.ref p, .int k] ∧ SqL K H p (ns.map V.int) ∧ 0 ≤ k ∧ Q (.int (ns.getD k.toNat 0)) H
theorem ok__law_cell_at (T : Txt K mg a) : FnOk P w K mg base (CXR P w) 1 a._law_cell_at.f a._law_cell_at.fd ["_law_script", "_law_k"] (spCell K) := by
  refine T.F__law_cell_at.okN sc__law_cell_at (fun vs H Q E h => ?_) (fun cdv A outer s H vs Q E hr h => ?_)
  · obtain ⟨p, k, ns, rfl, _⟩ := h; rfl
  · obtain ⟨p, k, ns, rfl, hs, k0, kq⟩ := h
    refine ⟨_, (@pss_cons _ _ _ _ _ (@ps_if _ _ _ _ _ _ _ _ (@pt_cmpR _ _ _ _ _ _ _ _ op_lt (pv 1) (pe_callB call_len_seq rfl T.n_len bt_len (@pa_consN _ _ _ _ _ (pv 0) (@pa_nil _) rfl)) (nomark _)) (@pss_one _ _ _ (@ps_ret _ _ _ _ (@pe_ix _ _ _ _ _ _ _ ix_seq (pv 0) (pv 1) (fun _ _ => rfl)))) (@pss_nil _)) (@pss_one _ _ _ (@ps_ret _ _ _ _ (@pe_int _ _ _ _)))), ?_⟩
    refine ⟨_, rfl, _, rfl, p, _, rfl, .inl hs, _, _, rfl, rfl, _, rfl, ?_⟩
    refine ite2 (fun h => ?_) (fun h => ?_)
    · have h : k < ((ns.map V.int).length : Int) := by simpa using h
      rw [List.length_map] at h
      refine ⟨_, rfl, _, rfl, .inl ⟨p, _, _, _, rfl, rfl, hs, ?_, kq⟩⟩
      have e : k = ((k.toNat : Nat) : Int) := by omega
      rw [e]
      exact atI_nat (getD_ints ns _ (by omega))
    · have h : ¬ k < ((ns.map V.int).length : Int) := by simpa using h
      rw [List.length_map] at h
      have e : ns.getD k.toNat 0 = 0 := by
        rw [List.getD_eq_getElem?_getD, List.getElem?_eq_none (by omega)]
        rfl
      rw [e] at kq
      exact kq
def spIsWhole : Sp := fun vs H Q _ => ∃ v : Int, vs = [.int v] ∧ Q (.bl true) H
theorem ok__law_whole (T : Txt K mg a) : FnOk P w K mg base (CXR P w) 1 a._law_whole.f a._law_whole.fd ["_law_found"] spIsWhole := by
  refine T.F__law_whole.okN sc__law_whole (fun vs H Q E h => ?_) (fun cdv A outer s H vs Q E hr h => ?_)
  · obtain ⟨v, rfl, _⟩ := h; rfl
  · obtain ⟨v, rfl, kq⟩ := h
    refine ⟨_, (@pss_one _ _ _ (@ps_ret _ _ _ _ (@pe_and _ _ _ _ _ _ _ (pe_callB call_isi rfl T.n_isinstance bt_isinstance (@pa_consN _ _ _ _ _ (pv 0) (@pa_consN _ _ _ _ _ (pe_ty rfl T.n_int bt_int) (@pa_nil _) rfl) rfl)) (@pe_one _ _ _ _ _ (@pe_not _ _ _ _ (pe_callB call_isi rfl T.n_isinstance bt_isinstance (@pa_consN _ _ _ _ _ (pv 0) (@pa_consN _ _ _ _ _ (pe_ty rfl T.n_bool bt_bool) (@pa_nil _) rfl) rfl))))))), ?_⟩
    refine ⟨_, rfl, _, _, _, _, _, rfl, .int v, rfl, T.ii, _, rfl, iteT ?_⟩
    exact ⟨_, rfl, _, _, _, _, _, rfl, .int v, rfl, T.ib, _, rfl, kq⟩
end
theorem Known.no {K : PySem.W.Frag} {H : Hp} {x : V} {t : Value} {b : Bool} (ty : TyOf K H x t) (k : PySem.W.kitOne K t (.type "bool") = some b ∧ PySem.W.kitOne K t (.type "int") = some b) (n : ∀ v, x ≠ .int v) : Known K H x :=
  ⟨t, b, b, ty, k.1, k.2, fun e1 e2 => (by rw [e1] at e2; cases e2), fun _ => n⟩
section
variable {P : Program} {w : World} {K : PySem.W.Frag} {mg : Str → Option Value} {base : Heap} {a : Adr}
def spDivisor : Sp := fun vs H Q _ => ∃ p q : Int, vs = [.int p, .int q] ∧ 0 ≤ p ∧ 0 ≤ q ∧ Q (.int (Int.gcd p q : Nat)) H
theorem ok__law_divisor (T : Txt K mg a) : FnOk P w K mg base (CXR P w) 1 a._law_divisor.f a._law_divisor.fd ["_law_one", "_law_other"] spDivisor := by
  refine T.F__law_divisor.okN sc__law_divisor (fun vs H Q E h => ?_) (fun cdv A outer s H vs Q E hr h => ?_)
  · obtain ⟨p, q, rfl, _⟩ := h; rfl
  · obtain ⟨p, q, rfl, hp, hq, k⟩ := h
    refine ⟨_, (@pss_cons _ _ _ _ _ (@ps_while _ _ _ _ _ _ PassesOwn.never (@pt_cmpR _ _ _ _ _ _ _ _ op_gt (pv 1) (@pe_int _ _ _ _) (nomark _)) (@pss_cons _ _ _ _ _ (@ps_set _ _ 2 _ _ _ _ sc__law_divisor.nd rfl (Or.inl rfl) (@pe_op _ _ _ _ _ _ _ _ op_mod (pv 0) (pv 1)) (by rfl) (by first | exact .inl rfl | exact .inr rfl | assumption)) (@pss_cons _ _ _ _ _ (@ps_set _ _ 0 _ _ _ _ sc__law_divisor.nd rfl (Or.inl rfl) (pv 1) (by rfl) (by first | exact .inl rfl | exact .inr rfl | assumption)) (@pss_one _ _ _ (@ps_set _ _ 1 _ _ _ _ sc__law_divisor.nd rfl (Or.inl rfl) (pv 2) (by rfl) (by first | exact .inl rfl | exact .inr rfl | assumption)))))) (@pss_one _ _ _ (@ps_ret _ _ _ _ (pv 0)))), ?_⟩
    refine ⟨fun n σ H' => ∃ (p' q' : Int) (r : Option V), σ = [some (.int p'), some (.int q'), r] ∧ H' = H ∧ 0 ≤ p' ∧ 0 ≤ q' ∧ Int.gcd p' q' = Int.gcd p q ∧ n = q'.toNat, ⟨_, p, q, none, rfl, rfl, hp, hq, rfl, rfl⟩, ?_⟩
    rintro n σ H' ⟨p', q', r, rfl, rfl, hp', hq', hg, rfl⟩
    refine ⟨_, rfl, _, _, rfl, rfl, _, rfl, ?_⟩
    by_cases z : q' = 0
    · subst z
      refine iteF ⟨_, rfl, ?_⟩
      have e : p' = ((Int.gcd p q : Nat) : Int) := by rw [← hg, Int.gcd_zero_right]; omega
      rw [e]
      exact k
    · refine iteP (decide_eq_true (by omega)) ⟨_, fun σ' H'' h => h, ?_⟩
      refine ⟨_, rfl, _, rfl, _, _, rfl, rfl, (by show (0 : Int) < q'; omega), _, rfl, _, rfl, ?_⟩
      have lt := Int.emod_lt_of_pos p' (by omega : 0 < q')
      have nn := Int.emod_nonneg p' (by omega : q' ≠ 0)
      exact ⟨_, by omega, _, _, _, rfl, rfl, hq', nn, (gcd_step hq' hp').trans hg, rfl⟩
theorem share_le {m s : Int} (hs : 1 ≤ s) (hm : 0 ≤ m) : 0 ≤ m / s ∧ s * (m / s) ≤ m := by
  refine ⟨Int.ediv_nonneg hm (by omega), ?_⟩
  have e := Int.mul_ediv_add_emod m s
  have := Int.emod_nonneg m (by omega : s ≠ 0)
  omega
theorem share_mul {m s c : Int} (hs : 1 ≤ s) (hm : 0 ≤ m) (hc0 : 0 ≤ c) (hc : c ≤ m / s) : 0 ≤ s * c ∧ s * c ≤ m := by
  have h := share_le hs hm
  refine ⟨Int.mul_nonneg (by omega) hc0, ?_⟩
  have := Int.mul_le_mul_of_nonneg_left hc (by omega : 0 ≤ s)
  omega
def spSigned : Sp := fun vs H Q _ => ∃ c sh : Int, vs = [.int c, .int sh] ∧ 1 ≤ sh ∧ sh ≤ G60 ∧ ∀ r : Int, -G60 ≤ r → r ≤ G60 → Q (.int r) H
theorem ok__law_signed (T : Txt K mg a) : FnOk P w K mg base (CXR P w) 1 a._law_signed.f a._law_signed.fd ["_law_cell", "_law_share"] spSigned := by
  refine T.F__law_signed.okN sc__law_signed (fun vs H Q E h => ?_) (fun cdv A outer s H vs Q E hr h => ?_)
  · obtain ⟨c, sh, rfl, _⟩ := h; rfl
  · obtain ⟨c, sh, rfl, h1, h2, kq⟩ := h
    refine ⟨_, (@pss_cons _ _ _ _ _ (@ps_set _ _ 2 _ _ _ _ sc__law_signed.nd rfl (Or.inl rfl) (@pe_op _ _ _ _ _ _ _ _ op_fdivB (@pe_op _ _ _ _ _ _ _ _ op_pow (@pe_int _ _ _ _) (@pe_int _ _ _ _)) (pv 1)) (by rfl) (by first | exact .inl rfl | exact .inr rfl | assumption)) (@pss_cons _ _ _ _ _ (@ps_set _ _ 3 _ _ _ _ sc__law_signed.nd rfl (Or.inl rfl) (@pe_op _ _ _ _ _ _ _ _ op_mulA (pv 1) (@pe_op _ _ _ _ _ _ _ _ op_mod (@pe_op _ _ _ _ _ _ _ _ op_fdivB (pv 0) (@pe_int _ _ _ _)) (@pe_op _ _ _ _ _ _ _ _ op_add (pv 2) (@pe_int _ _ _ _)))) (by rfl) (by first | exact .inl rfl | exact .inr rfl | assumption)) (@pss_cons _ _ _ _ _ (@ps_if _ _ _ _ _ _ _ _ (@pt_cmpR _ _ _ _ _ _ _ _ op_eq (@pe_op _ _ _ _ _ _ _ _ op_mod (pv 0) (@pe_int _ _ _ _)) (@pe_int _ _ _ _) (nomark _)) (@pss_one _ _ _ (@ps_ret _ _ _ _ (@pe_op _ _ _ _ _ _ _ _ op_sub (@pe_int _ _ _ _) (pv 3)))) (@pss_nil _)) (@pss_one _ _ _ (@ps_ret _ _ _ _ (pv 3)))))), ?_⟩
    refine ⟨_, _, rfl, rfl, pw_ok _ (by decide) (by decide), _, rfl, _, _, rfl, rfl, cdivS (by show 0 < sh; omega) h2, ?_⟩
    dsimp only
    rw [pow60]
    have d := share_le h1 (show 0 ≤ G60 by decide)
    have b1 := Int.emod_nonneg (c / 2) (show G60 / sh + 1 ≠ 0 by omega)
    have b2 := Int.emod_lt_of_pos (c / 2) (show 0 < G60 / sh + 1 by omega)
    have m := share_mul h1 (show 0 ≤ G60 by decide) b1 (by omega)
    have d2 : G60 / sh ≤ G60 := Int.ediv_le_self sh (by decide)
    refine ⟨_, rfl, _, rfl, _, _, rfl, rfl, cdivS (by decide) (by decide), _, rfl, _, _, rfl, rfl, _, _, rfl, rfl, (by show 0 < G60 / sh + 1; omega), _, _, rfl, rfl, mulB (big_g ⟨by omega, by omega⟩) (big_g ⟨by have := G60_pos; omega, by omega⟩), ?_⟩
    refine ⟨_, rfl, _, _, rfl, rfl, (by show (0 : Int) < 2; decide), rfl, _, rfl, ?_⟩
    refine ite2 (fun h => ?_) (fun h => ?_)
    · exact ⟨_, rfl, _, _, rfl, rfl, kq _ (by omega) (by omega)⟩
    · exact ⟨_, rfl, kq _ (by omega) (by omega)⟩
def topOf (y : Int) : Int := if y = 0 then 40 else if y = 3 then G60 else 1000000000000000000
theorem topOf_le (y : Int) : 1 ≤ topOf y ∧ topOf y ≤ G60 := by
  unfold topOf
  have : (1000000000000000000 : Int) ≤ G60 := by decide
  have : (40 : Int) ≤ G60 := by decide
  split
  · omega
  · split <;> omega
def spDrawn (K : PySem.W.Frag) : Sp := fun vs H Q _ => ∃ (p : Addr) (ns : List Int), vs = [.ref p] ∧ SqL K H p (ns.map V.int) ∧ (∀ x ∈ ns, Builtin.Int.intBits x ≤ 2 ^ 20) ∧
  ∀ (q : Addr) (n st s0 : Int) (H' : Hp), Same H H' → H' q = some (.lst [.int n, .int st, .int s0]) → 1 ≤ n → n ≤ G60 → -G60 ≤ st → st ≤ G60 → -G60 ≤ s0 → s0 ≤ G60 → Q (.ref q) H'
theorem ok__law_drawn (T : Txt K mg a) : FnOk P w K mg base (CXR P w) 2 a._law_drawn.f a._law_drawn.fd ["_law_script"] (spDrawn K) := by
  refine T.F__law_drawn.okN sc__law_drawn (fun vs H Q E h => ?_) (fun cdv A outer s H vs Q E hr h => ?_)
  · obtain ⟨p, ns, rfl, _⟩ := h; rfl
  · obtain ⟨p, ns, rfl, hS, hb, kq⟩ := h
    refine ⟨_, (@pss_cons _ _ _ _ _ (@ps_set _ _ 1 _ _ _ _ sc__law_drawn.nd rfl (Or.inl rfl) (@pe_op _ _ _ _ _ _ _ _ op_mod (pe_call (ok__law_cell_at T) (hr.mono (by decide)) rfl T.m__law_cell_at T.F__law_cell_at.kp (b__law_cell_at T) .nil passR (@pa_consN _ _ _ _ _ (pv 0) (@pa_consN _ _ _ _ _ (@pe_int _ _ _ _) (@pa_nil _) rfl) rfl)) (@pe_int _ _ _ _)) (by rfl) (by first | exact .inl rfl | exact .inr rfl | assumption)) (@pss_cons _ _ _ _ _ (@ps_set _ _ 2 _ _ _ _ sc__law_drawn.nd rfl (Or.inl rfl) (@pe_int _ _ _ _) (by rfl) (by first | exact .inl rfl | exact .inr rfl | assumption)) (@pss_cut _ _ _ _ _ (@ps_if _ _ _ _ _ _ _ _ (@pt_cmpR _ _ _ _ _ _ _ _ op_eq (@pe_op _ _ _ _ _ _ _ _ op_mod (@pe_op _ _ _ _ _ _ _ _ op_fdivB (pe_call (ok__law_cell_at T) (hr.mono (by decide)) rfl T.m__law_cell_at T.F__law_cell_at.kp (b__law_cell_at T) .nil passR (@pa_consN _ _ _ _ _ (pv 0) (@pa_consN _ _ _ _ _ (@pe_int _ _ _ _) (@pa_nil _) rfl) rfl)) (@pe_int _ _ _ _)) (@pe_int _ _ _ _)) (@pe_int _ _ _ _) (nomark _)) (@pss_one _ _ _ (@ps_set _ _ 2 _ _ _ _ sc__law_drawn.nd rfl (Or.inl rfl) (@pe_op _ _ _ _ _ _ _ _ op_add (@pe_int _ _ _ _) (@pe_op _ _ _ _ _ _ _ _ op_mod (pe_call (ok__law_cell_at T) (hr.mono (by decide)) rfl T.m__law_cell_at T.F__law_cell_at.kp (b__law_cell_at T) .nil passR (@pa_consN _ _ _ _ _ (pv 0) (@pa_consN _ _ _ _ _ (@pe_int _ _ _ _) (@pa_nil _) rfl) rfl)) (@pe_ix _ _ _ _ _ _ _ ix_seq (@pe_lst _ _ _ _ (@pa_consN _ _ _ _ _ (@pe_int _ _ _ _) (@pa_consN _ _ _ _ _ (@pe_op _ _ _ _ _ _ _ _ op_pow (@pe_int _ _ _ _) (@pe_int _ _ _ _)) (@pa_consN _ _ _ _ _ (@pe_op _ _ _ _ _ _ _ _ op_pow (@pe_int _ _ _ _) (@pe_int _ _ _ _)) (@pa_consN _ _ _ _ _ (@pe_op _ _ _ _ _ _ _ _ op_pow (@pe_int _ _ _ _) (@pe_int _ _ _ _)) (@pa_nil _) rfl) rfl) rfl) rfl)) (pv 1) (fun _ _ => rfl)))) (by rfl) (by first | exact .inl rfl | exact .inr rfl | assumption))) (@pss_nil _)) (@pss_cons _ _ _ _ _ (@ps_set _ _ 3 _ _ _ _ sc__law_drawn.nd rfl (Or.inl rfl) (@pe_ix _ _ _ _ _ _ _ ix_seq (@pe_lst _ _ _ _ (@pa_consN _ _ _ _ _ (@pe_int _ _ _ _) (@pa_consN _ _ _ _ _ (@pe_op _ _ _ _ _ _ _ _ op_pow (@pe_int _ _ _ _) (@pe_int _ _ _ _)) (@pa_consN _ _ _ _ _ (@pe_op _ _ _ _ _ _ _ _ op_pow (@pe_int _ _ _ _) (@pe_int _ _ _ _)) (@pa_consN _ _ _ _ _ (@pe_op _ _ _ _ _ _ _ _ op_pow (@pe_int _ _ _ _) (@pe_int _ _ _ _)) (@pa_nil _) rfl) rfl) rfl) rfl)) (pv 1) (fun _ _ => rfl)) (by rfl) (by first | exact .inl rfl | exact .inr rfl | assumption)) (@pss_cons _ _ _ _ _ (@ps_set _ _ 4 _ _ _ _ sc__law_drawn.nd rfl (Or.inl rfl) (@pe_op _ _ _ _ _ _ _ _ op_mulA (pv 2) (@pe_op _ _ _ _ _ _ _ _ op_add (@pe_int _ _ _ _) (@pe_op _ _ _ _ _ _ _ _ op_mod (@pe_op _ _ _ _ _ _ _ _ op_mulA (pe_call (ok__law_cell_at T) (hr.mono (by decide)) rfl T.m__law_cell_at T.F__law_cell_at.kp (b__law_cell_at T) .nil passR (@pa_consN _ _ _ _ _ (pv 0) (@pa_consN _ _ _ _ _ (@pe_int _ _ _ _) (@pa_nil _) rfl) rfl)) (@pe_op _ _ _ _ _ _ _ _ op_add (@pe_op _ _ _ _ _ _ _ _ op_pow (@pe_int _ _ _ _) (@pe_int _ _ _ _)) (@pe_int _ _ _ _))) (@pe_op _ _ _ _ _ _ _ _ op_fdivB (pv 3) (pv 2))))) (by rfl) (by first | exact .inl rfl | exact .inr rfl | assumption)) (@pss_one _ _ _ (@ps_ret _ _ _ _ (@pe_lst _ _ _ _ (@pa_consN _ _ _ _ _ (pv 4) (@pa_consN _ _ _ _ _ (pe_call (ok__law_signed T) (hr.mono (by decide)) rfl T.m__law_signed T.F__law_signed.kp (b__law_signed T) .nil passR (@pa_consN _ _ _ _ _ (pe_call (ok__law_cell_at T) (hr.mono (by decide)) rfl T.m__law_cell_at T.F__law_cell_at.kp (b__law_cell_at T) .nil passR (@pa_consN _ _ _ _ _ (pv 0) (@pa_consN _ _ _ _ _ (@pe_int _ _ _ _) (@pa_nil _) rfl) rfl)) (@pa_consN _ _ _ _ _ (pv 2) (@pa_nil _) rfl) rfl)) (@pa_consN _ _ _ _ _ (pe_call (ok__law_signed T) (hr.mono (by decide)) rfl T.m__law_signed T.F__law_signed.kp (b__law_signed T) .nil passR (@pa_consN _ _ _ _ _ (pe_call (ok__law_cell_at T) (hr.mono (by decide)) rfl T.m__law_cell_at T.F__law_cell_at.kp (b__law_cell_at T) .nil passR (@pa_consN _ _ _ _ _ (pv 0) (@pa_consN _ _ _ _ _ (@pe_int _ _ _ _) (@pa_nil _) rfl) rfl)) (@pa_consN _ _ _ _ _ (@pe_int _ _ _ _) (@pa_nil _) rfl) rfl)) (@pa_nil _) rfl) rfl) rfl))))))))), ?_⟩
    refine ⟨_, rfl, p, 0, ns, rfl, hS, by decide, _, _, rfl, rfl, (by show (0 : Int) < 4; decide), ?_⟩
    dsimp only
    obtain ⟨y, hy⟩ : ∃ y, ns.getD (0 : Int).toNat 0 % 4 = y := ⟨_, rfl⟩
    rw [hy]
    have y4 : y = 0 ∨ y = 1 ∨ y = 2 ∨ y = 3 := by omega
    have tp := topOf_le y
    refine ⟨fun σ' H' => ∃ sh : Int, σ' = [some (.ref p), some (.int y), some (.int sh), none, none] ∧ Same H H' ∧ 1 ≤ sh ∧ sh ≤ topOf y, ?_, ?_⟩
    · refine ⟨_, rfl, p, 0, ns, rfl, hS, by decide, _, _, rfl, rfl, cdivS (by decide) (by decide), _, _, rfl, rfl, (by show (0 : Int) < 2; decide), rfl, _, rfl, ?_⟩
      refine ite2 (fun _ => ?_) (fun _ => ?_)
      · refine ⟨_, rfl, p, 4, ns, rfl, hS, by decide, _, _, rfl, rfl, pw_ok _ (by decide) (by decide), _, _, rfl, rfl, pw_ok _ (by decide) (by decide), _, _, rfl, rfl, pw_ok _ (by decide) (by decide), by decide, fun pL hL => ?_⟩
        obtain ⟨M, hM, M1, M2⟩ : ∃ M : Int, atI [V.int 6, V.int ((10 : Int) ^ (9 : Int).toNat), V.int ((10 : Int) ^ (9 : Int).toNat), V.int ((10 : Int) ^ (30 : Int).toNat)] y = some (.int M) ∧ 1 ≤ M ∧ M ≤ topOf y := by
          rcases y4 with e | e | e | e <;> subst e
          · exact ⟨6, rfl, by decide, by decide⟩
          · exact ⟨_, rfl, by decide, by decide⟩
          · exact ⟨_, rfl, by decide, by decide⟩
          · exact ⟨_, rfl, by decide, by decide⟩
        refine ⟨_, rfl, .inl ⟨pL, _, _, _, rfl, rfl, SqL.of upd_same, hM, _, _, rfl, rfl, (by show (0 : Int) < M; omega), _, _, rfl, rfl, ?_⟩⟩
        have q1 := Int.emod_nonneg (ns.getD (4 : Int).toNat 0) (by omega : M ≠ 0)
        have q2 := Int.emod_lt_of_pos (ns.getD (4 : Int).toNat 0) (by omega : 0 < M)
        exact ⟨_, rfl, Same.fresh hL, by omega, by omega⟩
      · exact ⟨1, rfl, Same.refl H, by omega, by omega⟩
    · rintro σ' H1 ⟨sh, rfl, s1, sh1, sh2⟩
      refine ⟨_, _, rfl, rfl, pw_ok _ (by decide) (by decide), _, _, rfl, rfl, pw_ok _ (by decide) (by decide), _, _, rfl, rfl, pw_ok _ (by decide) (by decide), by decide, fun pL hL => ?_⟩
      have hM : atI [V.int 40, V.int ((10 : Int) ^ (18 : Int).toNat), V.int ((10 : Int) ^ (18 : Int).toNat), V.int ((10 : Int) ^ (60 : Int).toNat)] y = some (.int (topOf y)) := by
        rcases y4 with e | e | e | e <;> subst e
        · rfl
        · rw [pow18]; rfl
        · rw [pow18]; rfl
        · rw [pow60]; rfl
      refine ⟨_, rfl, .inl ⟨pL, _, _, _, rfl, rfl, SqL.of upd_same, hM, ?_⟩⟩
      have s2 := s1.trans (Same.fresh (o := .lst [V.int 40, V.int ((10 : Int) ^ (18 : Int).toNat), V.int ((10 : Int) ^ (18 : Int).toNat), V.int ((10 : Int) ^ (60 : Int).toNat)]) hL)
      generalize upd H1 pL (.lst [V.int 40, V.int ((10 : Int) ^ (18 : Int).toNat), V.int ((10 : Int) ^ (18 : Int).toNat), V.int ((10 : Int) ^ (60 : Int).toNat)]) = H2 at s2 ⊢
      have hS2 := s2.seq hS
      have d := share_le sh1 (show 0 ≤ topOf y by omega)
      have d1 : 1 ≤ topOf y / sh := (Int.le_ediv_iff_mul_le (by omega)).mpr (by omega)
      have d2 : topOf y / sh ≤ topOf y := Int.ediv_le_self sh (by omega)
      refine ⟨_, rfl, _, rfl, p, 1, ns, rfl, hS2, by decide, _, _, rfl, rfl, pw_ok _ (by decide) (by decide), _, _, rfl, rfl, _, _, rfl, rfl, mulS (bits_cell hb _) (big_g (by rw [pow45]; exact ⟨by decide, by decide⟩)), _, rfl, _, rfl, _, _, rfl, rfl, cdivS (by show 0 < sh; omega) (by omega), _, _, rfl, rfl, (by show 0 < topOf y / sh; omega), ?_⟩
      obtain ⟨c, hc, c1, c2⟩ : ∃ c : Int, ns.getD (1 : Int).toNat 0 * ((10 : Int) ^ (45 : Int).toNat + 7) % (topOf y / sh) = c ∧ 0 ≤ c ∧ c < topOf y / sh := ⟨_, rfl, Int.emod_nonneg _ (by omega), Int.emod_lt_of_pos _ (by omega)⟩
      have m := share_mul (c := 1 + c) sh1 (show 0 ≤ topOf y by omega) (by omega) (by omega)
      have m1 : 1 ≤ sh * (1 + c) := by
        have := Int.mul_le_mul sh1 (show 1 ≤ 1 + c by omega) (by decide) (by omega)
        omega
      refine ⟨_, _, rfl, rfl, ?_⟩
      dsimp only
      rw [hc]
      refine ⟨_, _, rfl, rfl, mulB (big_g ⟨by have := G60_pos; omega, by omega⟩) (big_g ⟨by have := G60_pos; omega, by omega⟩), ?_⟩
      refine ⟨_, rfl, _, rfl, p, 2, ns, rfl, hS2, by decide, _, rfl, _, sh, rfl, sh1, by omega, fun st st1 st2 => ?_⟩
      refine ⟨_, rfl, p, 3, ns, rfl, hS2, by decide, _, 1, rfl, by decide, by decide, fun s0 s01 s02 => ?_⟩
      refine ⟨by show 3 ≤ sizeLine; decide, fun q hq => ?_⟩
      exact kq q _ st s0 _ (s2.trans (Same.fresh hq)) upd_same m1 (by omega) st1 st2 s01 s02
end
theorem wholeIn_not {v l m : Int} (h : v < l ∨ m < v) : wholeIn (.int v) l m = false := by
  show (decide (l ≤ v) && decide (v ≤ m)) = false
  rw [Bool.and_eq_false_iff]
  rcases h with h | h
  · exact .inl (decide_eq_false (by omega))
  · exact .inr (decide_eq_false (by omega))
section
variable {P : Program} {w : World} {K : PySem.W.Frag} {mg : Str → Option Value} {base : Heap} {a : Adr}
theorem lapOf_is {n st : Int} (n1 : 1 ≤ n) : IsLap n (st % n) (lapOf n st) := lap_is n1 (Int.emod_nonneg _ (by omega))
/-- the four hold for the step as it was handed in -/
theorem Four.shown {n st m ah x bh y : Int} (F : Four n (st % n) m ah x bh y) : (ah * st - x) % n = 0 ∧ (bh * st + y) % n = 0 := by
  obtain ⟨t1, h1⟩ := F.ax
  obtain ⟨t2, h2⟩ := F.yb
  have d := Int.mul_ediv_add_emod st n
  generalize st % n = r at *
  generalize st / n = q at *
  subst d
  constructor
  · exact Int.emod_eq_zero_of_dvd ⟨ah * q + t1, by grind⟩
  · exact Int.emod_eq_zero_of_dvd ⟨bh * q + t2, by grind⟩
def spShown : Sp := fun vs H Q _ => ∃ (r : Addr) (n st m ah x bh y : Int), vs = [.ref r, .int n, .int st, .int m] ∧ H r = some (.tup [.int ah, .int x, .int bh, .int y]) ∧ Four n (st % n) m ah x bh y ∧ n ≤ G60 ∧ Bd st ∧ Q (.bl true) H
theorem ok__law_shown (T : Txt K mg a) : FnOk P w K mg base (CXR P w) 2 a._law_shown.f a._law_shown.fd ["_law_found", "_law_size", "_law_step", "_law_many"] spShown := by
  refine T.F__law_shown.okN sc__law_shown (fun vs H Q E h => ?_) (fun cdv A outer s H vs Q E hr h => ?_)
  · obtain ⟨r, n, st, m, ah, x, bh, y, rfl, _⟩ := h; rfl
  · obtain ⟨r, n, st, m, ah, x, bh, y, rfl, hr', F, n2, bst, kq⟩ := h
    have n1 := F.n1
    obtain ⟨dah, dx_, dbh, dy⟩ := F.toNbr.bd n2
    have sh := F.shown
    have a1 := F.a1; have b1 := F.b1; have x1 := F.x1; have y1 := F.y1; have a2 := F.a2; have b2 := F.b2; have sm := F.sum; have dt := F.det
    refine ⟨_, (@pss_cons _ _ _ _ _ (@ps_if _ _ _ _ _ _ _ _ (@PW.pt _ _ _ (@pw_or _ _ _ _ _ _ _ (@pt_not _ _ _ _ (@pt_val _ _ _ (pe_callB call_isi rfl T.n_isinstance bt_isinstance (@pa_consN _ _ _ _ _ (pv 0) (@pa_consN _ _ _ _ _ (pe_ty rfl T.n_tuple bt_tuple) (@pa_nil _) rfl) rfl)) (by intro _; rfl))) (@pw_or1 _ _ _ _ (@pt_cmpR _ _ _ _ _ _ _ _ op_ne (pe_callB call_len_seq rfl T.n_len bt_len (@pa_consN _ _ _ _ _ (pv 0) (@pa_nil _) rfl)) (@pe_int _ _ _ _) (nomark _))))) (@pss_one _ _ _ (@ps_ret _ _ _ _ (@pe_bl _ _ _ _))) (@pss_nil _)) (@pss_cons _ _ _ _ _ (ps_for PassesOwn.never rfl (@pi_tup _ _ _ _ (pv 0)) (pg_name (i := 4) sc__law_shown.nd rfl (Or.inl rfl)) (@pss_one _ _ _ (@ps_if _ _ _ _ _ _ _ _ (@PW.pt _ _ _ (@pw_or _ _ _ _ _ _ _ (@pt_not _ _ _ _ (@pt_val _ _ _ (pe_call (ok__law_whole T) (hr.mono (by decide)) rfl T.m__law_whole T.F__law_whole.kp (b__law_whole T) .nil passR (@pa_consN _ _ _ _ _ (pv 4) (@pa_nil _) rfl)) (by intro _; rfl))) (@pw_or1 _ _ _ _ (@pt_cmpR _ _ _ _ _ _ _ _ op_lt (pv 4) (@pe_int _ _ _ _) (nomark _))))) (@pss_one _ _ _ (@ps_ret _ _ _ _ (@pe_bl _ _ _ _))) (@pss_nil _)))) (@pss_cons _ _ _ _ _ (ps_asg (pv 0) (pg_tup rfl (pgs_cons (pg_name (i := 5) sc__law_shown.nd rfl (Or.inl rfl)) (pgs_cons (pg_name (i := 6) sc__law_shown.nd rfl (Or.inl rfl)) (pgs_cons (pg_name (i := 7) sc__law_shown.nd rfl (Or.inl rfl)) (pgs_cons (pg_name (i := 8) sc__law_shown.nd rfl (Or.inl rfl)) (@pgs_nil _))))))) (@pss_cons _ _ _ _ _ (@ps_if _ _ _ _ _ _ _ _ (@PW.pt _ _ _ (@pw_or _ _ _ _ _ _ _ (@pt_cmpR _ _ _ _ _ _ _ _ op_ge (pe_callB (call_max2 rfl) rfl T.n_max bt_max (@pa_consN _ _ _ _ _ (pv 5) (@pa_consN _ _ _ _ _ (pv 7) (@pa_nil _) rfl) rfl)) (pv 3) (nomark _)) (@pw_or1 _ _ _ _ (@pt_cmpR _ _ _ _ _ _ _ _ op_lt (@pe_op _ _ _ _ _ _ _ _ op_add (pv 5) (pv 7)) (pv 3) (nomark _))))) (@pss_one _ _ _ (@ps_ret _ _ _ _ (@pe_bl _ _ _ _))) (@pss_nil _)) (@pss_cons _ _ _ _ _ (@ps_if _ _ _ _ _ _ _ _ (@PW.pt _ _ _ (@pw_or _ _ _ _ _ _ _ (@pt_cmpR _ _ _ _ _ _ _ _ op_ne (@pe_op _ _ _ _ _ _ _ _ op_mod (@pe_op _ _ _ _ _ _ _ _ op_sub (@pe_op _ _ _ _ _ _ _ _ op_mulA (pv 5) (pv 2)) (pv 6)) (pv 1)) (@pe_int _ _ _ _) (nomark _)) (@pw_or1 _ _ _ _ (@pt_cmpR _ _ _ _ _ _ _ _ op_ne (@pe_op _ _ _ _ _ _ _ _ op_mod (@pe_op _ _ _ _ _ _ _ _ op_add (@pe_op _ _ _ _ _ _ _ _ op_mulA (pv 7) (pv 2)) (pv 8)) (pv 1)) (@pe_int _ _ _ _) (nomark _))))) (@pss_one _ _ _ (@ps_ret _ _ _ _ (@pe_bl _ _ _ _))) (@pss_nil _)) (@pss_one _ _ _ (@ps_ret _ _ _ _ (@pe_cmpR _ _ _ _ _ _ _ _ op_eq (@pe_op _ _ _ _ _ _ _ _ op_add (@pe_op _ _ _ _ _ _ _ _ op_mulA (pv 7) (pv 6)) (@pe_op _ _ _ _ _ _ _ _ op_mulA (pv 5) (pv 8))) (pv 1) (nomark _))))))))), ?_⟩
    refine ⟨_, rfl, _, _, _, _, _, rfl, .tup hr', rfl, kit_same, _, rfl, iteF ?_⟩
    refine ⟨_, rfl, r, _, rfl, .inr (SqT.of hr'), rfl, _, rfl, iteN (neF rfl) ?_⟩
    refine ⟨_, rfl, r, rfl, ⟨_, SqT.of hr'⟩, ?_⟩
    refine for_tup (K := K) (a := r) (xs := [.int ah, .int x, .int bh, .int y]) (fun i σ H5 => ∃ v : Option V, σ = [some (.ref r), some (.int n), some (.int st), some (.int m), v, none, none, none, none] ∧ H5 = H) ⟨none, rfl, rfl⟩ (fun i σ H5 _ ⟨_, _, e⟩ => e ▸ SqT.of hr') ?_ ?_
    · rintro i z σ H5 hi ⟨v, rfl, rfl⟩
      obtain ⟨k, rfl, k1⟩ : ∃ k : Int, z = .int k ∧ 1 ≤ k := by
        have hm := List.mem_of_getElem? hi
        simp only [List.mem_cons, List.not_mem_nil, or_false] at hm
        rcases hm with rfl | rfl | rfl | rfl
        · exact ⟨_, rfl, a1⟩
        · exact ⟨_, rfl, x1⟩
        · exact ⟨_, rfl, b1⟩
        · exact ⟨_, rfl, y1⟩
      refine ⟨_, rfl, _, rfl, _, rfl, iteF ⟨_, rfl, _, _, rfl, rfl, _, rfl, iteN (decide_eq_false (by omega)) ?_⟩⟩
      exact ⟨_, rfl, rfl⟩
    · rintro σ H5 ⟨v, rfl, rfl⟩
      refine ⟨_, rfl, r, _, rfl, SqT.of hr', rfl, _, _, rfl, _, _, rfl, _, _, rfl, _, _, rfl, rfl, ?_⟩
      refine ⟨_, rfl, _, rfl, _, _, rfl, _, rfl, _, _, rfl, rfl, _, rfl, iteN (decide_eq_false (by split <;> omega)) ?_⟩
      refine ⟨_, rfl, _, rfl, _, _, rfl, rfl, _, rfl, _, _, rfl, rfl, _, rfl, iteN (decide_eq_false (by omega)) ?_⟩
      refine ⟨_, rfl, _, rfl, _, _, rfl, rfl, mulB (big_g dah) (big_g bst), _, rfl, _, _, rfl, rfl, _, rfl, _, _, rfl, rfl, (by show (0 : Int) < n; omega), rfl, _, rfl, iteN (neF (congrArg V.int sh.1)) ?_⟩
      refine ⟨_, rfl, _, rfl, _, _, rfl, rfl, mulB (big_g dbh) (big_g bst), _, rfl, _, _, rfl, rfl, _, rfl, _, _, rfl, rfl, (by show (0 : Int) < n; omega), rfl, _, rfl, iteN (neF (congrArg V.int sh.2)) ?_⟩
      refine ⟨_, rfl, _, rfl, _, _, rfl, rfl, mulB (big_g dbh) (big_g dx_), _, rfl, _, rfl, _, _, rfl, rfl, mulB (big_g dah) (big_g dy), _, _, rfl, rfl, _, rfl, rfl, ?_⟩
      exact blT (Q := Q) (congrArg V.int dt) kq
end

end Gh

namespace Gh
open PySem L2
section
variable {P : Program} {w : World} {K : PySem.W.Frag} {mg : Str → Option Value} {base : Heap} {a : Adr}
theorem getD_mem {r : List (Int × Int)} {i : Nat} (h : i < r.length) : r.getD i (0, 0) ∈ r := by simp [List.getD, h]
theorem take_C {r : List (Int × Int)} {i : Nat} (h : i < r.length) : sumC (r.take (i + 1)) = sumC (r.take i) + (r.getD i (0, 0)).2 := by
  unfold sumC
  rw [List.take_succ_eq_append_getElem h, List.map_append, List.sum_append]
  simp [List.getD, h]
theorem take_W {r : List (Int × Int)} {i : Nat} (h : i < r.length) : sumW (r.take (i + 1)) = sumW (r.take i) + (r.getD i (0, 0)).1 * (r.getD i (0, 0)).2 := by
  unfold sumW
  rw [List.take_succ_eq_append_getElem h, List.map_append, List.sum_append]
  simp [List.getD, h]
theorem RowOk.step {n m : Int} {r : List (Int × Int)} (R : RowOk n m r) {i : Nat} (h : i < r.length) : (if i = 0 then 0 else (r.getD (i - 1) (0, 0)).1) < (r.getD i (0, 0)).1 := by
  split
  · have := (R.pos _ (getD_mem h)).1; omega
  · have p := List.pairwise_iff_getElem.mp R.asc (i - 1) i (by omega) h (by omega)
    have e1 : r.getD (i - 1) (0, 0) = r[i - 1]'(by omega) := by simp [List.getD, show i - 1 < r.length by omega]
    have e2 : r.getD i (0, 0) = r[i] := by simp [List.getD, h]
    rw [e1, e2]; exact p
def spGood : Sp := fun vs H Q _ => ∃ (D : Addr) (r : List (Int × Int)) (n m : Int), vs = [.ref D, .int n, .int m] ∧ PairsL H D r ∧ RowOk n m r ∧ n ≤ G60 ∧ m ≤ G60 ∧ Q (.bl true) H
theorem ok__law_good (T : Txt K mg a) : FnOk P w K mg base (CXR P w) 2 a._law_good.f a._law_good.fd ["_law_found", "_law_size", "_law_many"] spGood := by
  refine T.F__law_good.okN sc__law_good (fun vs H Q E h => ?_) (fun cdv A outer s H vs Q E hr h => ?_)
  · obtain ⟨D, r, n, m, rfl, _⟩ := h; rfl
  · obtain ⟨D, r, n, m, rfl, ⟨ts, hD, lt, hts⟩, R, n2, m2, kq⟩ := h
    have gp := G60_pos
    have l1 := R.len1; have l3 := R.len3
    have lm : (ts.map V.ref).length = r.length := by rw [List.length_map, lt]
    refine ⟨_, (@pss_cons _ _ _ _ _ (@ps_if _ _ _ _ _ _ _ _ (@PW.pt _ _ _ (@pw_or _ _ _ _ _ _ _ (@pt_not _ _ _ _ (@pt_val _ _ _ (pe_callB call_isi rfl T.n_isinstance bt_isinstance (@pa_consN _ _ _ _ _ (pv 0) (@pa_consN _ _ _ _ _ (pe_ty rfl T.n_list bt_list) (@pa_nil _) rfl) rfl)) (by intro _; rfl))) (@pw_or _ _ _ _ _ _ _ (@pt_cmpR _ _ _ _ _ _ _ _ op_lt (pe_callB call_len_seq rfl T.n_len bt_len (@pa_consN _ _ _ _ _ (pv 0) (@pa_nil _) rfl)) (@pe_int _ _ _ _) (nomark _)) (@pw_or1 _ _ _ _ (@pt_cmpR _ _ _ _ _ _ _ _ op_gt (pe_callB call_len_seq rfl T.n_len bt_len (@pa_consN _ _ _ _ _ (pv 0) (@pa_nil _) rfl)) (@pe_int _ _ _ _) (nomark _)))))) (@pss_one _ _ _ (@ps_ret _ _ _ _ (@pe_bl _ _ _ _))) (@pss_nil _)) (@pss_cons _ _ _ _ _ (@ps_set _ _ 3 _ _ _ _ sc__law_good.nd rfl (Or.inl rfl) (@pe_int _ _ _ _) (by rfl) (by first | exact .inl rfl | exact .inr rfl | assumption)) (@pss_cons _ _ _ _ _ (@ps_set _ _ 4 _ _ _ _ sc__law_good.nd rfl (Or.inl rfl) (@pe_int _ _ _ _) (by rfl) (by first | exact .inl rfl | exact .inr rfl | assumption)) (@pss_cons _ _ _ _ _ (@ps_set _ _ 5 _ _ _ _ sc__law_good.nd rfl (Or.inl rfl) (@pe_int _ _ _ _) (by rfl) (by first | exact .inl rfl | exact .inr rfl | assumption)) (@pss_cons _ _ _ _ _ (ps_for PassesOwn.never rfl (@pi_list _ _ _ _ (pv 0)) (pg_name (i := 6) sc__law_good.nd rfl (Or.inl rfl)) (@pss_cons _ _ _ _ _ (@ps_if _ _ _ _ _ _ _ _ (@PW.pt _ _ _ (@pw_or _ _ _ _ _ _ _ (@pt_not _ _ _ _ (@pt_val _ _ _ (pe_callB call_isi rfl T.n_isinstance bt_isinstance (@pa_consN _ _ _ _ _ (pv 6) (@pa_consN _ _ _ _ _ (pe_ty rfl T.n_tuple bt_tuple) (@pa_nil _) rfl) rfl)) (by intro _; rfl))) (@pw_or _ _ _ _ _ _ _ (@pt_cmpR _ _ _ _ _ _ _ _ op_ne (pe_callB call_len_seq rfl T.n_len bt_len (@pa_consN _ _ _ _ _ (pv 6) (@pa_nil _) rfl)) (@pe_int _ _ _ _) (nomark _)) (@pw_or _ _ _ _ _ _ _ (@pt_not _ _ _ _ (@pt_val _ _ _ (pe_call (ok__law_whole T) (hr.mono (by decide)) rfl T.m__law_whole T.F__law_whole.kp (b__law_whole T) .nil passR (@pa_consN _ _ _ _ _ (@pe_ix _ _ _ _ _ _ _ ix_seq (pv 6) (@pe_int _ _ _ _) (fun _ _ => rfl)) (@pa_nil _) rfl)) (by intro _; rfl))) (@pw_or1 _ _ _ _ (@pt_not _ _ _ _ (@pt_val _ _ _ (pe_call (ok__law_whole T) (hr.mono (by decide)) rfl T.m__law_whole T.F__law_whole.kp (b__law_whole T) .nil passR (@pa_consN _ _ _ _ _ (@pe_ix _ _ _ _ _ _ _ ix_seq (pv 6) (@pe_int _ _ _ _) (fun _ _ => rfl)) (@pa_nil _) rfl)) (by intro _; rfl)))))))) (@pss_one _ _ _ (@ps_ret _ _ _ _ (@pe_bl _ _ _ _))) (@pss_nil _)) (@pss_cons _ _ _ _ _ (@ps_if _ _ _ _ _ _ _ _ (@PW.pt _ _ _ (@pw_or _ _ _ _ _ _ _ (@pt_cmpR _ _ _ _ _ _ _ _ op_le (@pe_ix _ _ _ _ _ _ _ ix_seq (pv 6) (@pe_int _ _ _ _) (fun _ _ => rfl)) (pv 3) (nomark _)) (@pw_or1 _ _ _ _ (@pt_cmpR _ _ _ _ _ _ _ _ op_lt (@pe_ix _ _ _ _ _ _ _ ix_seq (pv 6) (@pe_int _ _ _ _) (fun _ _ => rfl)) (@pe_int _ _ _ _) (nomark _))))) (@pss_one _ _ _ (@ps_ret _ _ _ _ (@pe_bl _ _ _ _))) (@pss_nil _)) (@pss_cons _ _ _ _ _ (@ps_set _ _ 3 _ _ _ _ sc__law_good.nd rfl (Or.inl rfl) (@pe_ix _ _ _ _ _ _ _ ix_seq (pv 6) (@pe_int _ _ _ _) (fun _ _ => rfl)) (by rfl) (by first | exact .inl rfl | exact .inr rfl | assumption)) (@pss_cons _ _ _ _ _ (@ps_set _ _ 4 _ _ _ _ sc__law_good.nd rfl (Or.inl rfl) (@pe_op _ _ _ _ _ _ _ _ op_add (pv 4) (@pe_ix _ _ _ _ _ _ _ ix_seq (pv 6) (@pe_int _ _ _ _) (fun _ _ => rfl))) (by rfl) (by first | exact .inl rfl | exact .inr rfl | assumption)) (@pss_one _ _ _ (@ps_set _ _ 5 _ _ _ _ sc__law_good.nd rfl (Or.inl rfl) (@pe_op _ _ _ _ _ _ _ _ op_add (pv 5) (@pe_op _ _ _ _ _ _ _ _ op_mulA (@pe_ix _ _ _ _ _ _ _ ix_seq (pv 6) (@pe_int _ _ _ _) (fun _ _ => rfl)) (@pe_ix _ _ _ _ _ _ _ ix_seq (pv 6) (@pe_int _ _ _ _) (fun _ _ => rfl)))) (by rfl) (by first | exact .inl rfl | exact .inr rfl | assumption)))))))) (@pss_cons _ _ _ _ _ (@ps_if _ _ _ _ _ _ _ _ (@PW.pt _ _ _ (@pw_and _ _ _ _ _ _ _ (@pt_cmpR _ _ _ _ _ _ _ _ op_eq (pe_callB call_len_seq rfl T.n_len bt_len (@pa_consN _ _ _ _ _ (pv 0) (@pa_nil _) rfl)) (@pe_int _ _ _ _) (nomark _)) (@pw_and1 _ _ _ _ (@pt_cmpR _ _ _ _ _ _ _ _ op_ne (@pe_ix _ _ _ _ _ _ _ ix_seq (@pe_ix _ _ _ _ _ _ _ ix_seq (pv 0) (@pe_int _ _ _ _) (fun _ _ => rfl)) (@pe_int _ _ _ _) (fun _ _ => rfl)) (@pe_op _ _ _ _ _ _ _ _ op_add (@pe_ix _ _ _ _ _ _ _ ix_seq (@pe_ix _ _ _ _ _ _ _ ix_seq (pv 0) (@pe_int _ _ _ _) (fun _ _ => rfl)) (@pe_int _ _ _ _) (fun _ _ => rfl)) (@pe_ix _ _ _ _ _ _ _ ix_seq (@pe_ix _ _ _ _ _ _ _ ix_seq (pv 0) (@pe_int _ _ _ _) (fun _ _ => rfl)) (@pe_int _ _ _ _) (fun _ _ => rfl))) (nomark _))))) (@pss_one _ _ _ (@ps_ret _ _ _ _ (@pe_bl _ _ _ _))) (@pss_nil _)) (@pss_one _ _ _ (@ps_ret _ _ _ _ (@pe_and _ _ _ _ _ _ _ (@pe_cmpR _ _ _ _ _ _ _ _ op_eq (pv 4) (pv 2) (nomark _)) (@pe_one _ _ _ _ _ (@pe_cmpR _ _ _ _ _ _ _ _ op_eq (pv 5) (pv 1) (nomark _)))))))))))), ?_⟩
    refine ⟨_, rfl, _, _, _, _, _, rfl, .lst hD, rfl, kit_same, _, rfl, iteF ?_⟩
    refine ⟨_, rfl, D, _, rfl, .inl (SqL.of hD), _, _, rfl, rfl, _, rfl, iteN (decide_eq_false (by omega)) ?_⟩
    refine ⟨_, rfl, D, _, rfl, .inl (SqL.of hD), _, _, rfl, rfl, _, rfl, iteN (decide_eq_false (by omega)) ?_⟩
    refine ⟨_, rfl, D, rfl, ⟨_, SqL.of hD⟩, ?_⟩
    refine for_list (K := K) (a := D) (xs := ts.map V.ref) (fun i σ H5 => ∃ v : Option V, σ = [some (.ref D), some (.int n), some (.int m), some (.int (if i = 0 then 0 else (r.getD (i - 1) (0, 0)).1)), some (.int (sumC (r.take i))), some (.int (sumW (r.take i))), v] ∧ H5 = H) ⟨none, rfl, rfl⟩ (fun i σ H5 _ ⟨_, _, e⟩ => e ▸ SqL.of hD) ?_ ?_
    · rintro i z σ H5 hi ⟨v, rfl, rfl⟩
      rw [List.getElem?_map] at hi
      obtain ⟨t, ht, rfl⟩ := Option.map_eq_some_iff.mp hi
      have hl : i < r.length := by have := (List.getElem?_eq_some_iff.mp ht).1; omega
      have htt := hts i t ht
      obtain ⟨k1, k2, c1, c2⟩ := R.pos _ (getD_mem hl)
      have st := R.step hl
      have tc := take_C hl
      have tw := take_W hl
      obtain ⟨q, hq⟩ : ∃ q, r.getD i (0, 0) = q := ⟨_, rfl⟩
      rw [hq] at htt k1 k2 c1 c2 st tc tw
      refine ⟨_, rfl, _, _, _, _, _, rfl, .tup htt, rfl, kit_same, _, rfl, iteF ?_⟩
      refine ⟨_, rfl, t, _, rfl, .inr (SqT.of htt), rfl, _, rfl, iteN (neF rfl) ?_⟩
      refine ⟨_, rfl, .inr (.inl ⟨t, _, _, _, rfl, rfl, SqT.of htt, rfl, _, rfl, _, rfl, iteF ?_⟩)⟩
      refine ⟨_, rfl, .inr (.inl ⟨t, _, _, _, rfl, rfl, SqT.of htt, rfl, _, rfl, _, rfl, iteF ?_⟩)⟩
      refine ⟨_, rfl, .inr (.inl ⟨t, _, _, _, rfl, rfl, SqT.of htt, rfl, _, rfl, _, _, rfl, rfl, _, rfl, iteN (decide_eq_false (by omega)) ?_⟩)⟩
      refine ⟨_, rfl, .inr (.inl ⟨t, _, _, _, rfl, rfl, SqT.of htt, rfl, _, _, rfl, rfl, _, rfl, iteN (decide_eq_false (by omega)) ?_⟩)⟩
      refine ⟨_, rfl, .inr (.inl ⟨t, _, _, _, rfl, rfl, SqT.of htt, rfl, ?_⟩)⟩
      refine ⟨_, rfl, _, rfl, .inr (.inl ⟨t, _, _, _, rfl, rfl, SqT.of htt, rfl, _, _, rfl, rfl, ?_⟩)⟩
      refine ⟨_, rfl, _, rfl, .inr (.inl ⟨t, _, _, _, rfl, rfl, SqT.of htt, rfl, _, rfl, .inr (.inl ⟨t, _, _, _, rfl, rfl, SqT.of htt, rfl, _, _, rfl, rfl, mulB (big_g ⟨by omega, by omega⟩) (big_g ⟨by omega, by omega⟩), _, _, rfl, rfl, ?_⟩)⟩)⟩
      refine ⟨some (.ref t), ?_, rfl⟩
      rw [tc, tw, if_neg (Nat.succ_ne_zero i), Nat.add_sub_cancel, hq]; rfl
    · rintro σ H5 ⟨v, rfl, rfl⟩
      have e1 : sumC (r.take (ts.map V.ref).length) = m := by rw [lm, List.take_length]; exact R.cs
      have e2 : sumW (r.take (ts.map V.ref).length) = n := by rw [lm, List.take_length]; exact R.ws
      refine ⟨_, rfl, D, _, rfl, .inl (SqL.of hD), rfl, _, rfl, ?_⟩
      refine ite2 (fun h => ?_) (fun h => ?_)
      · have h : ts.length = 3 := by
          have h : ((ts.map V.ref).length : Int) = 3 := by simpa using h
          rw [List.length_map] at h; omega
        have h3 := R.three (by omega)
        obtain ⟨t0, t1, t2, rfl⟩ : ∃ t0 t1 t2, ts = [t0, t1, t2] := by
          match ts, h with
          | [t0, t1, t2], _ => exact ⟨t0, t1, t2, rfl⟩
        have g0 := hts 0 t0 rfl; have g1 := hts 1 t1 rfl; have g2 := hts 2 t2 rfl
        refine ⟨_, rfl, .inl ⟨D, _, _, _, rfl, rfl, SqL.of hD, rfl, .inr (.inl ⟨t2, _, _, _, rfl, rfl, SqT.of g2, rfl, ?_⟩)⟩⟩
        refine ⟨_, rfl, .inl ⟨D, _, _, _, rfl, rfl, SqL.of hD, rfl, .inr (.inl ⟨t0, _, _, _, rfl, rfl, SqT.of g0, rfl, ?_⟩)⟩⟩
        refine ⟨_, rfl, .inl ⟨D, _, _, _, rfl, rfl, SqL.of hD, rfl, .inr (.inl ⟨t1, _, _, _, rfl, rfl, SqT.of g1, rfl, _, _, rfl, rfl, rfl, _, rfl, iteN (neF (congrArg V.int h3)) ?_⟩)⟩⟩
        refine ⟨_, rfl, _, rfl, rfl, _, rfl, iteP (eqT (congrArg V.int e1)) ?_⟩
        exact ⟨_, rfl, _, rfl, rfl, blT (Q := Q) (congrArg V.int e2) kq⟩
      · refine ⟨_, rfl, _, rfl, rfl, _, rfl, iteP (eqT (congrArg V.int e1)) ?_⟩
        exact ⟨_, rfl, _, rfl, rfl, blT (Q := Q) (congrArg V.int e2) kq⟩
def ksT (m ah x bh y : Int) : Nat → List (Int × Int)
  | 0 => []
  | 1 => [(x, m - ah)]
  | 2 => putI [(x, m - ah)] y (cntD [(x, m - ah)] y + m - bh)
  | _ => gapsD m ah x bh y
def spTold : Sp := fun vs H Q _ => ∃ (t : Addr) (m ah x bh y : Int), vs = [.ref t, .int m] ∧ H t = some (.tup [.int ah, .int x, .int bh, .int y]) ∧ 1 ≤ x ∧ 1 ≤ y ∧ ah < m ∧ bh < m ∧
  ∀ (D : Addr) (H' : Hp) (l : List (Int × Int)), Same H H' → l.Perm (gapsD m ah x bh y) → AscP l → PairsL H' D l → Q (.ref D) H'
theorem ok__law_told (T : Txt K mg a) : FnOk P w K mg base (CXR P w) 1 a._law_told.f a._law_told.fd ["_law_four", "_law_many"] spTold := by
  refine T.F__law_told.okN sc__law_told (fun vs H Q E h => ?_) (fun cdv A outer s H vs Q E hr h => ?_)
  · obtain ⟨t, m, ah, x, bh, y, rfl, _⟩ := h; rfl
  · obtain ⟨t, m, ah, x, bh, y, rfl, ht, x1, y1, a2, b2, kq⟩ := h
    refine ⟨_, (@pss_cons _ _ _ _ _ (ps_asg (pv 0) (pg_tup rfl (pgs_cons (pg_name (i := 2) sc__law_told.nd rfl (Or.inl rfl)) (pgs_cons (pg_name (i := 3) sc__law_told.nd rfl (Or.inl rfl)) (pgs_cons (pg_name (i := 4) sc__law_told.nd rfl (Or.inl rfl)) (pgs_cons (pg_name (i := 5) sc__law_told.nd rfl (Or.inl rfl)) (@pgs_nil _))))))) (@pss_cons _ _ _ _ _ (@ps_set _ _ 6 _ _ _ _ sc__law_told.nd rfl (Or.inl rfl) (@pe_dnewK _ _) (by rfl) (by first | exact .inl rfl | exact .inr rfl | assumption)) (@pss_cons _ _ _ _ _ (ps_for PassesOwn.never rfl (@pi_list _ _ _ _ (@pe_lst _ _ _ _ (@pa_consN _ _ _ _ _ (@pe_tup _ _ _ _ _ (@pa_consN _ _ _ _ _ (pv 3) (@pa_consN _ _ _ _ _ (@pe_op _ _ _ _ _ _ _ _ op_sub (pv 1) (pv 2)) (@pa_nil _) rfl) rfl)) (@pa_consN _ _ _ _ _ (@pe_tup _ _ _ _ _ (@pa_consN _ _ _ _ _ (pv 5) (@pa_consN _ _ _ _ _ (@pe_op _ _ _ _ _ _ _ _ op_sub (pv 1) (pv 4)) (@pa_nil _) rfl) rfl)) (@pa_consN _ _ _ _ _ (@pe_tup _ _ _ _ _ (@pa_consN _ _ _ _ _ (@pe_op _ _ _ _ _ _ _ _ op_add (pv 3) (pv 5)) (@pa_consN _ _ _ _ _ (@pe_op _ _ _ _ _ _ _ _ op_sub (@pe_op _ _ _ _ _ _ _ _ op_add (pv 2) (pv 4)) (pv 1)) (@pa_nil _) rfl) rfl)) (@pa_nil _) rfl) rfl) rfl))) (pg_tup rfl (pgs_cons (pg_name (i := 7) sc__law_told.nd rfl (Or.inl rfl)) (pgs_cons (pg_name (i := 8) sc__law_told.nd rfl (Or.inl rfl)) (@pgs_nil _)))) (@pss_one _ _ _ (@ps_if _ _ _ _ _ _ _ _ (@pt_cmpR _ _ _ _ _ _ _ _ op_gt (pv 8) (@pe_int _ _ _ _) (nomark _)) (@pss_one _ _ _ (ps_dput (hu_of hr) (pv 6) (pv 7) (@pe_op _ _ _ _ _ _ _ _ op_add (pe_dget2 (hu_of hr) (pv 6) (pv 7) (@pe_int _ _ _ _) ⟨rfl, rfl, rfl, rfl⟩) (pv 8)) rfl)) (@pss_nil _)))) (@pss_one _ _ _ (@ps_ret _ _ _ _ (pe_callB (call_sorted_items rfl) rfl T.n_sorted bt_sorted (@pa_consN _ _ _ _ _ (pe_bm0 PySem.F.plainAttrs_dict PySem.F.slot_dict_items PySem.F.type_dict_items mt_items (pv 6)) (@pa_nil _) rfl))))))), ?_⟩
    refine ⟨_, rfl, t, _, rfl, SqT.of ht, rfl, _, _, rfl, _, _, rfl, _, _, rfl, _, _, rfl, rfl, ?_⟩
    refine fun d hd => ?_
    have s0 : Same H (upd H d (.dK [])) := Same.fresh hd
    refine ⟨_, rfl, _, rfl, _, rfl, _, _, rfl, rfl, by show 2 ≤ sizeLine; decide, fun t1 h1 => ?_⟩
    refine ⟨_, rfl, _, rfl, _, rfl, _, _, rfl, rfl, by show 2 ≤ sizeLine; decide, fun t2 h2 => ?_⟩
    refine ⟨_, rfl, _, rfl, _, _, rfl, rfl, _, rfl, _, rfl, _, _, rfl, rfl, _, rfl, _, _, rfl, rfl, by show 2 ≤ sizeLine; decide, fun t3 h3 => ?_⟩
    refine ⟨by show 3 ≤ sizeLine; decide, fun L hL => ?_⟩
    have e1 := Same.fresh (o := .tup [.int x, .int (m - ah)]) h1
    have e2 := Same.fresh (o := .tup [.int y, .int (m - bh)]) h2
    have e3 := Same.fresh (o := .tup [.int (x + y), .int (ah + bh - m)]) h3
    have e4 := Same.fresh (o := .lst [.ref t1, .ref t2, .ref t3]) hL
    have f1 := e4 _ _ (e3 _ _ (e2 _ _ (upd_same (H := upd H d (.dK [])) (a := t1) (o := .tup [.int x, .int (m - ah)]))))
    have f2 := e4 _ _ (e3 _ _ (upd_same (H := upd (upd H d (.dK [])) t1 (.tup [.int x, .int (m - ah)])) (a := t2) (o := .tup [.int y, .int (m - bh)])))
    have f3 := e4 _ _ (upd_same (H := upd (upd (upd H d (.dK [])) t1 (.tup [.int x, .int (m - ah)])) t2 (.tup [.int y, .int (m - bh)])) (a := t3) (o := .tup [.int (x + y), .int (ah + bh - m)]))
    have f4 := upd_same (H := upd (upd (upd (upd H d (.dK [])) t1 (.tup [.int x, .int (m - ah)])) t2 (.tup [.int y, .int (m - bh)])) t3 (.tup [.int (x + y), .int (ah + bh - m)])) (a := L) (o := .lst [.ref t1, .ref t2, .ref t3])
    have smA := ((e1.trans e2).trans e3).trans e4
    have f0 := smA _ _ (upd_same (H := H) (a := d) (o := .dK []))
    have smH := s0.trans smA
    have kf : ∀ i, i < 3 → ∃ (wv c : Int), (∀ H5 : Hp, H5 t1 = some (.tup [.int x, .int (m - ah)]) → H5 t2 = some (.tup [.int y, .int (m - bh)]) → H5 t3 = some (.tup [.int (x + y), .int (ah + bh - m)]) → ∃ ti : Addr, [V.ref t1, V.ref t2, V.ref t3][i]? = some (.ref ti) ∧ H5 ti = some (.tup [.int wv, .int c])) ∧
        (0 < c → putI (ksT m ah x bh y i) wv (cntD (ksT m ah x bh y i) wv + c) = ksT m ah x bh y (i + 1)) ∧ (¬ 0 < c → ksT m ah x bh y i = ksT m ah x bh y (i + 1)) ∧ (ksT m ah x bh y i).length ≤ 2 := fun i hi => by
      rcases (by omega : i = 0 ∨ i = 1 ∨ i = 2) with rfl | rfl | rfl
      · refine ⟨x, m - ah, fun H5 u1 u2 u3 => ⟨t1, rfl, u1⟩, fun _ => ?_, fun z => by omega, by simp [ksT]⟩
        simp [ksT, putI, cntD]
      · refine ⟨y, m - bh, fun H5 u1 u2 u3 => ⟨t2, rfl, u2⟩, fun _ => ?_, fun z => by omega, by simp [ksT]⟩
        show putI [(x, m - ah)] y (cntD [(x, m - ah)] y + (m - bh)) = putI [(x, m - ah)] y (cntD [(x, m - ah)] y + m - bh)
        rw [show cntD [(x, m - ah)] y + (m - bh) = cntD [(x, m - ah)] y + m - bh by omega]
      · refine ⟨x + y, ah + bh - m, fun H5 u1 u2 u3 => ⟨t3, rfl, u3⟩, fun z => ?_, fun z => ?_, putI_len _ _ _⟩
        · show putI (putI [(x, m - ah)] y (cntD [(x, m - ah)] y + m - bh)) (x + y) (cntD (putI [(x, m - ah)] y (cntD [(x, m - ah)] y + m - bh)) (x + y) + (ah + bh - m)) = gapsD m ah x bh y
          have c0 : cntD (putI [(x, m - ah)] y (cntD [(x, m - ah)] y + m - bh)) (x + y) = 0 := by
            rw [cnt_put, if_neg (by omega)]
            show (if x = x + y then m - ah else 0) = 0
            rw [if_neg (by omega)]
          rw [c0, Int.zero_add]
          unfold gapsD
          dsimp only
          rw [if_pos (by omega)]
        · show putI [(x, m - ah)] y (cntD [(x, m - ah)] y + m - bh) = gapsD m ah x bh y
          unfold gapsD
          dsimp only
          rw [if_neg (by omega)]
    generalize upd (upd (upd (upd (upd H d (.dK [])) t1 (.tup [.int x, .int (m - ah)])) t2 (.tup [.int y, .int (m - bh)])) t3 (.tup [.int (x + y), .int (ah + bh - m)])) L (.lst [.ref t1, .ref t2, .ref t3]) = H0 at f0 f1 f2 f3 f4 smH
    refine ⟨L, rfl, ⟨_, SqL.of f4⟩, ?_⟩
    refine for_list (K := K) (a := L) (xs := [.ref t1, .ref t2, .ref t3]) (fun i σ H5 => ∃ u v : Option V, σ = [some (.ref t), some (.int m), some (.int ah), some (.int x), some (.int bh), some (.int y), some (.ref d), u, v] ∧ Same H H5 ∧ H5 d = some (.dK (dI (ksT m ah x bh y i))) ∧
      H5 L = some (.lst [.ref t1, .ref t2, .ref t3]) ∧ H5 t1 = some (.tup [.int x, .int (m - ah)]) ∧ H5 t2 = some (.tup [.int y, .int (m - bh)]) ∧ H5 t3 = some (.tup [.int (x + y), .int (ah + bh - m)])) ⟨none, none, rfl, smH, f0, f4, f1, f2, f3⟩ (fun i σ H5 _ ⟨_, _, _, _, _, e, _⟩ => SqL.of e) ?_ ?_
    · rintro i z σ H5 hi ⟨u, v, rfl, sm, hd5, hL5, g1, g2, g3⟩
      have i3 : i < 3 := (List.getElem?_eq_some_iff.mp hi).1
      obtain ⟨wv, c, ht5, k1, k2, kl⟩ := kf i i3
      obtain ⟨ti, eti, hti⟩ := ht5 H5 g1 g2 g3
      rw [eti] at hi
      cases hi
      have nd : ∀ {b : Addr} {o : HO}, H5 b = some o → (∀ k, o ≠ .dK k) → b ≠ d := fun h1 h2 e => by
        rw [e, hd5] at h1
        exact h2 _ (Option.some.inj h1).symm
      refine ⟨ti, _, rfl, SqT.of hti, rfl, _, _, rfl, _, _, rfl, rfl, ?_⟩
      refine ⟨_, rfl, _, _, rfl, rfl, _, rfl, ?_⟩
      refine ite2 (fun h => ?_) (fun h => ?_)
      · have h : 0 < c := by simpa using h
        refine ⟨_, rfl, d, rfl, .inl ⟨_, .inl hd5⟩, _, rfl, _, DGet.k (k := .inl wv) hd5, ?_⟩
        rw [dI_val]
        refine ⟨_, rfl, _, _, rfl, rfl, _, rfl, _, rfl, d, _, rfl, DPut.k (k := .inl wv) hd5 (by rw [dI_len, sizeLine_eq]; omega), ?_⟩
        rw [dI_put, k1 h]
        refine ⟨some (.int wv), some (.int c), rfl, Same.old sm hd, upd_same, ?_, ?_, ?_, ?_⟩
        · rw [upd_ne (nd hL5 (fun k z => by cases z))]; exact hL5
        · rw [upd_ne (nd g1 (fun k z => by cases z))]; exact g1
        · rw [upd_ne (nd g2 (fun k z => by cases z))]; exact g2
        · rw [upd_ne (nd g3 (fun k z => by cases z))]; exact g3
      · have h : ¬ 0 < c := by simpa using h
        rw [k2 h] at hd5
        exact ⟨some (.int wv), some (.int c), rfl, sm, hd5, hL5, g1, g2, g3⟩
    · rintro σ H5 ⟨u, v, rfl, sm, hd5, _⟩
      have hd5 : H5 d = some (.dK (dI (gapsD m ah x bh y))) := hd5
      have gl := gapsD_len m ah x bh y
      refine ⟨_, rfl, .inr (.inr (.inl ⟨rfl, .inl ⟨_, hd5⟩⟩)), d, _, rfl, rfl, hd5, fun v hv => ?_⟩
      have s3 : Same H5 (upd H5 v (.ext (viewAt v d))) := Same.fresh hv
      exact sortD_of upd_same (s3 _ _ hd5) gl.1 (by omega) fun D H'' l s4 hn hp asc pl => kq D H'' l (sm.trans (s3.trans s4)) hp asc pl
/-- places all unlike below the lap -/
theorem IsLap.unlike {n st l : Int} (L : IsLap n (st % n) l) {i j : Int} (i0 : 0 ≤ i) (ij : i < j) (jl : j < l) : i * st % n ≠ j * st % n := fun e => by
  have d := Int.mul_ediv_add_emod st n
  have h1 := Int.mul_ediv_add_emod (i * st) n
  have h2 := Int.mul_ediv_add_emod (j * st) n
  have := L.least (j - i) (by omega) ⟨j * st / n - i * st / n - (j - i) * (st / n), by
    rw [e] at h1
    generalize j * st % n = r at *
    generalize j * st / n = q1 at *
    generalize i * st / n = q2 at *
    generalize st % n = r3 at *
    generalize st / n = q3 at *
    subst d
    grind⟩
  omega
theorem place_form {n st : Int} (k : Int) : ∃ t, k * st % n = k * (st % n) + n * t := by
  have d := Int.mul_ediv_add_emod st n
  have h1 := Int.mul_ediv_add_emod (k * st) n
  refine ⟨k * (st / n) - k * st / n, ?_⟩
  generalize k * st % n = r at *
  generalize k * st / n = q1 at *
  generalize st % n = r3 at *
  generalize st / n = q3 at *
  subst d
  grind
def wd (ns : List Int) (n : Int) (M k : Nat) : Int := ns.getD k 0 - ns.getD (bkN M k) 0 + (if k = 0 then n else 0)
def spCountd : Sp := fun vs H Q _ => ∃ (n st m l : Int), vs = [.int n, .int st, .int m] ∧ 1 ≤ n ∧ n ≤ G60 ∧ Bd st ∧ IsLap n (st % n) l ∧ 1 ≤ m ∧ m ≤ l ∧ m ≤ 24 ∧
  ∀ (D : Addr) (H' : Hp) (r kvs : List (Int × Int)), Same H H' → r.Perm kvs → AscP r → PairsL H' D r → GoodD kvs → (m = 1 → ∀ w, cntD kvs w = if n = w then 1 else 0) → (∀ ah x bh y, Four n (st % n) m ah x bh y → ∀ w, cntD kvs w = cntD (gapsD m ah x bh y) w) → Q (.ref D) H'
theorem ok__law_counted (T : Txt K mg a) : FnOk P w K mg base (CXR P w) 1 a._law_counted.f a._law_counted.fd ["_law_size", "_law_step", "_law_many"] spCountd := by
  refine T.F__law_counted.okN sc__law_counted (fun vs H Q E h => ?_) (fun cdv A outer s H vs Q E hr h => ?_)
  · obtain ⟨n, st, m, l, rfl, _⟩ := h; rfl
  · obtain ⟨n, st, m, l, rfl, n1, n2, bst, L, m1, m2, m24, kq⟩ := h
    have ln := L.ln
    have gp := G60_pos
    refine ⟨_, (@pss_cons _ _ _ _ _ (@ps_set _ _ 3 _ _ _ _ sc__law_counted.nd rfl (Or.inl rfl) (pe_callB call_sorted_ints rfl T.n_sorted bt_sorted (@pa_consN _ _ _ _ _ (pe_lc rfl (compCells (N := ["_law_size", "_law_step", "_law_many", "_law_places", "_law_counts", "_law_k", "_law_width"]) (n := s.heap.objs.size + 1) (names := (defScope st__law_counted).names) rfl rfl rfl rfl (by decide +kernel)) (pi_range1 rfl T.n_range (@pa_consN _ _ _ _ _ (pv 2) (@pa_nil _) rfl)) (fun _ _ _ _ => (@pts_nil _)) (fun _ _ _ _ => (@pe_op _ _ _ _ _ _ _ _ op_mod (@pe_op _ _ _ _ _ _ _ _ op_mulA (pv 0) (pv 2)) (pv 1)))) (@pa_nil _) rfl)) (by rfl) (by first | exact .inl rfl | exact .inr rfl | assumption)) (@pss_cons _ _ _ _ _ (@ps_set _ _ 4 _ _ _ _ sc__law_counted.nd rfl (Or.inl rfl) (@pe_dnewK _ _) (by rfl) (by first | exact .inl rfl | exact .inr rfl | assumption)) (@pss_cons _ _ _ _ _ (ps_for PassesOwn.never rfl (pi_range1 rfl T.n_range (@pa_consN _ _ _ _ _ (pv 2) (@pa_nil _) rfl)) (pg_name (i := 5) sc__law_counted.nd rfl (Or.inl rfl)) (@pss_cons _ _ _ _ _ (@ps_set _ _ 6 _ _ _ _ sc__law_counted.nd rfl (Or.inl rfl) (@pe_op _ _ _ _ _ _ _ _ op_sub (@pe_ix _ _ _ _ _ _ _ ix_seq (pv 3) (pv 5) (fun _ _ => rfl)) (@pe_ix _ _ _ _ _ _ _ ix_seq (pv 3) (@pe_op _ _ _ _ _ _ _ _ op_sub (pv 5) (@pe_int _ _ _ _)) (fun _ _ => rfl))) (by rfl) (by first | exact .inl rfl | exact .inr rfl | assumption)) (@pss_cut _ _ _ _ _ (@ps_if _ _ _ _ _ _ _ _ (@pt_cmpR _ _ _ _ _ _ _ _ op_eq (pv 5) (@pe_int _ _ _ _) (nomark _)) (@pss_one _ _ _ (@ps_set _ _ 6 _ _ _ _ sc__law_counted.nd rfl (Or.inl rfl) (@pe_op _ _ _ _ _ _ _ _ op_add (pv 6) (pv 0)) (by rfl) (by first | exact .inl rfl | exact .inr rfl | assumption))) (@pss_nil _)) (@pss_one _ _ _ (ps_dput (hu_of hr) (pv 4) (pv 6) (@pe_op _ _ _ _ _ _ _ _ op_add (pe_dget2 (hu_of hr) (pv 4) (pv 6) (@pe_int _ _ _ _) ⟨rfl, rfl, rfl, rfl⟩) (@pe_int _ _ _ _)) rfl))))) (@pss_one _ _ _ (@ps_ret _ _ _ _ (pe_callB (call_sorted_items rfl) rfl T.n_sorted bt_sorted (@pa_consN _ _ _ _ _ (pe_bm0 PySem.F.plainAttrs_dict PySem.F.slot_dict_items PySem.F.type_dict_items mt_items (pv 4)) (@pa_nil _) rfl))))))), ?_⟩
    refine ⟨_, rfl, m, rfl, by omega, by omega, fun D hD => ?_⟩
    refine lc_range (n := m.toNat) (fun k => .int ((0 + (k : Int)) * st % n)) (by omega) (fun k hk H' Q' _ hQ' => ?_) hD ?_
    · exact ⟨_, rfl, _, rfl, _, _, rfl, rfl, mulB (big_g ⟨by omega, by omega⟩) (big_g bst), _, rfl, _, _, rfl, rfl, (by show (0 : Int) < n; omega), hQ'⟩
    have el : (List.range m.toNat).map (fun k : Nat => V.int ((0 + (k : Int)) * st % n)) = ((List.range m.toNat).map fun k : Nat => (k : Int) * st % n).map V.int := by
      rw [List.map_map]
      refine List.map_congr_left fun k _ => ?_
      show V.int ((0 + (k : Int)) * st % n) = V.int ((k : Int) * st % n)
      rw [Int.zero_add]
    rw [el]
    have sD : Same H (upd H D (.lst (((List.range m.toNat).map fun k : Nat => (k : Int) * st % n).map V.int))) := Same.fresh hD
    refine ⟨D, _, rfl, SqL.of upd_same, by simp; omega, fun D2 ns hD2 hp pw => ?_⟩
    have s2 := Same.fresh (o := .lst (ns.map V.int)) hD2
    have hns := upd_same (H := upd H D (.lst (((List.range m.toNat).map fun k : Nat => (k : Int) * st % n).map V.int))) (a := D2) (o := .lst (ns.map V.int))
    have sm2 := sD.trans s2
    generalize upd (upd H D (.lst (((List.range m.toNat).map fun k : Nat => (k : Int) * st % n).map V.int))) D2 (.lst (ns.map V.int)) = H2 at hns sm2
    have lns : ns.length = m.toNat := by rw [hp.length_eq]; simp
    refine fun d hd => ?_
    have s3 := Same.fresh (o := .dK []) hd
    have hd3 := upd_same (H := H2) (a := d) (o := .dK [])
    have nsd : D2 ≠ d := ne_of_none hns hd
    have hn3 := s3 _ _ hns
    have sm3 := sm2.trans s3
    generalize upd H2 d (.dK []) = H3 at hd3 hn3 sm3
    have rv : ∀ i : Nat, i < m.toNat → (ns.map V.int)[i]? = some (.int (ns.getD i 0)) := fun i hi => by simp [List.getD, lns, hi]
    have hdH : H d = none := Same.none sm2 hd
    refine ⟨_, rfl, m, rfl, by omega, by omega, ?_⟩
    refine for_range (lo := 0) (n := m.toNat) (fun i σ H5 => ∃ (u v : Option V) (kvs : List (Int × Int)), σ = [some (.int n), some (.int st), some (.int m), some (.ref D2), some (.ref d), u, v] ∧ Same H H5 ∧ H5 D2 = some (.lst (ns.map V.int)) ∧ H5 d = some (.dK (dI kvs)) ∧ GoodD kvs ∧ kvs.length ≤ i ∧ i ≤ m.toNat ∧
      ∀ w, cntD kvs w = (((List.range i).map (wd ns n m.toNat)).count w : Int)) ⟨none, none, [], rfl, sm3, hn3, hd3, GoodD.nil, Nat.le_refl _, Nat.zero_le _, fun w => rfl⟩ ?_ ?_
    · rintro i σ H5 hi ⟨u, v, kvs, rfl, sm5, hn5, hd5, G, lk, _, cn⟩
      have j2 : bkN m.toNat i < m.toNat := by unfold bkN; split <;> omega
      have a1 : atI (ns.map V.int) (0 + (i : Int)) = some (.int (ns.getD i 0)) := atI_of (by omega) (by rw [show (0 + (i : Int)).toNat = i by omega]; exact rv i hi)
      have a3 : atI (ns.map V.int) (0 + (i : Int) - 1) = some (.int (ns.getD (bkN m.toNat i) 0)) := by
        unfold bkN
        split
        · next e =>
          subst e
          exact atI_end (by rw [List.length_map, lns]; exact rv _ (by omega))
        · exact atI_of (by omega) (by rw [show (0 + (i : Int) - 1).toNat = i - 1 by omega]; exact rv _ (by omega))
      refine ⟨_, rfl, _, rfl, .inl ⟨D2, _, _, _, rfl, rfl, SqL.of hn5, a1, _, rfl, _, rfl, _, _, rfl, rfl, .inl ⟨D2, _, _, _, rfl, rfl, SqL.of hn5, a3, _, _, rfl, rfl, ?_⟩⟩⟩
      refine ⟨fun σ' H' => σ' = [some (.int n), some (.int st), some (.int m), some (.ref D2), some (.ref d), some (.int (0 + (i : Int))), some (.int (wd ns n m.toNat i))] ∧ H' = H5, ?_, ?_⟩
      · refine ⟨_, rfl, rfl, _, rfl, ?_⟩
        refine ite2 (fun h => ?_) (fun h => ?_)
        · have h : i = 0 := by
            have h : 0 + (i : Int) = 0 := by simpa using h
            omega
          refine ⟨_, rfl, _, rfl, _, _, rfl, rfl, ?_⟩
          refine ⟨?_, rfl⟩
          unfold wd
          rw [if_pos h]; rfl
        · have h : ¬ i = 0 := by
            have h : ¬ 0 + (i : Int) = 0 := by simpa using h
            omega
          refine ⟨?_, rfl⟩
          unfold wd
          rw [if_neg h, Int.add_zero]; rfl
      · rintro σ' H' ⟨rfl, rfl⟩
        generalize hw : wd ns n m.toNat i = wv
        refine ⟨_, rfl, d, rfl, .inl ⟨_, .inl hd5⟩, _, rfl, _, DGet.k (k := .inl wv) hd5, ?_⟩
        rw [dI_val]
        have c0 : 0 ≤ cntD kvs wv := by rw [cn]; omega
        refine ⟨_, _, rfl, rfl, _, rfl, _, rfl, d, _, rfl, DPut.k (k := .inl wv) hd5 (by rw [dI_len, sizeLine_eq]; omega), ?_⟩
        rw [dI_put]
        refine ⟨_, _, putI kvs wv (cntD kvs wv + 1), rfl, Same.old sm5 hdH, by rw [upd_ne nsd]; exact hn5, upd_same, G.put (by omega), Nat.le_trans (putI_len _ _ _) (by omega), by omega, fun w => ?_⟩
        rw [cnt_put, List.range_succ, List.map_append, List.count_append, Int.natCast_add, ← cn]
        rw [List.map_cons, List.map_nil, hw, List.count_singleton]
        by_cases e : w = wv
        · subst e; simp
        · rw [if_neg e]
          have : (wv == w) = false := by simpa using fun z : wv = w => e z.symm
          simp [this]
    · rintro σ H5 ⟨u, v, kvs, rfl, sm5, hn5, hd5, G, lk, _, cn⟩
      have l1 : 1 ≤ kvs.length := by
        cases kvs with
        | nil =>
          have c := cn (wd ns n m.toNat 0)
          have : wd ns n m.toNat 0 ∈ (List.range m.toNat).map (wd ns n m.toNat) := List.mem_map.mpr ⟨0, List.mem_range.mpr (by omega), rfl⟩
          have := List.count_pos_iff.mpr this
          have c : (0 : Int) = _ := c
          omega
        | cons p q => simp
      refine ⟨_, rfl, .inr (.inr (.inl ⟨rfl, .inl ⟨_, hd5⟩⟩)), d, _, rfl, rfl, hd5, fun v hv => ?_⟩
      have s4 : Same H5 (upd H5 v (.ext (viewAt v d))) := Same.fresh hv
      refine sortD_of upd_same (s4 _ _ hd5) l1 (by omega) fun D3 H'' r s5 hn hp2 asc pl => kq D3 H'' r kvs (sm5.trans (s4.trans s5)) hp2 asc pl G (fun e w => ?_) (fun ah x bh y F w => ?_)
      · subst e
        rw [cn]
        have e1 : (List.range (1 : Int).toNat).map (wd ns n (1 : Int).toNat) = [n] := by
          show [wd ns n 1 0] = [n]
          have : wd ns n 1 0 = n := by
            show ns.getD 0 0 - ns.getD 0 0 + n = n
            omega
          rw [this]
        rw [e1, List.count_singleton]
        by_cases e : n = w
        · subst e; simp
        · have : (n == w) = false := by simpa using e
          simp [this, e]
      · rw [cn]
        exact F.counted (P := fun k => k * st % n) place_form (fun _ => Int.emod_nonneg _ (by omega)) (fun _ => Int.emod_lt_of_pos _ (by omega)) pw hp (fun i j h1 h2 => L.unlike (by omega) (by omega) (by omega)) w
/-- two rows of the same pairs -/
theorem PairsL.sameL {H : Hp} {D D' : Addr} {r : List (Int × Int)} (h1 : PairsL H D r) (h2 : PairsL H D' r) : ∃ ts ts' : List Addr, H D = some (.lst (ts.map V.ref)) ∧ H D' = some (.lst (ts'.map V.ref)) ∧ SameL K H (ts.map V.ref) (ts'.map V.ref) := by
  obtain ⟨ts, a1, a2, a3⟩ := h1
  obtain ⟨ts', b1, b2, b3⟩ := h2
  refine ⟨ts, ts', a1, b1, by simp [a2, b2], fun j v w e1 e2 => ?_⟩
  rw [List.getElem?_map] at e1 e2
  obtain ⟨t, et, rfl⟩ := Option.map_eq_some_iff.mp e1
  obtain ⟨t', et', rfl⟩ := Option.map_eq_some_iff.mp e2
  exact .inr ⟨t, t', [(r.getD j (0, 0)).1, (r.getD j (0, 0)).2], rfl, rfl, SqT.of (a3 j t et), SqT.of (b3 j t' et')⟩
def Gapd (n st m : Int) (r : List (Int × Int)) : Prop := (m = 1 ∧ r = [(n, 1)]) ∨ ∃ ah x bh y, Four n st m ah x bh y ∧ r.Perm (gapsD m ah x bh y)
theorem Gapd.row {n st m : Int} {r : List (Int × Int)} (n1 : 1 ≤ n) (h : Gapd n st m r) (asc : AscP r) : RowOk n m r := by
  rcases h with ⟨rfl, rfl⟩ | ⟨ah, x, bh, y, F, hp⟩
  · exact RowOk.one n1
  · exact F.rowOk hp asc
theorem Gapd.four {n st m ah x bh y : Int} {r : List (Int × Int)} (h : Gapd n st m r) (F : Four n st m ah x bh y) : r.Perm (gapsD m ah x bh y) := by
  rcases h with ⟨rfl, rfl⟩ | ⟨ah', x', bh', y', F', hp⟩
  · have := F.a1; have := F.a2; omega
  · obtain ⟨rfl, rfl, rfl, rfl⟩ := F.unique F'
    exact hp
theorem Gapd.eq {n st m : Int} {r r' : List (Int × Int)} (h : Gapd n st m r) (h' : Gapd n st m r') (asc : AscP r) (asc' : AscP r') : r = r' := by
  rcases h with ⟨rfl, rfl⟩ | ⟨ah, x, bh, y, F, hp⟩
  · rcases h' with ⟨_, rfl⟩ | ⟨ah, x, bh, y, F, hp⟩
    · rfl
    · have := F.a1; have := F.a2; omega
  · have G := gapsD_good (x := x) (y := y) F.a2 F.b2
    exact same_rows G G (fun _ => rfl) hp (h'.four F) asc asc'
def spStands (K : PySem.W.Frag) (a : Adr) : Sp := fun vs H Q _ => ∃ (p : Addr) (n st s0 l m : Int), vs = [.ref p, .int n, .int st, .int m] ∧ WheelAt a.W H p n (st % n) s0 l ∧ IsLap n (st % n) l ∧ Bd st ∧ 1 ≤ m ∧ m ≤ l ∧ ∀ H', Same H H' → Q (.bl true) H'
theorem ok__law_stands (T : Txt K mg a) : FnOk P w K mg base (CXR P w) 5 a._law_stands.f a._law_stands.fd ["_law_wheel", "_law_size", "_law_step", "_law_many"] (spStands K a) := by
  refine T.F__law_stands.okN sc__law_stands (fun vs H Q E h => ?_) (fun cdv A outer s H vs Q E hr h => ?_)
  · obtain ⟨p, n, st, s0, l, m, rfl, _⟩ := h; rfl
  · obtain ⟨p, n, st, s0, l, m, rfl, W, L, bst, m1, m2, kq⟩ := h
    have n1 := W.n1; have n2 := W.n2; have ln := L.ln
    have gp := G60_pos
    refine ⟨_, (@pss_cons _ _ _ _ _ (@ps_set _ _ 4 _ _ _ _ sc__law_stands.nd rfl (Or.inl rfl) (pe_call (ok_gaps T) (hr.mono (by decide)) rfl T.m_gaps T.F_gaps.kp (b_gaps T) .nil passR (@pa_consN _ _ _ _ _ (pv 0) (@pa_consN _ _ _ _ _ (pv 3) (@pa_nil _) rfl) rfl)) (by rfl) (by first | exact .inl rfl | exact .inr rfl | assumption)) (@pss_cons _ _ _ _ _ (@ps_if _ _ _ _ _ _ _ _ (@pt_not _ _ _ _ (@pt_val _ _ _ (pe_call (ok__law_good T) (hr.mono (by decide)) rfl T.m__law_good T.F__law_good.kp (b__law_good T) .nil passR (@pa_consN _ _ _ _ _ (pv 4) (@pa_consN _ _ _ _ _ (pv 1) (@pa_consN _ _ _ _ _ (pv 3) (@pa_nil _) rfl) rfl) rfl)) (by intro _; rfl))) (@pss_one _ _ _ (@ps_ret _ _ _ _ (@pe_bl _ _ _ _))) (@pss_nil _)) (@pss_cut _ _ _ _ _ (@ps_if _ _ _ _ _ _ _ _ (@PW.pt _ _ _ (@pw_and _ _ _ _ _ _ _ (@pt_cmpR _ _ _ _ _ _ _ _ op_le (pv 3) (@pe_int _ _ _ _) (nomark _)) (@pw_and1 _ _ _ _ (@pt_cmpR _ _ _ _ _ _ _ _ (op_neL (hu_of hr)) (pv 4) (pe_call (ok__law_counted T) (hr.mono (by decide)) rfl T.m__law_counted T.F__law_counted.kp (b__law_counted T) .nil passR (@pa_consN _ _ _ _ _ (pv 1) (@pa_consN _ _ _ _ _ (pv 2) (@pa_consN _ _ _ _ _ (pv 3) (@pa_nil _) rfl) rfl) rfl)) (nomark _))))) (@pss_one _ _ _ (@ps_ret _ _ _ _ (@pe_bl _ _ _ _))) (@pss_nil _)) (@pss_cut _ _ _ _ _ (@ps_if _ _ _ _ _ _ _ _ (@pt_cmpR _ _ _ _ _ _ _ _ op_gt (pv 3) (@pe_int _ _ _ _) (nomark _)) (@pss_cons _ _ _ _ _ (@ps_set _ _ 5 _ _ _ _ sc__law_stands.nd rfl (Or.inl rfl) (pe_call (ok_around T) (hr.mono (by decide)) rfl T.m_around T.F_around.kp (b_around T) .nil passR (@pa_consN _ _ _ _ _ (pv 0) (@pa_consN _ _ _ _ _ (pv 3) (@pa_nil _) rfl) rfl)) (by rfl) (by first | exact .inl rfl | exact .inr rfl | assumption)) (@pss_one _ _ _ (@ps_if _ _ _ _ _ _ _ _ (@PW.pt _ _ _ (@pw_or _ _ _ _ _ _ _ (@pt_not _ _ _ _ (@pt_val _ _ _ (pe_call (ok__law_shown T) (hr.mono (by decide)) rfl T.m__law_shown T.F__law_shown.kp (b__law_shown T) .nil passR (@pa_consN _ _ _ _ _ (pv 5) (@pa_consN _ _ _ _ _ (pv 1) (@pa_consN _ _ _ _ _ (pv 2) (@pa_consN _ _ _ _ _ (pv 3) (@pa_nil _) rfl) rfl) rfl) rfl)) (by intro _; rfl))) (@pw_or1 _ _ _ _ (@pt_cmpR _ _ _ _ _ _ _ _ (op_neL (hu_of hr)) (pv 4) (pe_call (ok__law_told T) (hr.mono (by decide)) rfl T.m__law_told T.F__law_told.kp (b__law_told T) .nil passR (@pa_consN _ _ _ _ _ (pv 5) (@pa_consN _ _ _ _ _ (pv 3) (@pa_nil _) rfl) rfl)) (nomark _))))) (@pss_one _ _ _ (@ps_ret _ _ _ _ (@pe_bl _ _ _ _))) (@pss_nil _)))) (@pss_nil _)) (@pss_cons _ _ _ _ _ (@ps_set _ _ 6 _ _ _ _ sc__law_stands.nd rfl (Or.inl rfl) (pe_callTy call_list_of rfl T.n_list bt_list (@pa_consN _ _ _ _ _ (pv 4) (@pa_nil _) rfl)) (by rfl) (by first | exact .inl rfl | exact .inr rfl | assumption)) (@pss_cons _ _ _ _ _ (@ps_expr _ _ _ _ (pe_bm PySem.F.plainAttrs_list PySem.F.slot_list_append PySem.F.type_list_append mt_append (pv 4) (@pa_consN _ _ _ _ _ (@pe_tup _ _ _ _ _ (@pa_consN _ _ _ _ _ (@pe_int _ _ _ _) (@pa_consN _ _ _ _ _ (@pe_int _ _ _ _) (@pa_nil _) rfl) rfl)) (@pa_nil _) rfl)) (by rfl)) (@pss_one _ _ _ (@ps_ret _ _ _ _ (@pe_and _ _ _ _ _ _ _ (@pe_cmpR _ _ _ _ _ _ _ _ (op_eqL (hu_of hr)) (pe_call (ok_gaps T) (hr.mono (by decide)) rfl T.m_gaps T.F_gaps.kp (b_gaps T) .nil passR (@pa_consN _ _ _ _ _ (pv 0) (@pa_consN _ _ _ _ _ (pv 3) (@pa_nil _) rfl) rfl)) (pv 6) (nomark _)) (@pe_one _ _ _ _ _ (@pe_cmpR _ _ _ _ _ _ _ _ (op_eqL (hu_of hr)) (pv 4) (@pe_op _ _ _ _ _ _ _ _ op_cat (pv 6) (@pe_lst _ _ _ _ (@pa_consN _ _ _ _ _ (@pe_tup _ _ _ _ _ (@pa_consN _ _ _ _ _ (@pe_int _ _ _ _) (@pa_consN _ _ _ _ _ (@pe_int _ _ _ _) (@pa_nil _) rfl) rfl)) (@pa_nil _) rfl))) (nomark _)))))))))))), ?_⟩
    refine ⟨_, rfl, _, rfl, p, n, st % n, s0, l, .int m, rfl, W, L, Known.int T _ _, fun m' e _ _ D H1 r sm1 hDn pl asc gd => ?_, fun z => ?_⟩
    case refine_2 => rw [wholeIn_of m1 m2] at z; cases z
    cases e
    have gd : Gapd n (st % n) m r := gd
    have R := gd.row n1 asc
    refine ⟨_, rfl, _, rfl, _, rfl, D, r, n, m, rfl, pl, R, n2, by omega, _, rfl, iteF ?_⟩
    refine ⟨fun σ' H' => σ' = [some (.ref p), some (.int n), some (.int st), some (.int m), some (.ref D), none, none] ∧ Same H1 H', ?_, ?_⟩
    · refine ⟨_, rfl, _, _, rfl, rfl, _, rfl, ?_⟩
      refine ite2 (fun h => ?_) (fun h => ?_)
      · have h : m ≤ 24 := by simpa using h
        refine ⟨_, rfl, _, rfl, _, rfl, _, rfl, n, st, m, l, rfl, n1, n2, bst, L, m1, m2, h, fun D2 H2 r2 kvs sm2 hp2 asc2 pl2 G2 c1 c2 => ?_⟩
        have er : r = r2 := by
          rcases gd with ⟨e, rfl⟩ | ⟨ah, x, bh, y, F, hp⟩
          · have G1 : GoodD [(n, (1 : Int))] := ⟨by simp, fun q hq => by simp at hq; subst hq; exact Int.le_refl _⟩
            exact same_rows G1 G2 (fun w => by rw [c1 e w]; rfl) (List.Perm.refl _) hp2 asc asc2
          · exact same_rows (gapsD_good F.a2 F.b2) G2 (fun w => (c2 ah x bh y F w).symm) hp hp2 asc asc2
        subst er
        obtain ⟨ts, ts', g1, g2, g3⟩ := (pl.same sm2).sameL (K := K) pl2
        refine ⟨D, D2, _, _, rfl, rfl, SqL.of g1, SqL.of g2, .inl ⟨g3, _, rfl, iteF ?_⟩⟩
        exact ⟨rfl, sm2⟩
      · exact ⟨rfl, Same.refl _⟩
    · rintro σ' H2 ⟨rfl, sm2⟩
      have sm12 := sm1.trans sm2
      refine ⟨fun σ' H' => ∃ v : Option V, σ' = [some (.ref p), some (.int n), some (.int st), some (.int m), some (.ref D), v, none] ∧ Same H2 H', ?_, ?_⟩
      · refine ⟨_, rfl, _, _, rfl, rfl, _, rfl, ?_⟩
        refine ite2 (fun h => ?_) (fun h => ?_)
        · have h : 1 < m := by simpa using h
          refine ⟨_, rfl, _, rfl, p, n, st % n, s0, l, _, rfl, W.same sm12, L, Known.int T _ _, fun m' e _ _ ah x bh y t H3 F sm3 ht => ?_, fun z => ?_⟩
          · cases e
            refine ⟨_, rfl, _, rfl, _, rfl, _, rfl, t, n, st, m, ah, x, bh, y, rfl, ht, F, n2, bst, _, rfl, iteF ?_⟩
            refine ⟨_, rfl, _, rfl, _, rfl, t, m, ah, x, bh, y, rfl, ht, F.x1, F.y1, F.a2, F.b2, fun D3 H4 r4 sm4 hp4 asc4 pl4 => ?_⟩
            have G := gapsD_good (x := x) (y := y) F.a2 F.b2
            have er : r = r4 := same_rows G G (fun _ => rfl) (gd.four F) hp4 asc asc4
            subst er
            obtain ⟨ts, ts', g1, g2, g3⟩ := (pl.same ((sm2.trans sm3).trans sm4)).sameL (K := K) pl4
            refine ⟨D, D3, _, _, rfl, rfl, SqL.of g1, SqL.of g2, .inl ⟨g3, _, rfl, iteF ?_⟩⟩
            exact ⟨_, rfl, sm3.trans sm4⟩
          · rw [wholeIn_of (by omega) m2] at z; cases z
        · exact ⟨none, rfl, Same.refl _⟩
      · rintro σ' H3 ⟨v, rfl, sm3⟩
        obtain ⟨ts, hD3, lt, hts⟩ := pl.same (sm2.trans sm3)
        have sm13 := sm12.trans sm3
        have lz := R.len3
        refine ⟨_, rfl, D, _, rfl, .inl (SqL.of hD3), fun lk hlk => ?_⟩
        have s4 := Same.fresh (o := .lst (ts.map V.ref)) hlk
        have hk4 := upd_same (H := H3) (a := lk) (o := .lst (ts.map V.ref))
        have hD4 := s4 _ _ hD3
        have nkD : lk ≠ D := Ne.symm (ne_of_none hD3 hlk)
        generalize upd H3 lk (.lst (ts.map V.ref)) = H4 at s4 hk4 hD4
        refine ⟨_, rfl, .inl ⟨rfl, _, SqL.of hD4⟩, by show 2 ≤ sizeLine; decide, fun t1 ht1 => ?_⟩
        have s5 := Same.fresh (o := .tup [.int 1, .int 1]) ht1
        have ht5 := upd_same (H := H4) (a := t1) (o := .tup [.int 1, .int 1])
        have hD5 := s5 _ _ hD4
        have hk5 := s5 _ _ hk4
        generalize upd H4 t1 (.tup [.int 1, .int 1]) = H5 at s5 ht5 hD5 hk5
        refine ⟨D, _, _, rfl, rfl, hD5, by rw [List.length_map, lt, sizeLine_eq]; omega, ?_⟩
        have ntD : ∀ {t : Addr} {o : List V}, H5 t = some (.tup o) → t ≠ D := fun h e => by
          rw [e, hD5] at h; cases h
        have sm15 := (sm13.trans s4).trans s5
        have s6 : Same H (upd H5 D (.lst (ts.map V.ref ++ [.ref t1]))) := Same.old sm15 hDn
        have hD6 := upd_same (H := H5) (a := D) (o := .lst (ts.map V.ref ++ [.ref t1]))
        have ht6 : (upd H5 D (.lst (ts.map V.ref ++ [.ref t1]))) t1 = some (.tup [.int 1, .int 1]) := by rw [upd_ne (ntD ht5)]; exact ht5
        have hk6 : (upd H5 D (.lst (ts.map V.ref ++ [.ref t1]))) lk = some (.lst (ts.map V.ref)) := by rw [upd_ne nkD]; exact hk5
        have pk6 : PairsL (upd H5 D (.lst (ts.map V.ref ++ [.ref t1]))) lk r := ⟨ts, hk6, lt, fun i t e => by
          have := (s4.trans s5) _ _ (hts i t e)
          rw [upd_ne (ntD this)]; exact this⟩
        generalize upd H5 D (.lst (ts.map V.ref ++ [.ref t1])) = H6 at s6 hD6 ht6 hk6 pk6
        refine ⟨_, rfl, _, rfl, p, n, st % n, s0, l, .int m, rfl, W.same s6, L, Known.int T _ _, fun m' e _ _ D2 H7 r2 sm7 hDn2 pl2 asc2 gd2 => ?_, fun z => ?_⟩
        case refine_2 => rw [wholeIn_of m1 m2] at z; cases z
        cases e
        have er : r2 = r := Gapd.eq gd2 gd asc2 asc
        subst er
        obtain ⟨us, us', g1, g2, g3⟩ := pl2.sameL (K := K) (pk6.same sm7)
        refine ⟨_, rfl, D2, lk, _, _, rfl, rfl, SqL.of g1, SqL.of g2, .inl ⟨g3, _, rfl, iteT ?_⟩⟩
        have hk7 := sm7 _ _ hk6
        have hD7 := sm7 _ _ hD6
        refine ⟨_, rfl, _, rfl, by show 2 ≤ sizeLine; decide, fun t2 ht2 => ⟨by show 1 ≤ sizeLine; decide, fun q hq => ?_⟩⟩
        have s8 := Same.fresh (o := .tup [.int 1, .int 1]) ht2
        have ht8 := upd_same (H := H7) (a := t2) (o := .tup [.int 1, .int 1])
        have s9 := Same.fresh (o := .lst [.ref t2]) hq
        have hq9 := upd_same (H := upd H7 t2 (.tup [.int 1, .int 1])) (a := q) (o := .lst [.ref t2])
        have s79 := s8.trans s9
        have ht9 := s9 _ _ ht8
        generalize upd (upd H7 t2 (.tup [.int 1, .int 1])) q (.lst [.ref t2]) = H9 at s79 hq9 ht9
        refine ⟨lk, q, _, _, rfl, rfl, s79 _ _ hk7, hq9, by rw [List.length_map, lt, sizeLine_eq]; show r2.length + 1 ≤ 16777216; omega, fun rr hrr => ?_⟩
        have s10 := Same.fresh (o := .lst (ts.map V.ref ++ [.ref t2])) hrr
        refine ⟨D, rr, _, _, rfl, rfl, SqL.of (s10 _ _ (s79 _ _ hD7)), SqL.of upd_same, .inl ⟨⟨by simp, fun j v w e1 e2 => ?_⟩, kq _ (((s6.trans sm7).trans s79).trans s10)⟩⟩
        rcases (by omega : j < (ts.map V.ref).length ∨ j = (ts.map V.ref).length ∨ (ts.map V.ref).length < j) with c | c | c
        · rw [List.getElem?_append_left c] at e1 e2
          rw [e1] at e2; cases e2
          rw [List.getElem?_map] at e1
          obtain ⟨t, _, rfl⟩ := Option.map_eq_some_iff.mp e1
          exact .inl ⟨rfl, .inr (.inr (.inr ⟨t, rfl⟩))⟩
        · subst c
          rw [List.getElem?_append_right (Nat.le_refl _), Nat.sub_self] at e1 e2
          cases e1; cases e2
          exact .inr ⟨t1, t2, [1, 1], rfl, rfl, SqT.of (s10 _ _ (s79 _ _ (sm7 _ _ ht6))), SqT.of (s10 _ _ ht9)⟩
        · rw [List.getElem?_eq_none (by simp at c ⊢; omega)] at e1
          cases e1
def spRefused (K : PySem.W.Frag) (a : Adr) : Sp := fun vs H Q _ => ∃ (p : Addr) (n st s0 l : Int) (b : V), vs = [.ref p, b] ∧ WheelAt a.W H p n st s0 l ∧ IsLap n st l ∧ Known K H b ∧ wholeIn b 1 l = false ∧ ∀ H', Same H H' → Q (.bl true) H'
theorem ok__law_refused (T : Txt K mg a) : FnOk P w K mg base (CXR P w) 5 a._law_refused.f a._law_refused.fd ["_law_wheel", "_law_many"] (spRefused K a) := by
  refine T.F__law_refused.okN sc__law_refused (fun vs H Q E h => ?_) (fun cdv A outer s H vs Q E hr h => ?_)
  · obtain ⟨p, n, st, s0, l, b, rfl, _⟩ := h; rfl
  · obtain ⟨p, n, st, s0, l, b, rfl, W, L, kb, no, kq⟩ := h
    have nb : ∀ v, b = .int v → 1 ≤ v → v ≤ l → False := fun v e v1 v2 => by
      rw [e, wholeIn_of v1 v2] at no; cases no
    refine ⟨_, (@pss_cons _ _ _ _ _ (@ps_set _ _ 2 _ _ _ _ sc__law_refused.nd rfl (Or.inl rfl) (@pe_bl _ _ _ _) (by rfl) (by first | exact .inl rfl | exact .inr rfl | assumption)) (@pss_cut _ _ _ _ _ (ps_try (i := 3) rfl rfl rfl sc__law_refused.nd rfl rfl rfl T.m_NoBeats T.x_NoBeats.exc (fun R pn xe px => (@pss_one _ _ _ (@ps_expr _ _ _ _ (pe_callS (ok_gaps T) (hr.mono (by decide)) rfl T.m_gaps T.F_gaps.kp (b_gaps T) .nil px (@pa_consN _ _ _ _ _ (pv 0) (@pa_consN _ _ _ _ _ (pv 1) (@pa_nil _) rfl) rfl)) (by rfl)))) (fun ea => (@pss_one _ _ _ (@ps_set _ _ 2 _ _ _ _ sc__law_refused.nd rfl (Or.inl rfl) (@pe_and _ _ _ _ _ _ _ (pe_callB (call_isiK (K := K) rfl) rfl T.n_isinstance bt_isinstance (@pa_consN _ _ _ _ _ (pv 3) (@pa_consN _ _ _ _ _ (pe_cls rfl T.m_HandError) (@pa_nil _) rfl) rfl)) (@pe_one _ _ _ _ _ (pe_callB (call_isiK (K := K) rfl) rfl T.n_isinstance bt_isinstance (@pa_consN _ _ _ _ _ (pv 3) (@pa_consN _ _ _ _ _ (pe_ty rfl T.n_ValueError bt_ValueError) (@pa_nil _) rfl) rfl)))) (by rfl) (by first | exact .inl rfl | exact .inr rfl | assumption))))) (@pss_one _ _ _ (@ps_ret _ _ _ _ (pv 2))))), ?_⟩
    refine ⟨fun σ' H' => σ' = [some (.ref p), some b, some (.bl true), none] ∧ Same H H', ?_, ?_⟩
    · refine ⟨_, rfl, _, rfl, p, n, st, s0, l, b, rfl, W, L, kb, fun v e v1 v2 => (nb v e v1 v2).elim, fun _ => ⟨rfl, fun ea hea => ?_⟩⟩
      refine ⟨_, rfl, ea, a.NoBeats, _, _, _, rfl, upd_same, T.x_NoBeats, rfl, T.q_NoBeats_HandError, _, rfl, iteT ?_⟩
      refine ⟨_, rfl, ea, a.NoBeats, _, _, _, rfl, upd_same, T.x_NoBeats, rfl, T.v_NoBeats, ?_⟩
      exact ⟨rfl, Same.fresh hea⟩
    · rintro σ' H' ⟨rfl, sm⟩
      exact ⟨_, rfl, kq H' sm⟩
def spManies (K : PySem.W.Frag) : Sp := fun vs H Q _ => ∃ (p : Addr) (ns : List Int) (n l : Int), vs = [.ref p, .int n, .int l] ∧ SqL K H p (ns.map V.int) ∧ ns.length ≤ 63 ∧ 1 ≤ l ∧
  ∀ (q : Addr) (ms : List Int) (H' : Hp), Same H H' → H' q = some (.lst (ms.map V.int)) → (∀ m ∈ ms, 1 ≤ m ∧ m ≤ l) → ms.length ≤ 100 → Q (.ref q) H'
theorem ok__law_manies (T : Txt K mg a) : FnOk P w K mg base (CXR P w) 1 a._law_manies.f a._law_manies.fd ["_law_script", "_law_size", "_law_lap"] (spManies K) := by
  refine T.F__law_manies.okN sc__law_manies (fun vs H Q E h => ?_) (fun cdv A outer s H vs Q E hr h => ?_)
  · obtain ⟨p, ns, n, l, rfl, _⟩ := h; rfl
  · obtain ⟨p, ns, n, l, rfl, hS, hlen, l2, kq⟩ := h
    refine ⟨_, (@pss_cons _ _ _ _ _ (@ps_set _ _ 3 _ _ _ _ sc__law_manies.nd rfl (Or.inl rfl) (@pe_lst _ _ _ _ (@pa_consN _ _ _ _ _ (@pe_int _ _ _ _) (@pa_consN _ _ _ _ _ (pv 2) (@pa_nil _) rfl) rfl)) (by rfl) (by first | exact .inl rfl | exact .inr rfl | assumption)) (@pss_cons _ _ _ _ _ (ps_for PassesOwn.never rfl (@pi_list _ _ _ _ (@pe_slice _ _ _ _ _ _ _ _ _ _ sl_list (pv 0) (@po_some _ _ _ (@pe_int _ _ _ _)) (@po_some _ _ _ (@pe_int _ _ _ _)))) (pg_name (i := 4) sc__law_manies.nd rfl (Or.inl rfl)) (@pss_one _ _ _ (@ps_if _ _ _ _ _ _ _ _ (@PW.pt _ _ _ (@pw_or _ _ _ _ _ _ _ (@pt_cmpR _ _ _ _ _ _ _ _ op_le (pv 1) (@pe_op _ _ _ _ _ _ _ _ op_pow (@pe_int _ _ _ _) (@pe_int _ _ _ _)) (nomark _)) (@pw_or1 _ _ _ _ (@pt_cmpR _ _ _ _ _ _ _ _ op_lt (pe_callB call_len_seq rfl T.n_len bt_len (@pa_consN _ _ _ _ _ (pv 3) (@pa_nil _) rfl)) (@pe_int _ _ _ _) (nomark _))))) (@pss_one _ _ _ (@ps_if _ _ _ _ _ _ _ _ (@pt_cmpR _ _ _ _ _ _ _ _ op_eq (@pe_op _ _ _ _ _ _ _ _ op_mod (pe_callB call_len_seq rfl T.n_len bt_len (@pa_consN _ _ _ _ _ (pv 3) (@pa_nil _) rfl)) (@pe_int _ _ _ _)) (@pe_int _ _ _ _) (nomark _)) (@pss_one _ _ _ (@ps_expr _ _ _ _ (pe_bm PySem.F.plainAttrs_list PySem.F.slot_list_append PySem.F.type_list_append mt_append (pv 3) (@pa_consN _ _ _ _ _ (@pe_op _ _ _ _ _ _ _ _ op_add (@pe_int _ _ _ _) (@pe_op _ _ _ _ _ _ _ _ op_mod (pv 4) (pv 2))) (@pa_nil _) rfl)) (by rfl))) (@pss_one _ _ _ (@ps_expr _ _ _ _ (pe_bm PySem.F.plainAttrs_list PySem.F.slot_list_append PySem.F.type_list_append mt_append (pv 3) (@pa_consN _ _ _ _ _ (@pe_op _ _ _ _ _ _ _ _ op_add (@pe_int _ _ _ _) (@pe_op _ _ _ _ _ _ _ _ op_mod (pv 4) (pe_callB (call_min2 rfl) rfl T.n_min bt_min (@pa_consN _ _ _ _ _ (pv 2) (@pa_consN _ _ _ _ _ (@pe_int _ _ _ _) (@pa_nil _) rfl) rfl)))) (@pa_nil _) rfl)) (by rfl))))) (@pss_nil _)))) (@pss_one _ _ _ (@ps_ret _ _ _ _ (pv 3))))), ?_⟩
    refine ⟨_, rfl, by show 2 ≤ sizeLine; decide, fun q hq => ?_⟩
    have s1 : Same H (upd H q (.lst [.int 1, .int l])) := Same.fresh hq
    refine ⟨_, rfl, _, rfl, _, rfl, p, _, rfl, s1.seq hS, fun c hc => ?_⟩
    obtain ⟨cs, hcs, lcs, _⟩ := cut_ints ns 5 65 (by decide) (by decide)
    have lcs : cs.length ≤ 60 := by omega
    rw [hcs]
    have s2 : Same (upd H q (.lst [.int 1, .int l])) (upd (upd H q (.lst [.int 1, .int l])) c (.lst (cs.map V.int))) := Same.fresh hc
    have qc : q ≠ c := ne_of_none (upd_same (H := H) (o := .lst [.int 1, .int l])) hc
    have hq2 := s2 _ _ (upd_same (H := H) (a := q) (o := .lst [.int 1, .int l]))
    have hc2 : (upd (upd H q (.lst [.int 1, .int l])) c (.lst (cs.map V.int))) c = some (.lst (cs.map V.int)) := upd_same
    have s3 := s1.trans s2
    generalize upd (upd H q (.lst [.int 1, .int l])) c (.lst (cs.map V.int)) = H2 at hq2 hc2 s3 ⊢
    refine ⟨c, rfl, ⟨_, SqL.of hc2⟩, ?_⟩
    refine for_list (K := K) (a := c) (xs := cs.map V.int) (fun i σ H5 => ∃ (ms : List Int) (v : Option V), σ = [some (.ref p), some (.int n), some (.int l), some (.ref q), v] ∧ Same H H5 ∧ H5 q = some (.lst (ms.map V.int)) ∧ H5 c = some (.lst (cs.map V.int)) ∧ (∀ m ∈ ms, 1 ≤ m ∧ m ≤ l) ∧ ms.length ≤ 2 + i) ⟨[1, l], none, rfl, s3, hq2, hc2, by simp; omega, by simp⟩ (fun i σ H5 _ ⟨_, _, _, _, _, e, _⟩ => SqL.of e) ?_ ?_
    · rintro i x σ H5 hi ⟨ms, v, rfl, sm, hq5, hc5, hms, lms⟩
      have hi2 : i < cs.length := by
        have := (List.getElem?_eq_some_iff.mp hi).1
        rwa [List.length_map] at this
      obtain ⟨k, _, rfl⟩ := List.mem_map.mp (List.mem_of_getElem? hi)
      have r0 := Int.emod_nonneg k (by omega : l ≠ 0)
      have r1 := Int.emod_lt_of_pos k (by omega : 0 < l)
      obtain ⟨mi, hmi, i1, i2⟩ : ∃ mi : Int, (if 24 < l then 24 else l) = mi ∧ 1 ≤ mi ∧ mi ≤ l := ⟨_, rfl, by split <;> omega, by split <;> omega⟩
      have r2 := Int.emod_nonneg k (by omega : mi ≠ 0)
      have r3 := Int.emod_lt_of_pos k (by omega : 0 < mi)
      have lz : ∀ m, ms.length ≤ m → m ≤ 1000 → (ms.map V.int).length < sizeLine := fun m h1 h2 => by rw [List.length_map]; exact small1000 (by omega)
      have put : ∀ z : Int, 1 ≤ z → z ≤ l → ∃ (ms' : List Int) (v : Option V), [some (V.ref p), some (.int n), some (.int l), some (.ref q), some (.int k)] = [some (V.ref p), some (.int n), some (.int l), some (.ref q), v] ∧ Same H (upd H5 q (.lst (ms.map V.int ++ [V.int z]))) ∧ (upd H5 q (.lst (ms.map V.int ++ [V.int z]))) q = some (.lst (ms'.map V.int)) ∧ (upd H5 q (.lst (ms.map V.int ++ [V.int z]))) c = some (.lst (cs.map V.int)) ∧ (∀ m ∈ ms', 1 ≤ m ∧ m ≤ l) ∧ ms'.length ≤ 2 + (i + 1) := fun z z1 z2 => by
        refine ⟨ms ++ [z], _, rfl, Same.old sm hq, ?_, ?_, ?_, ?_⟩
        · rw [upd_same, List.map_append]; rfl
        · rw [upd_ne (Ne.symm qc)]; exact hc5
        · intro m hm
          rcases List.mem_append.mp hm with h | h
          · exact hms m h
          · have : m = z := by simpa using h
            subst this; exact ⟨z1, z2⟩
        · rw [List.length_append]; show ms.length + 1 ≤ _; omega
      have keep : ∃ (ms' : List Int) (v : Option V), [some (V.ref p), some (.int n), some (.int l), some (.ref q), some (.int k)] = [some (V.ref p), some (.int n), some (.int l), some (.ref q), v] ∧ Same H H5 ∧ H5 q = some (.lst (ms'.map V.int)) ∧ H5 c = some (.lst (cs.map V.int)) ∧ (∀ m ∈ ms', 1 ≤ m ∧ m ≤ l) ∧ ms'.length ≤ 2 + (i + 1) := ⟨ms, _, rfl, sm, hq5, hc5, hms, by omega⟩
      refine ⟨_, rfl, _, _, rfl, rfl, pw_ok _ (by decide) (by decide), _, _, rfl, rfl, _, rfl, ?_⟩
      refine ite2 (fun _ => ?_) (fun _ => ?_)
      · refine ⟨_, rfl, q, _, rfl, .inl (SqL.of hq5), _, _, rfl, rfl, (by show (0 : Int) < 2; decide), rfl, _, rfl, ?_⟩
        refine ite2 (fun _ => ?_) (fun _ => ?_)
        · refine ⟨_, rfl, .inl ⟨rfl, _, SqL.of hq5⟩, _, rfl, _, rfl, _, _, rfl, rfl, (by show (0 : Int) < l; omega), _, _, rfl, rfl, q, _, _, rfl, rfl, hq5, lz 100 (by omega) (by decide), ?_⟩
          exact put _ (by omega) (by omega)
        · refine ⟨_, rfl, .inl ⟨rfl, _, SqL.of hq5⟩, _, rfl, _, rfl, _, _, rfl, ?_⟩
          dsimp only
          rw [hmi]
          refine ⟨_, _, rfl, rfl, (by show (0 : Int) < mi; omega), _, _, rfl, rfl, q, _, _, rfl, rfl, hq5, lz 100 (by omega) (by decide), ?_⟩
          exact put _ (by omega) (by omega)
      · refine ⟨_, rfl, q, _, rfl, .inl (SqL.of hq5), _, _, rfl, rfl, _, rfl, ?_⟩
        refine ite2 (fun _ => ?_) (fun _ => ?_)
        · refine ⟨_, rfl, q, _, rfl, .inl (SqL.of hq5), _, _, rfl, rfl, (by show (0 : Int) < 2; decide), rfl, _, rfl, ?_⟩
          refine ite2 (fun _ => ?_) (fun _ => ?_)
          · refine ⟨_, rfl, .inl ⟨rfl, _, SqL.of hq5⟩, _, rfl, _, rfl, _, _, rfl, rfl, (by show (0 : Int) < l; omega), _, _, rfl, rfl, q, _, _, rfl, rfl, hq5, lz 100 (by omega) (by decide), ?_⟩
            exact put _ (by omega) (by omega)
          · refine ⟨_, rfl, .inl ⟨rfl, _, SqL.of hq5⟩, _, rfl, _, rfl, _, _, rfl, ?_⟩
            dsimp only
            rw [hmi]
            refine ⟨_, _, rfl, rfl, (by show (0 : Int) < mi; omega), _, _, rfl, rfl, q, _, _, rfl, rfl, hq5, lz 100 (by omega) (by decide), ?_⟩
            exact put _ (by omega) (by omega)
        · exact keep
    · rintro σ H5 ⟨ms, v, rfl, sm, hq5, hc5, hms, lms⟩
      rw [List.length_map] at lms
      exact ⟨_, rfl, kq q ms H5 sm hq5 hms (by omega)⟩
def spLaw (K : PySem.W.Frag) : Sp := fun vs H Q _ => ∃ (p : Addr) (ns : List Int), vs = [.ref p] ∧ SqL K H p (ns.map V.int) ∧ ns.length ≤ 63 ∧ (∀ x ∈ ns, Builtin.Int.intBits x ≤ 2 ^ 20) ∧ ∀ H', Q (.bl true) H'
theorem ok_law (T : Txt K mg a) : FnOk P w K mg base (CXR P w) 6 a.law.f a.law.fd ["_law_script"] (spLaw K) := by
  refine T.F_law.okN sc_law (fun vs H Q E h => ?_) (fun cdv A outer s H vs Q E hr h => ?_)
  · obtain ⟨p, ns, rfl, _⟩ := h; rfl
  · obtain ⟨p, ns, rfl, hS, hlen, hbits, kq⟩ := h
    refine ⟨_, (@pss_cons _ _ _ _ _ (ps_asg (pe_call (ok__law_drawn T) (hr.mono (by decide)) rfl T.m__law_drawn T.F__law_drawn.kp (b__law_drawn T) .nil passR (@pa_consN _ _ _ _ _ (pv 0) (@pa_nil _) rfl)) (pg_tupL rfl (pgs_cons (pg_name (i := 1) sc_law.nd rfl (Or.inl rfl)) (pgs_cons (pg_name (i := 2) sc_law.nd rfl (Or.inl rfl)) (pgs_cons (pg_name (i := 3) sc_law.nd rfl (Or.inl rfl)) (@pgs_nil _)))))) (@pss_cons _ _ _ _ _ (@ps_set _ _ 4 _ _ _ _ sc_law.nd rfl (Or.inl rfl) (pe_make T.mk_Wheel (ok_Wheel___init__ T) (hr.mono (by decide)) rfl T.m_Wheel (b_Wheel___init__ T) .nil passR (@pa_consN _ _ _ _ _ (pv 1) (@pa_consN _ _ _ _ _ (pv 2) (@pa_consN _ _ _ _ _ (pv 3) (@pa_nil _) rfl) rfl) rfl)) (by rfl) (by first | exact .inl rfl | exact .inr rfl | assumption)) (@pss_cons _ _ _ _ _ (@ps_set _ _ 5 _ _ _ _ sc_law.nd rfl (Or.inl rfl) (@pe_op _ _ _ _ _ _ _ _ op_fdivB (pv 1) (pe_call (ok__law_divisor T) (hr.mono (by decide)) rfl T.m__law_divisor T.F__law_divisor.kp (b__law_divisor T) .nil passR (@pa_consN _ _ _ _ _ (pv 1) (@pa_consN _ _ _ _ _ (@pe_op _ _ _ _ _ _ _ _ op_mod (pv 2) (pv 1)) (@pa_nil _) rfl) rfl))) (by rfl) (by first | exact .inl rfl | exact .inr rfl | assumption)) (@pss_cons _ _ _ _ _ (ps_for PassesOwn.never rfl (@pi_list _ _ _ _ (pe_call (ok__law_manies T) (hr.mono (by decide)) rfl T.m__law_manies T.F__law_manies.kp (b__law_manies T) .nil passR (@pa_consN _ _ _ _ _ (pv 0) (@pa_consN _ _ _ _ _ (pv 1) (@pa_consN _ _ _ _ _ (pv 5) (@pa_nil _) rfl) rfl) rfl))) (pg_name (i := 6) sc_law.nd rfl (Or.inl rfl)) (@pss_one _ _ _ (@ps_if _ _ _ _ _ _ _ _ (@pt_not _ _ _ _ (@pt_val _ _ _ (pe_call (ok__law_stands T) (hr.mono (by decide)) rfl T.m__law_stands T.F__law_stands.kp (b__law_stands T) .nil passR (@pa_consN _ _ _ _ _ (pv 4) (@pa_consN _ _ _ _ _ (pv 1) (@pa_consN _ _ _ _ _ (pv 2) (@pa_consN _ _ _ _ _ (pv 6) (@pa_nil _) rfl) rfl) rfl) rfl)) (by intro _; rfl))) (@pss_one _ _ _ (@ps_ret _ _ _ _ (@pe_bl _ _ _ _))) (@pss_nil _)))) (@pss_cons _ _ _ _ _ (@ps_set _ _ 7 _ _ _ _ sc_law.nd rfl (Or.inl rfl) (@pe_op _ _ _ _ _ _ _ _ op_mod (@pe_op _ _ _ _ _ _ _ _ op_fdivB (pe_call (ok__law_cell_at T) (hr.mono (by decide)) rfl T.m__law_cell_at T.F__law_cell_at.kp (b__law_cell_at T) .nil passR (@pa_consN _ _ _ _ _ (pv 0) (@pa_consN _ _ _ _ _ (@pe_int _ _ _ _) (@pa_nil _) rfl) rfl)) (@pe_int _ _ _ _)) (@pe_op _ _ _ _ _ _ _ _ op_pow (@pe_int _ _ _ _) (@pe_int _ _ _ _))) (by rfl) (by first | exact .inl rfl | exact .inr rfl | assumption)) (@pss_cons _ _ _ _ _ (@ps_set _ _ 8 _ _ _ _ sc_law.nd rfl (Or.inl rfl) (@pe_lst _ _ _ _ (@pa_consN _ _ _ _ _ (@pe_int _ _ _ _) (@pa_consN _ _ _ _ _ (@pe_op _ _ _ _ _ _ _ _ op_sub (@pe_un _ _ _ _ _ _ un_neg (@pe_int _ _ _ _)) (pv 7)) (@pa_consN _ _ _ _ _ (@pe_op _ _ _ _ _ _ _ _ op_add (pv 5) (@pe_int _ _ _ _)) (@pa_consN _ _ _ _ _ (@pe_op _ _ _ _ _ _ _ _ op_add (@pe_op _ _ _ _ _ _ _ _ op_add (pv 5) (@pe_int _ _ _ _)) (pv 7)) (@pa_consN _ _ _ _ _ (@pe_bl _ _ _ _) (@pa_consN _ _ _ _ _ (@pe_bl _ _ _ _) (@pa_consN _ _ _ _ _ (@pe_non _ _ _) (@pa_consN _ _ _ _ _ (@pe_str _ _ _ _) (@pa_consN _ _ _ _ _ (@pe_tup _ _ _ _ _ (@pa_consN _ _ _ _ _ (@pe_int _ _ _ _) (@pa_nil _) rfl)) (@pa_consN _ _ _ _ _ (@pe_lst _ _ _ _ (@pa_nil _)) (@pa_nil _) rfl) rfl) rfl) rfl) rfl) rfl) rfl) rfl) rfl) rfl)) (by rfl) (by first | exact .inl rfl | exact .inr rfl | assumption)) (@pss_one _ _ _ (@ps_ret _ _ _ _ (@pe_and _ _ _ _ _ _ _ (pe_call (ok__law_refused T) (hr.mono (by decide)) rfl T.m__law_refused T.F__law_refused.kp (b__law_refused T) .nil passR (@pa_consN _ _ _ _ _ (pv 4) (@pa_consN _ _ _ _ _ (@pe_ix _ _ _ _ _ _ _ ix_seq (pv 8) (@pe_op _ _ _ _ _ _ _ _ op_mod (pe_call (ok__law_cell_at T) (hr.mono (by decide)) rfl T.m__law_cell_at T.F__law_cell_at.kp (b__law_cell_at T) .nil passR (@pa_consN _ _ _ _ _ (pv 0) (@pa_consN _ _ _ _ _ (@pe_int _ _ _ _) (@pa_nil _) rfl) rfl)) (@pe_int _ _ _ _)) (fun _ _ => rfl)) (@pa_nil _) rfl) rfl)) (@pe_one _ _ _ _ _ (pe_call (ok__law_refused T) (hr.mono (by decide)) rfl T.m__law_refused T.F__law_refused.kp (b__law_refused T) .nil passR (@pa_consN _ _ _ _ _ (pv 4) (@pa_consN _ _ _ _ _ (@pe_op _ _ _ _ _ _ _ _ op_add (pv 5) (@pe_int _ _ _ _)) (@pa_nil _) rfl) rfl)))))))))))), ?_⟩
    refine ⟨_, rfl, p, ns, rfl, hS, hbits, fun q0 n st s0 H1 sm1 hq0 n1 n2 st1 st2 s01 s02 => ⟨q0, _, rfl, SqL.of hq0, rfl, _, _, rfl, _, _, rfl, _, _, rfl, rfl, ?_⟩⟩
    have L := lapOf_is (st := st) n1
    generalize hlap : lapOf n st = l at L
    refine ⟨_, rfl, _, rfl, _, rfl, fun x dx hx hdx hne => ⟨x, dx, _, _, _, rfl, upd_same, Known.int T _ _, Known.int T _ _, Known.int T _ _, fun _ n' st' s' e1 e2 e3 _ _ => ⟨rfl, ?_⟩, fun z => ?_⟩⟩
    case refine_2 =>
      rw [okW_of n1 n2 st1 st2 s01 s02] at z
      cases z
    cases e1; cases e2; cases e3
    obtain ⟨sm2, W⟩ := made (W := a.W) (st := st) (s0 := s0) hx hdx hne n1 n2
    rw [hlap] at sm2 W ⊢
    have sm12 := sm1.trans sm2
    generalize upd (upd (upd H1 dx (.own x)) x (.ins a.W dx [])) x (.ins a.W dx (wf n (st % n) (s0 % n) l)) = H2 at sm2 W sm12 ⊢
    have hS2 := sm12.seq hS
    have g0 := Int.emod_nonneg st (by omega : n ≠ 0)
    have gb : (0 : Int) < ((Int.gcd n (st % n) : Nat) : Int) ∧ ((Int.gcd n (st % n) : Nat) : Int) ≤ n := by
      constructor
      · have := Int.gcd_pos_of_ne_zero_left (st % n) (by omega : n ≠ 0)
        omega
      · exact Int.le_of_dvd (by omega) (Int.gcd_dvd_left ..)
    refine ⟨_, rfl, _, rfl, _, rfl, _, rfl, _, _, rfl, rfl, (by show (0 : Int) < n; omega), n, st % n, rfl, by omega, g0, _, _, rfl, rfl, ⟨gb.1, big_g ⟨by omega, by omega⟩⟩, ?_⟩
    have lapE : n / ((Int.gcd n (st % n) : Nat) : Int) = l := hlap
    dsimp only
    rw [lapE]
    have l1 := L.l1
    have ln := L.ln
    refine ⟨_, rfl, _, rfl, _, rfl, p, ns, n, l, rfl, hS2, hlen, l1, fun q ms H3 sm3 hq3 hms lms => ?_⟩
    refine ⟨q, rfl, ⟨_, SqL.of hq3⟩, ?_⟩
    refine for_list (K := K) (a := q) (xs := ms.map V.int) (fun i σ H' => ∃ v : Option V, σ = [some (.ref p), some (.int n), some (.int st), some (.int s0), some (.ref x), some (.int l), v, none, none] ∧ Same H3 H') ⟨none, rfl, Same.refl _⟩ (fun i σ H' _ ⟨_, _, e⟩ => e.seq (SqL.of hq3)) ?_ ?_
    · rintro i z σ H' hi ⟨v, rfl, sm'⟩
      obtain ⟨m, hm, rfl⟩ := List.mem_map.mp (List.mem_of_getElem? hi)
      obtain ⟨m1, m2⟩ := hms m hm
      refine ⟨_, rfl, _, rfl, _, rfl, _, rfl, x, n, st, _, l, m, rfl, (W.same sm3).same sm', L, ⟨st1, st2⟩, m1, m2, fun H'' sm'' => ⟨_, rfl, iteF ?_⟩⟩
      exact ⟨_, rfl, sm'.trans sm''⟩
    · rintro σ H4 ⟨v, rfl, sm4⟩
      have smA := (sm12.trans sm3).trans sm4
      have W4 := (W.same sm3).same sm4
      refine ⟨_, rfl, p, 5, ns, rfl, smA.seq hS, by decide, _, _, rfl, rfl, cdivS (by decide) (by decide), _, _, rfl, rfl, pw_ok _ (by decide) (by decide), _, _, rfl, rfl, (by show (0 : Int) < 10 ^ (60 : Int).toNat; decide), ?_⟩
      dsimp only
      rw [pow60]
      obtain ⟨c, hc⟩ : ∃ c, ns.getD (5 : Int).toNat 0 = c := ⟨_, rfl⟩
      rw [hc]
      have f1 := Int.emod_nonneg (c / 10) (show G60 ≠ 0 by decide)
      generalize c / 10 % G60 = f at f1 ⊢
      refine ⟨_, rfl, _, rfl, _, _, rfl, rfl, _, rfl, _, _, rfl, rfl, _, rfl, _, _, rfl, rfl, _, rfl, _, _, rfl, rfl, by decide, fun pt ht => ⟨by decide, fun pl hl => ⟨(by show 10 ≤ sizeLine; decide), fun pL hL => ?_⟩⟩⟩
      have e1 : Same H4 (upd H4 pt (.tup [.int 1])) := Same.fresh ht
      have e2 : Same (upd H4 pt (.tup [.int 1])) (upd (upd H4 pt (.tup [.int 1])) pl (.lst [])) := Same.fresh hl
      obtain ⟨xs, hxs⟩ : ∃ xs : List V, xs = [.int 0, .int (-1 - f), .int (l + 1), .int (l + 1 + f), .bl true, .bl false, .non, .str "1", .ref pt, .ref pl] := ⟨_, rfl⟩
      have e4 : Same (upd (upd H4 pt (.tup [.int 1])) pl (.lst [])) (upd (upd (upd H4 pt (.tup [.int 1])) pl (.lst [])) pL (.lst xs)) := Same.fresh hL
      have t1 := e4 _ _ (e2 _ _ (upd_same (H := H4) (a := pt) (o := .tup [.int 1])))
      have t2 := e4 _ _ (upd_same (H := upd H4 pt (.tup [.int 1])) (a := pl) (o := .lst []))
      have t5 : (upd (upd (upd H4 pt (.tup [.int 1])) pl (.lst [])) pL (.lst xs)) pL = some (.lst xs) := upd_same
      have sm := e1.trans (e2.trans e4)
      have goal : ∀ H', Same H4 H' → H' pt = some (.tup [.int 1]) → H' pl = some (.lst []) → ∃ v, atI xs (c % 10) = some v ∧ Known K H' v ∧ wholeIn v 1 l = false := fun H' _ u1 u2 => by
        rw [hxs]
        rcases (by omega : c % 10 = 0 ∨ c % 10 = 1 ∨ c % 10 = 2 ∨ c % 10 = 3 ∨ c % 10 = 4 ∨ c % 10 = 5 ∨ c % 10 = 6 ∨ c % 10 = 7 ∨ c % 10 = 8 ∨ c % 10 = 9) with e | e | e | e | e | e | e | e | e | e <;> rw [e]
        · exact ⟨_, rfl, Known.int T _ _, wholeIn_not (.inl (by omega))⟩
        · exact ⟨_, rfl, Known.int T _ _, wholeIn_not (.inl (by omega))⟩
        · exact ⟨_, rfl, Known.int T _ _, wholeIn_not (.inr (by omega))⟩
        · exact ⟨_, rfl, Known.int T _ _, wholeIn_not (.inr (by omega))⟩
        · exact ⟨_, rfl, .no (.bl _) T.ty_bool (fun _ z => by cases z), rfl⟩
        · exact ⟨_, rfl, .no (.bl _) T.ty_bool (fun _ z => by cases z), rfl⟩
        · exact ⟨_, rfl, .no .non T.ty_NoneType (fun _ z => by cases z), rfl⟩
        · exact ⟨_, rfl, .no (.str _) T.ty_str (fun _ z => by cases z), rfl⟩
        · exact ⟨_, rfl, .no (.tup u1) T.ty_tuple (fun _ z => by cases z), rfl⟩
        · exact ⟨_, rfl, .no (.lst u2) T.ty_list (fun _ z => by cases z), rfl⟩
      obtain ⟨v, hv, kv, nv⟩ := goal _ sm t1 t2
      rw [← hxs]
      generalize upd (upd (upd H4 pt (.tup [.int 1])) pl (.lst [])) pL (.lst xs) = H5 at t5 sm kv
      refine ⟨_, rfl, _, rfl, _, rfl, p, 5, ns, rfl, (smA.trans sm).seq hS, by decide, _, _, rfl, rfl, (by show (0 : Int) < 10; decide), .inl ⟨pL, _, _, _, rfl, rfl, SqL.of t5, by rw [hc]; exact hv, ?_⟩⟩
      refine ⟨x, n, st % n, _, l, v, rfl, W4.same sm, L, kv, nv, fun H6 sm6 => ⟨_, rfl, iteT ?_⟩⟩
      exact ⟨_, rfl, _, rfl, _, _, rfl, rfl, x, n, st % n, _, l, _, rfl, (W4.same sm).same sm6, L, Known.int T _ _, wholeIn_not (.inr (by omega)), fun H7 _ => kq H7⟩
end

end Gh

namespace Gh
open PySem L2
theorem all_mk {l : PySem.W.OpenLaw} {w : World} {K : PySem.W.Frag} {h : Heap} {mg : Str → Option Value} {fa Nb W tD : Addr} (X : K.In h) (G : h.Ns mainGlobals mg) (hfa : mg "law" = some (.ref fa))
    {oD1 : Value} {oD2 : Option Addr} {tkD : Tok} {nD : Nat} {sD : Array (Option Value)} {x_HandError : Addr} {cd_x_HandError : ClassData} {x_NoWheel : Addr} {cd_x_NoWheel : ClassData} {x_NoBeats : Addr} {cd_x_NoBeats : ClassData}
    {f_greatest : Addr} {od_greatest an_greatest : Option Addr} {sl_greatest : Array (Option Value)} {oc_greatest kV_greatest dc_greatest pm_greatest cd_greatest ct_greatest : Value}
    {f_is_whole : Addr} {od_is_whole an_is_whole : Option Addr} {sl_is_whole : Array (Option Value)} {oc_is_whole kV_is_whole dc_is_whole pm_is_whole cd_is_whole ct_is_whole : Value}
    {f_check_beats : Addr} {od_check_beats an_check_beats : Option Addr} {sl_check_beats : Array (Option Value)} {oc_check_beats kV_check_beats dc_check_beats pm_check_beats cd_check_beats ct_check_beats : Value}
    {f_Neighbours___init__ : Addr} {od_Neighbours___init__ an_Neighbours___init__ : Option Addr} {sl_Neighbours___init__ : Array (Option Value)} {oc_Neighbours___init__ kV_Neighbours___init__ dc_Neighbours___init__ pm_Neighbours___init__ cd_Neighbours___init__ ct_Neighbours___init__ : Value}
    {f_Neighbours_draw_ahead : Addr} {od_Neighbours_draw_ahead an_Neighbours_draw_ahead : Option Addr} {sl_Neighbours_draw_ahead : Array (Option Value)} {oc_Neighbours_draw_ahead kV_Neighbours_draw_ahead dc_Neighbours_draw_ahead pm_Neighbours_draw_ahead cd_Neighbours_draw_ahead ct_Neighbours_draw_ahead : Value}
    {f_Neighbours_draw_behind : Addr} {od_Neighbours_draw_behind an_Neighbours_draw_behind : Option Addr} {sl_Neighbours_draw_behind : Array (Option Value)} {oc_Neighbours_draw_behind kV_Neighbours_draw_behind dc_Neighbours_draw_behind pm_Neighbours_draw_behind cd_Neighbours_draw_behind ct_Neighbours_draw_behind : Value}
    {f_around : Addr} {od_around an_around : Option Addr} {sl_around : Array (Option Value)} {oc_around kV_around dc_around pm_around cd_around ct_around : Value}
    {f_gaps : Addr} {od_gaps an_gaps : Option Addr} {sl_gaps : Array (Option Value)} {oc_gaps kV_gaps dc_gaps pm_gaps cd_gaps ct_gaps : Value}
    {f_counted_gaps : Addr} {od_counted_gaps an_counted_gaps : Option Addr} {sl_counted_gaps : Array (Option Value)} {oc_counted_gaps kV_counted_gaps dc_counted_gaps pm_counted_gaps cd_counted_gaps ct_counted_gaps : Value}
    {f_common : Addr} {od_common an_common : Option Addr} {sl_common : Array (Option Value)} {oc_common kV_common dc_common pm_common cd_common ct_common : Value}
    {f_check_wheel : Addr} {od_check_wheel an_check_wheel : Option Addr} {sl_check_wheel : Array (Option Value)} {oc_check_wheel kV_check_wheel dc_check_wheel pm_check_wheel cd_check_wheel ct_check_wheel : Value}
    {f_Wheel___init__ : Addr} {od_Wheel___init__ an_Wheel___init__ : Option Addr} {sl_Wheel___init__ : Array (Option Value)} {oc_Wheel___init__ kV_Wheel___init__ dc_Wheel___init__ pm_Wheel___init__ cd_Wheel___init__ ct_Wheel___init__ : Value}
    {f__law_cell_at : Addr} {od__law_cell_at an__law_cell_at : Option Addr} {sl__law_cell_at : Array (Option Value)} {oc__law_cell_at kV__law_cell_at dc__law_cell_at pm__law_cell_at cd__law_cell_at ct__law_cell_at : Value}
    {f__law_whole : Addr} {od__law_whole an__law_whole : Option Addr} {sl__law_whole : Array (Option Value)} {oc__law_whole kV__law_whole dc__law_whole pm__law_whole cd__law_whole ct__law_whole : Value}
    {f__law_divisor : Addr} {od__law_divisor an__law_divisor : Option Addr} {sl__law_divisor : Array (Option Value)} {oc__law_divisor kV__law_divisor dc__law_divisor pm__law_divisor cd__law_divisor ct__law_divisor : Value}
    {f__law_signed : Addr} {od__law_signed an__law_signed : Option Addr} {sl__law_signed : Array (Option Value)} {oc__law_signed kV__law_signed dc__law_signed pm__law_signed cd__law_signed ct__law_signed : Value}
    {f__law_drawn : Addr} {od__law_drawn an__law_drawn : Option Addr} {sl__law_drawn : Array (Option Value)} {oc__law_drawn kV__law_drawn dc__law_drawn pm__law_drawn cd__law_drawn ct__law_drawn : Value}
    {f__law_shown : Addr} {od__law_shown an__law_shown : Option Addr} {sl__law_shown : Array (Option Value)} {oc__law_shown kV__law_shown dc__law_shown pm__law_shown cd__law_shown ct__law_shown : Value}
    {f__law_good : Addr} {od__law_good an__law_good : Option Addr} {sl__law_good : Array (Option Value)} {oc__law_good kV__law_good dc__law_good pm__law_good cd__law_good ct__law_good : Value}
    {f__law_told : Addr} {od__law_told an__law_told : Option Addr} {sl__law_told : Array (Option Value)} {oc__law_told kV__law_told dc__law_told pm__law_told cd__law_told ct__law_told : Value}
    {f__law_counted : Addr} {od__law_counted an__law_counted : Option Addr} {sl__law_counted : Array (Option Value)} {oc__law_counted kV__law_counted dc__law_counted pm__law_counted cd__law_counted ct__law_counted : Value}
    {f__law_stands : Addr} {od__law_stands an__law_stands : Option Addr} {sl__law_stands : Array (Option Value)} {oc__law_stands kV__law_stands dc__law_stands pm__law_stands cd__law_stands ct__law_stands : Value}
    {f__law_manies : Addr} {od__law_manies an__law_manies : Option Addr} {sl__law_manies : Array (Option Value)} {oc__law_manies kV__law_manies dc__law_manies pm__law_manies cd__law_manies ct__law_manies : Value}
    {f__law_refused : Addr} {od__law_refused an__law_refused : Option Addr} {sl__law_refused : Array (Option Value)} {oc__law_refused kV__law_refused dc__law_refused pm__law_refused cd__law_refused ct__law_refused : Value}
    {f_law : Addr} {od_law an_law : Option Addr} {sl_law : Array (Option Value)} {oc_law kV_law dc_law pm_law cd_law ct_law : Value}
    (cls_Neighbours : PySem.W.nsIn K mainGlobals "Neighbours" = some (some (.ref Nb)))
    (cls_Wheel : PySem.W.nsIn K mainGlobals "Wheel" = some (some (.ref W)))
    (a_greatest : PySem.W.nsIn K mainGlobals "greatest" = some (some (.ref f_greatest)))
    (l_greatest : K.lookup f_greatest = some ⟨oc_greatest, od_greatest, .func (PySem.W.fnOf "greatest" "greatest" (defArgs st_greatest) (defBody st_greatest) (defScope st_greatest) .none kV_greatest dc_greatest pm_greatest an_greatest cd_greatest ct_greatest), sl_greatest⟩)
    (c_greatest : PySem.W.codeIn K cd_greatest "greatest" = true)
    (k_greatest : PySem.W.keepIn K (.ref f_greatest) = true)
    (a_is_whole : PySem.W.nsIn K mainGlobals "is_whole" = some (some (.ref f_is_whole)))
    (l_is_whole : K.lookup f_is_whole = some ⟨oc_is_whole, od_is_whole, .func (PySem.W.fnOf "is_whole" "is_whole" (defArgs st_is_whole) (defBody st_is_whole) (defScope st_is_whole) .none kV_is_whole dc_is_whole pm_is_whole an_is_whole cd_is_whole ct_is_whole), sl_is_whole⟩)
    (c_is_whole : PySem.W.codeIn K cd_is_whole "is_whole" = true)
    (k_is_whole : PySem.W.keepIn K (.ref f_is_whole) = true)
    (a_check_beats : PySem.W.nsIn K mainGlobals "check_beats" = some (some (.ref f_check_beats)))
    (l_check_beats : K.lookup f_check_beats = some ⟨oc_check_beats, od_check_beats, .func (PySem.W.fnOf "check_beats" "check_beats" (defArgs st_check_beats) (defBody st_check_beats) (defScope st_check_beats) .none kV_check_beats dc_check_beats pm_check_beats an_check_beats cd_check_beats ct_check_beats), sl_check_beats⟩)
    (c_check_beats : PySem.W.codeIn K cd_check_beats "check_beats" = true)
    (k_check_beats : PySem.W.keepIn K (.ref f_check_beats) = true)
    (a_Neighbours___init__ : PySem.W.findIn K (.ref Nb) "__init__" = some (some (.ref f_Neighbours___init__)))
    (i_Neighbours___init__ : PySem.W.isFn K (.ref f_Neighbours___init__) = true)
    (l_Neighbours___init__ : K.lookup f_Neighbours___init__ = some ⟨oc_Neighbours___init__, od_Neighbours___init__, .func (PySem.W.fnOf "__init__" "Neighbours.__init__" (defArgs st_Neighbours___init__) (defBody st_Neighbours___init__) (defScope st_Neighbours___init__) .none kV_Neighbours___init__ dc_Neighbours___init__ pm_Neighbours___init__ an_Neighbours___init__ cd_Neighbours___init__ ct_Neighbours___init__), sl_Neighbours___init__⟩)
    (c_Neighbours___init__ : PySem.W.codeIn K cd_Neighbours___init__ "Neighbours.__init__" = true)
    (k_Neighbours___init__ : PySem.W.keepIn K (.ref f_Neighbours___init__) = true)
    (a_Neighbours_draw_ahead : PySem.W.findIn K (.ref Nb) "draw_ahead" = some (some (.ref f_Neighbours_draw_ahead)))
    (i_Neighbours_draw_ahead : PySem.W.isFn K (.ref f_Neighbours_draw_ahead) = true)
    (l_Neighbours_draw_ahead : K.lookup f_Neighbours_draw_ahead = some ⟨oc_Neighbours_draw_ahead, od_Neighbours_draw_ahead, .func (PySem.W.fnOf "draw_ahead" "Neighbours.draw_ahead" (defArgs st_Neighbours_draw_ahead) (defBody st_Neighbours_draw_ahead) (defScope st_Neighbours_draw_ahead) .none kV_Neighbours_draw_ahead dc_Neighbours_draw_ahead pm_Neighbours_draw_ahead an_Neighbours_draw_ahead cd_Neighbours_draw_ahead ct_Neighbours_draw_ahead), sl_Neighbours_draw_ahead⟩)
    (c_Neighbours_draw_ahead : PySem.W.codeIn K cd_Neighbours_draw_ahead "Neighbours.draw_ahead" = true)
    (k_Neighbours_draw_ahead : PySem.W.keepIn K (.ref f_Neighbours_draw_ahead) = true)
    (a_Neighbours_draw_behind : PySem.W.findIn K (.ref Nb) "draw_behind" = some (some (.ref f_Neighbours_draw_behind)))
    (i_Neighbours_draw_behind : PySem.W.isFn K (.ref f_Neighbours_draw_behind) = true)
    (l_Neighbours_draw_behind : K.lookup f_Neighbours_draw_behind = some ⟨oc_Neighbours_draw_behind, od_Neighbours_draw_behind, .func (PySem.W.fnOf "draw_behind" "Neighbours.draw_behind" (defArgs st_Neighbours_draw_behind) (defBody st_Neighbours_draw_behind) (defScope st_Neighbours_draw_behind) .none kV_Neighbours_draw_behind dc_Neighbours_draw_behind pm_Neighbours_draw_behind an_Neighbours_draw_behind cd_Neighbours_draw_behind ct_Neighbours_draw_behind), sl_Neighbours_draw_behind⟩)
    (c_Neighbours_draw_behind : PySem.W.codeIn K cd_Neighbours_draw_behind "Neighbours.draw_behind" = true)
    (k_Neighbours_draw_behind : PySem.W.keepIn K (.ref f_Neighbours_draw_behind) = true)
    (a_around : PySem.W.nsIn K mainGlobals "around" = some (some (.ref f_around)))
    (l_around : K.lookup f_around = some ⟨oc_around, od_around, .func (PySem.W.fnOf "around" "around" (defArgs st_around) (defBody st_around) (defScope st_around) .none kV_around dc_around pm_around an_around cd_around ct_around), sl_around⟩)
    (c_around : PySem.W.codeIn K cd_around "around" = true)
    (k_around : PySem.W.keepIn K (.ref f_around) = true)
    (a_gaps : PySem.W.nsIn K mainGlobals "gaps" = some (some (.ref f_gaps)))
    (l_gaps : K.lookup f_gaps = some ⟨oc_gaps, od_gaps, .func (PySem.W.fnOf "gaps" "gaps" (defArgs st_gaps) (defBody st_gaps) (defScope st_gaps) .none kV_gaps dc_gaps pm_gaps an_gaps cd_gaps ct_gaps), sl_gaps⟩)
    (c_gaps : PySem.W.codeIn K cd_gaps "gaps" = true)
    (k_gaps : PySem.W.keepIn K (.ref f_gaps) = true)
    (a_counted_gaps : PySem.W.nsIn K mainGlobals "counted_gaps" = some (some (.ref f_counted_gaps)))
    (l_counted_gaps : K.lookup f_counted_gaps = some ⟨oc_counted_gaps, od_counted_gaps, .func (PySem.W.fnOf "counted_gaps" "counted_gaps" (defArgs st_counted_gaps) (defBody st_counted_gaps) (defScope st_counted_gaps) .none kV_counted_gaps dc_counted_gaps pm_counted_gaps an_counted_gaps cd_counted_gaps ct_counted_gaps), sl_counted_gaps⟩)
    (c_counted_gaps : PySem.W.codeIn K cd_counted_gaps "counted_gaps" = true)
    (k_counted_gaps : PySem.W.keepIn K (.ref f_counted_gaps) = true)
    (a_common : PySem.W.nsIn K mainGlobals "common" = some (some (.ref f_common)))
    (l_common : K.lookup f_common = some ⟨oc_common, od_common, .func (PySem.W.fnOf "common" "common" (defArgs st_common) (defBody st_common) (defScope st_common) .none kV_common dc_common pm_common an_common cd_common ct_common), sl_common⟩)
    (c_common : PySem.W.codeIn K cd_common "common" = true)
    (k_common : PySem.W.keepIn K (.ref f_common) = true)
    (a_check_wheel : PySem.W.nsIn K mainGlobals "check_wheel" = some (some (.ref f_check_wheel)))
    (l_check_wheel : K.lookup f_check_wheel = some ⟨oc_check_wheel, od_check_wheel, .func (PySem.W.fnOf "check_wheel" "check_wheel" (defArgs st_check_wheel) (defBody st_check_wheel) (defScope st_check_wheel) .none kV_check_wheel dc_check_wheel pm_check_wheel an_check_wheel cd_check_wheel ct_check_wheel), sl_check_wheel⟩)
    (c_check_wheel : PySem.W.codeIn K cd_check_wheel "check_wheel" = true)
    (k_check_wheel : PySem.W.keepIn K (.ref f_check_wheel) = true)
    (a_Wheel___init__ : PySem.W.findIn K (.ref W) "__init__" = some (some (.ref f_Wheel___init__)))
    (i_Wheel___init__ : PySem.W.isFn K (.ref f_Wheel___init__) = true)
    (l_Wheel___init__ : K.lookup f_Wheel___init__ = some ⟨oc_Wheel___init__, od_Wheel___init__, .func (PySem.W.fnOf "__init__" "Wheel.__init__" (defArgs st_Wheel___init__) (defBody st_Wheel___init__) (defScope st_Wheel___init__) (.ref tD) kV_Wheel___init__ dc_Wheel___init__ pm_Wheel___init__ an_Wheel___init__ cd_Wheel___init__ ct_Wheel___init__), sl_Wheel___init__⟩)
    (c_Wheel___init__ : PySem.W.codeIn K cd_Wheel___init__ "Wheel.__init__" = true)
    (k_Wheel___init__ : PySem.W.keepIn K (.ref f_Wheel___init__) = true)
    (a__law_cell_at : PySem.W.nsIn K mainGlobals "_law_cell_at" = some (some (.ref f__law_cell_at)))
    (l__law_cell_at : K.lookup f__law_cell_at = some ⟨oc__law_cell_at, od__law_cell_at, .func (PySem.W.fnOf "_law_cell_at" "_law_cell_at" (defArgs st__law_cell_at) (defBody st__law_cell_at) (defScope st__law_cell_at) .none kV__law_cell_at dc__law_cell_at pm__law_cell_at an__law_cell_at cd__law_cell_at ct__law_cell_at), sl__law_cell_at⟩)
    (c__law_cell_at : PySem.W.codeIn K cd__law_cell_at "_law_cell_at" = true)
    (k__law_cell_at : PySem.W.keepIn K (.ref f__law_cell_at) = true)
    (a__law_whole : PySem.W.nsIn K mainGlobals "_law_whole" = some (some (.ref f__law_whole)))
    (l__law_whole : K.lookup f__law_whole = some ⟨oc__law_whole, od__law_whole, .func (PySem.W.fnOf "_law_whole" "_law_whole" (defArgs st__law_whole) (defBody st__law_whole) (defScope st__law_whole) .none kV__law_whole dc__law_whole pm__law_whole an__law_whole cd__law_whole ct__law_whole), sl__law_whole⟩)
    (c__law_whole : PySem.W.codeIn K cd__law_whole "_law_whole" = true)
    (k__law_whole : PySem.W.keepIn K (.ref f__law_whole) = true)
    (a__law_divisor : PySem.W.nsIn K mainGlobals "_law_divisor" = some (some (.ref f__law_divisor)))
    (l__law_divisor : K.lookup f__law_divisor = some ⟨oc__law_divisor, od__law_divisor, .func (PySem.W.fnOf "_law_divisor" "_law_divisor" (defArgs st__law_divisor) (defBody st__law_divisor) (defScope st__law_divisor) .none kV__law_divisor dc__law_divisor pm__law_divisor an__law_divisor cd__law_divisor ct__law_divisor), sl__law_divisor⟩)
    (c__law_divisor : PySem.W.codeIn K cd__law_divisor "_law_divisor" = true)
    (k__law_divisor : PySem.W.keepIn K (.ref f__law_divisor) = true)
    (a__law_signed : PySem.W.nsIn K mainGlobals "_law_signed" = some (some (.ref f__law_signed)))
    (l__law_signed : K.lookup f__law_signed = some ⟨oc__law_signed, od__law_signed, .func (PySem.W.fnOf "_law_signed" "_law_signed" (defArgs st__law_signed) (defBody st__law_signed) (defScope st__law_signed) .none kV__law_signed dc__law_signed pm__law_signed an__law_signed cd__law_signed ct__law_signed), sl__law_signed⟩)
    (c__law_signed : PySem.W.codeIn K cd__law_signed "_law_signed" = true)
    (k__law_signed : PySem.W.keepIn K (.ref f__law_signed) = true)
    (a__law_drawn : PySem.W.nsIn K mainGlobals "_law_drawn" = some (some (.ref f__law_drawn)))
    (l__law_drawn : K.lookup f__law_drawn = some ⟨oc__law_drawn, od__law_drawn, .func (PySem.W.fnOf "_law_drawn" "_law_drawn" (defArgs st__law_drawn) (defBody st__law_drawn) (defScope st__law_drawn) .none kV__law_drawn dc__law_drawn pm__law_drawn an__law_drawn cd__law_drawn ct__law_drawn), sl__law_drawn⟩)
    (c__law_drawn : PySem.W.codeIn K cd__law_drawn "_law_drawn" = true)
    (k__law_drawn : PySem.W.keepIn K (.ref f__law_drawn) = true)
    (a__law_shown : PySem.W.nsIn K mainGlobals "_law_shown" = some (some (.ref f__law_shown)))
    (l__law_shown : K.lookup f__law_shown = some ⟨oc__law_shown, od__law_shown, .func (PySem.W.fnOf "_law_shown" "_law_shown" (defArgs st__law_shown) (defBody st__law_shown) (defScope st__law_shown) .none kV__law_shown dc__law_shown pm__law_shown an__law_shown cd__law_shown ct__law_shown), sl__law_shown⟩)
    (c__law_shown : PySem.W.codeIn K cd__law_shown "_law_shown" = true)
    (k__law_shown : PySem.W.keepIn K (.ref f__law_shown) = true)
    (a__law_good : PySem.W.nsIn K mainGlobals "_law_good" = some (some (.ref f__law_good)))
    (l__law_good : K.lookup f__law_good = some ⟨oc__law_good, od__law_good, .func (PySem.W.fnOf "_law_good" "_law_good" (defArgs st__law_good) (defBody st__law_good) (defScope st__law_good) .none kV__law_good dc__law_good pm__law_good an__law_good cd__law_good ct__law_good), sl__law_good⟩)
    (c__law_good : PySem.W.codeIn K cd__law_good "_law_good" = true)
    (k__law_good : PySem.W.keepIn K (.ref f__law_good) = true)
    (a__law_told : PySem.W.nsIn K mainGlobals "_law_told" = some (some (.ref f__law_told)))
    (l__law_told : K.lookup f__law_told = some ⟨oc__law_told, od__law_told, .func (PySem.W.fnOf "_law_told" "_law_told" (defArgs st__law_told) (defBody st__law_told) (defScope st__law_told) .none kV__law_told dc__law_told pm__law_told an__law_told cd__law_told ct__law_told), sl__law_told⟩)
    (c__law_told : PySem.W.codeIn K cd__law_told "_law_told" = true)
    (k__law_told : PySem.W.keepIn K (.ref f__law_told) = true)
    (a__law_counted : PySem.W.nsIn K mainGlobals "_law_counted" = some (some (.ref f__law_counted)))
    (l__law_counted : K.lookup f__law_counted = some ⟨oc__law_counted, od__law_counted, .func (PySem.W.fnOf "_law_counted" "_law_counted" (defArgs st__law_counted) (defBody st__law_counted) (defScope st__law_counted) .none kV__law_counted dc__law_counted pm__law_counted an__law_counted cd__law_counted ct__law_counted), sl__law_counted⟩)
    (c__law_counted : PySem.W.codeIn K cd__law_counted "_law_counted" = true)
    (k__law_counted : PySem.W.keepIn K (.ref f__law_counted) = true)
    (a__law_stands : PySem.W.nsIn K mainGlobals "_law_stands" = some (some (.ref f__law_stands)))
    (l__law_stands : K.lookup f__law_stands = some ⟨oc__law_stands, od__law_stands, .func (PySem.W.fnOf "_law_stands" "_law_stands" (defArgs st__law_stands) (defBody st__law_stands) (defScope st__law_stands) .none kV__law_stands dc__law_stands pm__law_stands an__law_stands cd__law_stands ct__law_stands), sl__law_stands⟩)
    (c__law_stands : PySem.W.codeIn K cd__law_stands "_law_stands" = true)
    (k__law_stands : PySem.W.keepIn K (.ref f__law_stands) = true)
    (a__law_manies : PySem.W.nsIn K mainGlobals "_law_manies" = some (some (.ref f__law_manies)))
    (l__law_manies : K.lookup f__law_manies = some ⟨oc__law_manies, od__law_manies, .func (PySem.W.fnOf "_law_manies" "_law_manies" (defArgs st__law_manies) (defBody st__law_manies) (defScope st__law_manies) .none kV__law_manies dc__law_manies pm__law_manies an__law_manies cd__law_manies ct__law_manies), sl__law_manies⟩)
    (c__law_manies : PySem.W.codeIn K cd__law_manies "_law_manies" = true)
    (k__law_manies : PySem.W.keepIn K (.ref f__law_manies) = true)
    (a__law_refused : PySem.W.nsIn K mainGlobals "_law_refused" = some (some (.ref f__law_refused)))
    (l__law_refused : K.lookup f__law_refused = some ⟨oc__law_refused, od__law_refused, .func (PySem.W.fnOf "_law_refused" "_law_refused" (defArgs st__law_refused) (defBody st__law_refused) (defScope st__law_refused) .none kV__law_refused dc__law_refused pm__law_refused an__law_refused cd__law_refused ct__law_refused), sl__law_refused⟩)
    (c__law_refused : PySem.W.codeIn K cd__law_refused "_law_refused" = true)
    (k__law_refused : PySem.W.keepIn K (.ref f__law_refused) = true)
    (a_law : PySem.W.nsIn K mainGlobals "law" = some (some (.ref f_law)))
    (l_law : K.lookup f_law = some ⟨oc_law, od_law, .func (PySem.W.fnOf "law" "law" (defArgs st_law) (defBody st_law) (defScope st_law) .none kV_law dc_law pm_law an_law cd_law ct_law), sl_law⟩)
    (c_law : PySem.W.codeIn K cd_law "law" = true)
    (k_law : PySem.W.keepIn K (.ref f_law) = true)
    (w_pg_Neighbours : PySem.W.plainGet K Nb Str.empty = true)
    (w_hd_Neighbours : PySem.W.hasDictIn K Nb = true)
    (w_po_Neighbours : PySem.W.plainOver K Nb = true)
    (w_sa_Neighbours : PySem.W.findIn K (.ref Nb) "__setattr__" = some (some (.builtin "object.__setattr__")))
    (w_mk_Neighbours : PySem.W.makesIn K Nb = true)
    (w_kc_Neighbours : PySem.W.keepIn K (.ref Nb) = true)
    (w_ahead : PySem.W.findIn K (.ref Nb) "ahead" = some none)
    (w_near : PySem.W.findIn K (.ref Nb) "near" = some none)
    (w_behind : PySem.W.findIn K (.ref Nb) "behind" = some none)
    (w_back : PySem.W.findIn K (.ref Nb) "back" = some none)
    (w_pg_Wheel : PySem.W.plainGet K W Str.empty = true)
    (w_hd_Wheel : PySem.W.hasDictIn K W = true)
    (w_po_Wheel : PySem.W.plainOver K W = true)
    (w_sa_Wheel : PySem.W.findIn K (.ref W) "__setattr__" = some (some (.builtin "object.__setattr__")))
    (w_mk_Wheel : PySem.W.makesIn K W = true)
    (w_kc_Wheel : PySem.W.keepIn K (.ref W) = true)
    (w_size : PySem.W.findIn K (.ref W) "size" = some none)
    (w_step : PySem.W.findIn K (.ref W) "step" = some none)
    (w_start : PySem.W.findIn K (.ref W) "start" = some none)
    (w_lap : PySem.W.findIn K (.ref W) "lap" = some none)
    (d_l : K.lookup tD = some ⟨oD1, oD2, .seq #[.int 0 tkD] nD, sD⟩)
    (z_ValueError : PySem.W.nsIn K mainGlobals "ValueError" = some none)
    (z_bool : PySem.W.nsIn K mainGlobals "bool" = some none)
    (z_int : PySem.W.nsIn K mainGlobals "int" = some none)
    (z_isinstance : PySem.W.nsIn K mainGlobals "isinstance" = some none)
    (z_len : PySem.W.nsIn K mainGlobals "len" = some none)
    (z_list : PySem.W.nsIn K mainGlobals "list" = some none)
    (z_max : PySem.W.nsIn K mainGlobals "max" = some none)
    (z_min : PySem.W.nsIn K mainGlobals "min" = some none)
    (z_range : PySem.W.nsIn K mainGlobals "range" = some none)
    (z_sorted : PySem.W.nsIn K mainGlobals "sorted" = some none)
    (z_tuple : PySem.W.nsIn K mainGlobals "tuple" = some none)
    (s_ib : PySem.W.subIn K (.type "int") (.type "bool") = some false)
    (e_a_HandError : PySem.W.nsIn K mainGlobals "HandError" = some (some (.ref x_HandError)))
    (e_i_HandError : PySem.W.clsIn K x_HandError = some cd_x_HandError)
    (e_a_NoWheel : PySem.W.nsIn K mainGlobals "NoWheel" = some (some (.ref x_NoWheel)))
    (e_x_NoWheel : PySem.W.excIn K x_NoWheel [.type "ValueError", .type "Exception", .type "BaseException", .type "object"] "ValueError.__new__" = true)
    (e_g_NoWheel : PySem.W.findIn K (.ref x_NoWheel) "__getattribute__" = some (some (.builtin "BaseException.__getattribute__")))
    (e_h_NoWheel : PySem.W.findIn K (.ref x_NoWheel) "__getattr__" = some none)
    (e_c_NoWheel : PySem.W.findIn K (.ref x_NoWheel) "__class__" = some (some (.builtin "object.__class__")))
    (e_o_NoWheel : PySem.W.mroIn K x_NoWheel (.type "object") = some true)
    (e_b_NoWheel : PySem.W.mroIn K x_NoWheel (.type "BaseException") = some true)
    (e_i_NoWheel : PySem.W.clsIn K x_NoWheel = some cd_x_NoWheel)
    (e_a_NoBeats : PySem.W.nsIn K mainGlobals "NoBeats" = some (some (.ref x_NoBeats)))
    (e_x_NoBeats : PySem.W.excIn K x_NoBeats [.type "ValueError", .type "Exception", .type "BaseException", .type "object"] "ValueError.__new__" = true)
    (e_g_NoBeats : PySem.W.findIn K (.ref x_NoBeats) "__getattribute__" = some (some (.builtin "BaseException.__getattribute__")))
    (e_h_NoBeats : PySem.W.findIn K (.ref x_NoBeats) "__getattr__" = some none)
    (e_c_NoBeats : PySem.W.findIn K (.ref x_NoBeats) "__class__" = some (some (.builtin "object.__class__")))
    (e_o_NoBeats : PySem.W.mroIn K x_NoBeats (.type "object") = some true)
    (e_b_NoBeats : PySem.W.mroIn K x_NoBeats (.type "BaseException") = some true)
    (e_i_NoBeats : PySem.W.clsIn K x_NoBeats = some cd_x_NoBeats)
    (g_gs : PySem.W.specialIn K (.builtin "object.__class__") "__get__" = some (some (.builtin "getset_descriptor.__get__")))
    (g_tk : PySem.W.takesIn K (.builtin "object.__class__") = some true)
    (t_b_NoneType : PySem.W.subIn K (.type "NoneType") (.type "bool") = some false)
    (t_i_NoneType : PySem.W.subIn K (.type "NoneType") (.type "int") = some false)
    (t_i_bool : PySem.W.subIn K (.type "bool") (.type "int") = some true)
    (t_b_str : PySem.W.subIn K (.type "str") (.type "bool") = some false)
    (t_i_str : PySem.W.subIn K (.type "str") (.type "int") = some false)
    (t_b_tuple : PySem.W.subIn K (.type "tuple") (.type "bool") = some false)
    (t_i_tuple : PySem.W.subIn K (.type "tuple") (.type "int") = some false)
    (t_b_list : PySem.W.subIn K (.type "list") (.type "bool") = some false)
    (t_i_list : PySem.W.subIn K (.type "list") (.type "int") = some false)
    (e_t_HandError : PySem.W.typeIn K (.ref x_HandError) = some (.type "type"))
    (e_v_NoBeats : PySem.W.subIn K (.ref x_NoBeats) (.type "ValueError") = some true)
    (e_n_NoBeats_HandError : (Value.ref x_NoBeats == Value.ref x_HandError) = false)
    (e_s_NoBeats_HandError : PySem.W.subIn K (.ref x_NoBeats) (.ref x_HandError) = some true) :
    ∃ fd : FuncData, (∀ (s : Shared) (v : Value), BindsTo s fd ⟨[v], []⟩ [("_law_script", v)]) ∧ ∀ base : Heap, K.In base → base.Ns mainGlobals mg → FnOk l.prog w K mg base (CXR l.prog w) 6 fa fd ["_law_script"] (spLaw K) := by
  have e := hfa.symm.trans (PySem.W.mg_of X G a_law)
  have ef : f_law = fa := (Value.ref.inj (Option.some.inj e)).symm
  subst ef
  have T : Txt K mg { greatest := ⟨f_greatest, PySem.W.fnOf "greatest" "greatest" (defArgs st_greatest) (defBody st_greatest) (defScope st_greatest) .none kV_greatest dc_greatest pm_greatest an_greatest cd_greatest ct_greatest⟩, is_whole := ⟨f_is_whole, PySem.W.fnOf "is_whole" "is_whole" (defArgs st_is_whole) (defBody st_is_whole) (defScope st_is_whole) .none kV_is_whole dc_is_whole pm_is_whole an_is_whole cd_is_whole ct_is_whole⟩, check_beats := ⟨f_check_beats, PySem.W.fnOf "check_beats" "check_beats" (defArgs st_check_beats) (defBody st_check_beats) (defScope st_check_beats) .none kV_check_beats dc_check_beats pm_check_beats an_check_beats cd_check_beats ct_check_beats⟩, Neighbours___init__ := ⟨f_Neighbours___init__, PySem.W.fnOf "__init__" "Neighbours.__init__" (defArgs st_Neighbours___init__) (defBody st_Neighbours___init__) (defScope st_Neighbours___init__) .none kV_Neighbours___init__ dc_Neighbours___init__ pm_Neighbours___init__ an_Neighbours___init__ cd_Neighbours___init__ ct_Neighbours___init__⟩, Neighbours_draw_ahead := ⟨f_Neighbours_draw_ahead, PySem.W.fnOf "draw_ahead" "Neighbours.draw_ahead" (defArgs st_Neighbours_draw_ahead) (defBody st_Neighbours_draw_ahead) (defScope st_Neighbours_draw_ahead) .none kV_Neighbours_draw_ahead dc_Neighbours_draw_ahead pm_Neighbours_draw_ahead an_Neighbours_draw_ahead cd_Neighbours_draw_ahead ct_Neighbours_draw_ahead⟩, Neighbours_draw_behind := ⟨f_Neighbours_draw_behind, PySem.W.fnOf "draw_behind" "Neighbours.draw_behind" (defArgs st_Neighbours_draw_behind) (defBody st_Neighbours_draw_behind) (defScope st_Neighbours_draw_behind) .none kV_Neighbours_draw_behind dc_Neighbours_draw_behind pm_Neighbours_draw_behind an_Neighbours_draw_behind cd_Neighbours_draw_behind ct_Neighbours_draw_behind⟩, around := ⟨f_around, PySem.W.fnOf "around" "around" (defArgs st_around) (defBody st_around) (defScope st_around) .none kV_around dc_around pm_around an_around cd_around ct_around⟩, gaps := ⟨f_gaps, PySem.W.fnOf "gaps" "gaps" (defArgs st_gaps) (defBody st_gaps) (defScope st_gaps) .none kV_gaps dc_gaps pm_gaps an_gaps cd_gaps ct_gaps⟩, counted_gaps := ⟨f_counted_gaps, PySem.W.fnOf "counted_gaps" "counted_gaps" (defArgs st_counted_gaps) (defBody st_counted_gaps) (defScope st_counted_gaps) .none kV_counted_gaps dc_counted_gaps pm_counted_gaps an_counted_gaps cd_counted_gaps ct_counted_gaps⟩, common := ⟨f_common, PySem.W.fnOf "common" "common" (defArgs st_common) (defBody st_common) (defScope st_common) .none kV_common dc_common pm_common an_common cd_common ct_common⟩, check_wheel := ⟨f_check_wheel, PySem.W.fnOf "check_wheel" "check_wheel" (defArgs st_check_wheel) (defBody st_check_wheel) (defScope st_check_wheel) .none kV_check_wheel dc_check_wheel pm_check_wheel an_check_wheel cd_check_wheel ct_check_wheel⟩, Wheel___init__ := ⟨f_Wheel___init__, PySem.W.fnOf "__init__" "Wheel.__init__" (defArgs st_Wheel___init__) (defBody st_Wheel___init__) (defScope st_Wheel___init__) (.ref tD) kV_Wheel___init__ dc_Wheel___init__ pm_Wheel___init__ an_Wheel___init__ cd_Wheel___init__ ct_Wheel___init__⟩, _law_cell_at := ⟨f__law_cell_at, PySem.W.fnOf "_law_cell_at" "_law_cell_at" (defArgs st__law_cell_at) (defBody st__law_cell_at) (defScope st__law_cell_at) .none kV__law_cell_at dc__law_cell_at pm__law_cell_at an__law_cell_at cd__law_cell_at ct__law_cell_at⟩, _law_whole := ⟨f__law_whole, PySem.W.fnOf "_law_whole" "_law_whole" (defArgs st__law_whole) (defBody st__law_whole) (defScope st__law_whole) .none kV__law_whole dc__law_whole pm__law_whole an__law_whole cd__law_whole ct__law_whole⟩, _law_divisor := ⟨f__law_divisor, PySem.W.fnOf "_law_divisor" "_law_divisor" (defArgs st__law_divisor) (defBody st__law_divisor) (defScope st__law_divisor) .none kV__law_divisor dc__law_divisor pm__law_divisor an__law_divisor cd__law_divisor ct__law_divisor⟩, _law_signed := ⟨f__law_signed, PySem.W.fnOf "_law_signed" "_law_signed" (defArgs st__law_signed) (defBody st__law_signed) (defScope st__law_signed) .none kV__law_signed dc__law_signed pm__law_signed an__law_signed cd__law_signed ct__law_signed⟩, _law_drawn := ⟨f__law_drawn, PySem.W.fnOf "_law_drawn" "_law_drawn" (defArgs st__law_drawn) (defBody st__law_drawn) (defScope st__law_drawn) .none kV__law_drawn dc__law_drawn pm__law_drawn an__law_drawn cd__law_drawn ct__law_drawn⟩, _law_shown := ⟨f__law_shown, PySem.W.fnOf "_law_shown" "_law_shown" (defArgs st__law_shown) (defBody st__law_shown) (defScope st__law_shown) .none kV__law_shown dc__law_shown pm__law_shown an__law_shown cd__law_shown ct__law_shown⟩, _law_good := ⟨f__law_good, PySem.W.fnOf "_law_good" "_law_good" (defArgs st__law_good) (defBody st__law_good) (defScope st__law_good) .none kV__law_good dc__law_good pm__law_good an__law_good cd__law_good ct__law_good⟩, _law_told := ⟨f__law_told, PySem.W.fnOf "_law_told" "_law_told" (defArgs st__law_told) (defBody st__law_told) (defScope st__law_told) .none kV__law_told dc__law_told pm__law_told an__law_told cd__law_told ct__law_told⟩, _law_counted := ⟨f__law_counted, PySem.W.fnOf "_law_counted" "_law_counted" (defArgs st__law_counted) (defBody st__law_counted) (defScope st__law_counted) .none kV__law_counted dc__law_counted pm__law_counted an__law_counted cd__law_counted ct__law_counted⟩, _law_stands := ⟨f__law_stands, PySem.W.fnOf "_law_stands" "_law_stands" (defArgs st__law_stands) (defBody st__law_stands) (defScope st__law_stands) .none kV__law_stands dc__law_stands pm__law_stands an__law_stands cd__law_stands ct__law_stands⟩, _law_manies := ⟨f__law_manies, PySem.W.fnOf "_law_manies" "_law_manies" (defArgs st__law_manies) (defBody st__law_manies) (defScope st__law_manies) .none kV__law_manies dc__law_manies pm__law_manies an__law_manies cd__law_manies ct__law_manies⟩, _law_refused := ⟨f__law_refused, PySem.W.fnOf "_law_refused" "_law_refused" (defArgs st__law_refused) (defBody st__law_refused) (defScope st__law_refused) .none kV__law_refused dc__law_refused pm__law_refused an__law_refused cd__law_refused ct__law_refused⟩, law := ⟨f_law, PySem.W.fnOf "law" "law" (defArgs st_law) (defBody st_law) (defScope st_law) .none kV_law dc_law pm_law an_law cd_law ct_law⟩, Nb := Nb, W := W, dflt := tD, HandError := x_HandError, NoWheel := x_NoWheel, NoBeats := x_NoBeats } := { F_greatest := fund_mk l_greatest c_greatest k_greatest, m_greatest := PySem.W.mg_of X G a_greatest, F_is_whole := fund_mk l_is_whole c_is_whole k_is_whole, m_is_whole := PySem.W.mg_of X G a_is_whole, F_check_beats := fund_mk l_check_beats c_check_beats k_check_beats, m_check_beats := PySem.W.mg_of X G a_check_beats, F_Neighbours___init__ := fund_mk l_Neighbours___init__ c_Neighbours___init__ k_Neighbours___init__, F_Neighbours_draw_ahead := fund_mk l_Neighbours_draw_ahead c_Neighbours_draw_ahead k_Neighbours_draw_ahead, me_draw_ahead := ⟨a_Neighbours_draw_ahead, i_Neighbours_draw_ahead, k_Neighbours_draw_ahead⟩, F_Neighbours_draw_behind := fund_mk l_Neighbours_draw_behind c_Neighbours_draw_behind k_Neighbours_draw_behind, me_draw_behind := ⟨a_Neighbours_draw_behind, i_Neighbours_draw_behind, k_Neighbours_draw_behind⟩, F_around := fund_mk l_around c_around k_around, m_around := PySem.W.mg_of X G a_around, F_gaps := fund_mk l_gaps c_gaps k_gaps, m_gaps := PySem.W.mg_of X G a_gaps, F_counted_gaps := fund_mk l_counted_gaps c_counted_gaps k_counted_gaps, m_counted_gaps := PySem.W.mg_of X G a_counted_gaps, F_common := fund_mk l_common c_common k_common, m_common := PySem.W.mg_of X G a_common, F_check_wheel := fund_mk l_check_wheel c_check_wheel k_check_wheel, m_check_wheel := PySem.W.mg_of X G a_check_wheel, F_Wheel___init__ := fund_mk l_Wheel___init__ c_Wheel___init__ k_Wheel___init__, F__law_cell_at := fund_mk l__law_cell_at c__law_cell_at k__law_cell_at, m__law_cell_at := PySem.W.mg_of X G a__law_cell_at, F__law_whole := fund_mk l__law_whole c__law_whole k__law_whole, m__law_whole := PySem.W.mg_of X G a__law_whole, F__law_divisor := fund_mk l__law_divisor c__law_divisor k__law_divisor, m__law_divisor := PySem.W.mg_of X G a__law_divisor, F__law_signed := fund_mk l__law_signed c__law_signed k__law_signed, m__law_signed := PySem.W.mg_of X G a__law_signed, F__law_drawn := fund_mk l__law_drawn c__law_drawn k__law_drawn, m__law_drawn := PySem.W.mg_of X G a__law_drawn, F__law_shown := fund_mk l__law_shown c__law_shown k__law_shown, m__law_shown := PySem.W.mg_of X G a__law_shown, F__law_good := fund_mk l__law_good c__law_good k__law_good, m__law_good := PySem.W.mg_of X G a__law_good, F__law_told := fund_mk l__law_told c__law_told k__law_told, m__law_told := PySem.W.mg_of X G a__law_told, F__law_counted := fund_mk l__law_counted c__law_counted k__law_counted, m__law_counted := PySem.W.mg_of X G a__law_counted, F__law_stands := fund_mk l__law_stands c__law_stands k__law_stands, m__law_stands := PySem.W.mg_of X G a__law_stands, F__law_manies := fund_mk l__law_manies c__law_manies k__law_manies, m__law_manies := PySem.W.mg_of X G a__law_manies, F__law_refused := fund_mk l__law_refused c__law_refused k__law_refused, m__law_refused := PySem.W.mg_of X G a__law_refused, F_law := fund_mk l_law c_law k_law, m_Neighbours := PySem.W.mg_of X G cls_Neighbours, cl_Neighbours := ⟨w_pg_Neighbours, w_hd_Neighbours, w_po_Neighbours, w_sa_Neighbours⟩, mk_Neighbours := ⟨w_mk_Neighbours, a_Neighbours___init__, i_Neighbours___init__, w_kc_Neighbours⟩, a_ahead := w_ahead, a_near := w_near, a_behind := w_behind, a_back := w_back, m_Wheel := PySem.W.mg_of X G cls_Wheel, cl := ⟨w_pg_Wheel, w_hd_Wheel, w_po_Wheel, w_sa_Wheel⟩, mk_Wheel := ⟨w_mk_Wheel, a_Wheel___init__, i_Wheel___init__, w_kc_Wheel⟩, a_size := w_size, a_step := w_step, a_start := w_start, a_lap := w_lap, dfl := ⟨_, _, _, d_l, rfl⟩, m_HandError := PySem.W.mg_of X G e_a_HandError, m_NoWheel := PySem.W.mg_of X G e_a_NoWheel, x_NoWheel := ⟨e_x_NoWheel, e_g_NoWheel, e_h_NoWheel, e_c_NoWheel, g_gs, g_tk, e_o_NoWheel, e_b_NoWheel, by rw [e_i_NoWheel]; rfl⟩, m_NoBeats := PySem.W.mg_of X G e_a_NoBeats, x_NoBeats := ⟨e_x_NoBeats, e_g_NoBeats, e_h_NoBeats, e_c_NoBeats, g_gs, g_tk, e_o_NoBeats, e_b_NoBeats, by rw [e_i_NoBeats]; rfl⟩, n_ValueError := PySem.W.mg_none_of X G z_ValueError, n_bool := PySem.W.mg_none_of X G z_bool, n_int := PySem.W.mg_none_of X G z_int, n_isinstance := PySem.W.mg_none_of X G z_isinstance, n_len := PySem.W.mg_none_of X G z_len, n_list := PySem.W.mg_none_of X G z_list, n_max := PySem.W.mg_none_of X G z_max, n_min := PySem.W.mg_none_of X G z_min, n_range := PySem.W.mg_none_of X G z_range, n_sorted := PySem.W.mg_none_of X G z_sorted, n_tuple := PySem.W.mg_none_of X G z_tuple, ib := kit_ty (by decide) (by decide +kernel) s_ib, ii := kit_same, ty_NoneType := ⟨kit_ty (by decide) (by decide +kernel) t_b_NoneType, kit_ty (by decide) (by decide +kernel) t_i_NoneType⟩, ty_bool := ⟨kit_same, kit_ty (by decide) (by decide +kernel) t_i_bool⟩, ty_str := ⟨kit_ty (by decide) (by decide +kernel) t_b_str, kit_ty (by decide) (by decide +kernel) t_i_str⟩, ty_tuple := ⟨kit_ty (by decide) (by decide +kernel) t_b_tuple, kit_ty (by decide) (by decide +kernel) t_i_tuple⟩, ty_list := ⟨kit_ty (by decide) (by decide +kernel) t_b_list, kit_ty (by decide) (by decide +kernel) t_i_list⟩, v_NoBeats := kit_ty rfl (by decide +kernel) e_v_NoBeats, q_NoBeats_HandError := kit_ref e_n_NoBeats_HandError e_i_HandError e_t_HandError e_s_NoBeats_HandError }
  exact ⟨_, fun s v => .of_eq rfl, fun base _ _ => ok_law T⟩
theorem law_walk {l : PySem.W.OpenLaw} {q : Program} {loose : List Str} {XP : (Str → Option Value) → Heap → Prop} {YP : World → Heap → Prop} {d : DefRec} {K : Params → PySem.W.Frag} (hn : l.most = some 63) (hdf : d.params.defaults = [])
    (hY : ∀ (w : World) (h : Heap), YP w h → (K w.params).In h)
    (F : ∀ (w : World) (mg : Str → Option Value) (fa : Addr) (h : Heap), (K w.params).In h → h.Ns mainGlobals mg → mg d.name = some (.ref fa) →
      ∃ fd : FuncData, (∀ (s : Shared) (u : Value), BindsTo s fd ⟨[u], []⟩ [("_law_script", u)]) ∧ ∀ base : Heap, (K w.params).In base → base.Ns mainGlobals mg → FnOk l.prog w (K w.params) mg base (CXR l.prog w) 6 fa fd ["_law_script"] (spLaw (K w.params))) :
    PySem.W.WalkO q loose XP YP l.row.toRowW d [] (fun f vs => PySem.call f vs) :=
  L2.walk_bits (n := 63) (k := 6) (x := "_law_script") (CX := fun w => CXR l.prog w) (sp := fun w => spLaw (K w.params)) hn (by decide) hdf ⟨rfl, by decide, by decide⟩ hY F (fun _ _ a ns hl hb _ hS => ⟨a, ns, rfl, hS, hl, hb, fun _ => rfl⟩) fun _ _ _ _ _ ⟨_, _, _, _, _, _, _, _, _, _, _, _, _, _, z⟩ => z
end Gh
open PySem PySem.W PyProof.Rows
set_option maxRecDepth 100000 in
set_option maxHeartbeats 0 in
theorem PySem.Challenge.cw_gaphand_k05_three_gaps_holds : PySem.Challenge.rw_gaphand_k05_three_gaps.Holds := by
  w_on; o_law; k_head; (case hw => w_witness2)
  k_fill
  refine Gh.law_walk (l := PySem.Challenge.rw_gaphand_k05_three_gaps) rfl rfl (fun w h Y => PySem.W.kIn_of Y) ?F
  case F =>
    intro w mg fa h KX G hmg
    refine' Gh.all_mk KX G hmg ?cls_Neighbours ?cls_Wheel ?a_greatest ?l_greatest ?c_greatest ?k_greatest ?a_is_whole ?l_is_whole ?c_is_whole ?k_is_whole ?a_check_beats ?l_check_beats ?c_check_beats ?k_check_beats ?a_Neighbours___init__ ?i_Neighbours___init__ ?l_Neighbours___init__ ?c_Neighbours___init__ ?k_Neighbours___init__ ?a_Neighbours_draw_ahead ?i_Neighbours_draw_ahead ?l_Neighbours_draw_ahead ?c_Neighbours_draw_ahead ?k_Neighbours_draw_ahead ?a_Neighbours_draw_behind ?i_Neighbours_draw_behind ?l_Neighbours_draw_behind ?c_Neighbours_draw_behind ?k_Neighbours_draw_behind ?a_around ?l_around ?c_around ?k_around ?a_gaps ?l_gaps ?c_gaps ?k_gaps ?a_counted_gaps ?l_counted_gaps ?c_counted_gaps ?k_counted_gaps ?a_common ?l_common ?c_common ?k_common ?a_check_wheel ?l_check_wheel ?c_check_wheel ?k_check_wheel ?a_Wheel___init__ ?i_Wheel___init__ ?l_Wheel___init__ ?c_Wheel___init__ ?k_Wheel___init__ ?a__law_cell_at ?l__law_cell_at ?c__law_cell_at ?k__law_cell_at ?a__law_whole ?l__law_whole ?c__law_whole ?k__law_whole ?a__law_divisor ?l__law_divisor ?c__law_divisor ?k__law_divisor ?a__law_signed ?l__law_signed ?c__law_signed ?k__law_signed ?a__law_drawn ?l__law_drawn ?c__law_drawn ?k__law_drawn ?a__law_shown ?l__law_shown ?c__law_shown ?k__law_shown ?a__law_good ?l__law_good ?c__law_good ?k__law_good ?a__law_told ?l__law_told ?c__law_told ?k__law_told ?a__law_counted ?l__law_counted ?c__law_counted ?k__law_counted ?a__law_stands ?l__law_stands ?c__law_stands ?k__law_stands ?a__law_manies ?l__law_manies ?c__law_manies ?k__law_manies ?a__law_refused ?l__law_refused ?c__law_refused ?k__law_refused ?a_law ?l_law ?c_law ?k_law ?w_pg_Neighbours ?w_hd_Neighbours ?w_po_Neighbours ?w_sa_Neighbours ?w_mk_Neighbours ?w_kc_Neighbours ?w_ahead ?w_near ?w_behind ?w_back ?w_pg_Wheel ?w_hd_Wheel ?w_po_Wheel ?w_sa_Wheel ?w_mk_Wheel ?w_kc_Wheel ?w_size ?w_step ?w_start ?w_lap ?d_l ?z_ValueError ?z_bool ?z_int ?z_isinstance ?z_len ?z_list ?z_max ?z_min ?z_range ?z_sorted ?z_tuple ?s_ib ?e_a_HandError ?e_i_HandError ?e_a_NoWheel ?e_x_NoWheel ?e_g_NoWheel ?e_h_NoWheel ?e_c_NoWheel ?e_o_NoWheel ?e_b_NoWheel ?e_i_NoWheel ?e_a_NoBeats ?e_x_NoBeats ?e_g_NoBeats ?e_h_NoBeats ?e_c_NoBeats ?e_o_NoBeats ?e_b_NoBeats ?e_i_NoBeats ?g_gs ?g_tk ?t_b_NoneType ?t_i_NoneType ?t_i_bool ?t_b_str ?t_i_str ?t_b_tuple ?t_i_tuple ?t_b_list ?t_i_list ?e_t_HandError ?e_v_NoBeats ?e_n_NoBeats_HandError ?e_s_NoBeats_HandError
    (case cls_Neighbours => k_is)
    (case cls_Wheel => k_is)
    (case a_greatest => k_is)
    (case l_greatest => k_is)
    (case c_greatest => k_is)
    (case k_greatest => k_is)
    (case a_is_whole => k_is)
    (case l_is_whole => k_is)
    (case c_is_whole => k_is)
    (case k_is_whole => k_is)
    (case a_check_beats => k_is)
    (case l_check_beats => k_is)
    (case c_check_beats => k_is)
    (case k_check_beats => k_is)
    (case a_Neighbours___init__ => k_is)
    (case i_Neighbours___init__ => k_is)
    (case l_Neighbours___init__ => k_is)
    (case c_Neighbours___init__ => k_is)
    (case k_Neighbours___init__ => k_is)
    (case a_Neighbours_draw_ahead => k_is)
    (case i_Neighbours_draw_ahead => k_is)
    (case l_Neighbours_draw_ahead => k_is)
    (case c_Neighbours_draw_ahead => k_is)
    (case k_Neighbours_draw_ahead => k_is)
    (case a_Neighbours_draw_behind => k_is)
    (case i_Neighbours_draw_behind => k_is)
    (case l_Neighbours_draw_behind => k_is)
    (case c_Neighbours_draw_behind => k_is)
    (case k_Neighbours_draw_behind => k_is)
    (case a_around => k_is)
    (case l_around => k_is)
    (case c_around => k_is)
    (case k_around => k_is)
    (case a_gaps => k_is)
    (case l_gaps => k_is)
    (case c_gaps => k_is)
    (case k_gaps => k_is)
    (case a_counted_gaps => k_is)
    (case l_counted_gaps => k_is)
    (case c_counted_gaps => k_is)
    (case k_counted_gaps => k_is)
    (case a_common => k_is)
    (case l_common => k_is)
    (case c_common => k_is)
    (case k_common => k_is)
    (case a_check_wheel => k_is)
    (case l_check_wheel => k_is)
    (case c_check_wheel => k_is)
    (case k_check_wheel => k_is)
    (case a_Wheel___init__ => k_is)
    (case i_Wheel___init__ => k_is)
    (case l_Wheel___init__ => k_is)
    (case c_Wheel___init__ => k_is)
    (case k_Wheel___init__ => k_is)
    (case a__law_cell_at => k_is)
    (case l__law_cell_at => k_is)
    (case c__law_cell_at => k_is)
    (case k__law_cell_at => k_is)
    (case a__law_whole => k_is)
    (case l__law_whole => k_is)
    (case c__law_whole => k_is)
    (case k__law_whole => k_is)
    (case a__law_divisor => k_is)
    (case l__law_divisor => k_is)
    (case c__law_divisor => k_is)
    (case k__law_divisor => k_is)
    (case a__law_signed => k_is)
    (case l__law_signed => k_is)
    (case c__law_signed => k_is)
    (case k__law_signed => k_is)
    (case a__law_drawn => k_is)
    (case l__law_drawn => k_is)
    (case c__law_drawn => k_is)
    (case k__law_drawn => k_is)
    (case a__law_shown => k_is)
    (case l__law_shown => k_is)
    (case c__law_shown => k_is)
    (case k__law_shown => k_is)
    (case a__law_good => k_is)
    (case l__law_good => k_is)
    (case c__law_good => k_is)
    (case k__law_good => k_is)
    (case a__law_told => k_is)
    (case l__law_told => k_is)
    (case c__law_told => k_is)
    (case k__law_told => k_is)
    (case a__law_counted => k_is)
    (case l__law_counted => k_is)
    (case c__law_counted => k_is)
    (case k__law_counted => k_is)
    (case a__law_stands => k_is)
    (case l__law_stands => k_is)
    (case c__law_stands => k_is)
    (case k__law_stands => k_is)
    (case a__law_manies => k_is)
    (case l__law_manies => k_is)
    (case c__law_manies => k_is)
    (case k__law_manies => k_is)
    (case a__law_refused => k_is)
    (case l__law_refused => k_is)
    (case c__law_refused => k_is)
    (case k__law_refused => k_is)
    (case a_law => k_is)
    (case l_law => k_is)
    (case c_law => k_is)
    (case k_law => k_is)
    (case w_pg_Neighbours => k_is)
    (case w_hd_Neighbours => k_is)
    (case w_po_Neighbours => k_is)
    (case w_sa_Neighbours => k_is)
    (case w_mk_Neighbours => k_is)
    (case w_kc_Neighbours => k_is)
    (case w_ahead => k_is)
    (case w_near => k_is)
    (case w_behind => k_is)
    (case w_back => k_is)
    (case w_pg_Wheel => k_is)
    (case w_hd_Wheel => k_is)
    (case w_po_Wheel => k_is)
    (case w_sa_Wheel => k_is)
    (case w_mk_Wheel => k_is)
    (case w_kc_Wheel => k_is)
    (case w_size => k_is)
    (case w_step => k_is)
    (case w_start => k_is)
    (case w_lap => k_is)
    (case d_l => k_is)
    (case z_ValueError => k_is)
    (case z_bool => k_is)
    (case z_int => k_is)
    (case z_isinstance => k_is)
    (case z_len => k_is)
    (case z_list => k_is)
    (case z_max => k_is)
    (case z_min => k_is)
    (case z_range => k_is)
    (case z_sorted => k_is)
    (case z_tuple => k_is)
    (case s_ib => k_is)
    (case e_a_HandError => k_is)
    (case e_i_HandError => k_is)
    (case e_a_NoWheel => k_is)
    (case e_x_NoWheel => k_exc)
    (case e_g_NoWheel => k_is)
    (case e_h_NoWheel => k_is)
    (case e_c_NoWheel => k_is)
    (case e_o_NoWheel => k_is)
    (case e_b_NoWheel => k_is)
    (case e_i_NoWheel => k_is)
    (case e_a_NoBeats => k_is)
    (case e_x_NoBeats => k_exc)
    (case e_g_NoBeats => k_is)
    (case e_h_NoBeats => k_is)
    (case e_c_NoBeats => k_is)
    (case e_o_NoBeats => k_is)
    (case e_b_NoBeats => k_is)
    (case e_i_NoBeats => k_is)
    (case g_gs => k_is)
    (case g_tk => k_is)
    (case t_b_NoneType => k_is)
    (case t_i_NoneType => k_is)
    (case t_i_bool => k_is)
    (case t_b_str => k_is)
    (case t_i_str => k_is)
    (case t_b_tuple => k_is)
    (case t_i_tuple => k_is)
    (case t_b_list => k_is)
    (case t_i_list => k_is)
    (case e_t_HandError => k_is)
    (case e_v_NoBeats => k_is)
    (case e_n_NoBeats_HandError => decide)
    (case e_s_NoBeats_HandError => k_is)

