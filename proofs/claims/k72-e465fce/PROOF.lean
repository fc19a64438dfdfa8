import PyProof.Rows.All
import Wide.All
import OpenK.AllK
import Wide.FinOn
import Lean
import PyProof.EqAt
import PyProof.EqKinds
import PyProof.TupleCall
import PySem.Challenge.RW_rentshare_k72_nobody_moves
set_option Elab.async false
set_option linter.all false
set_option maxRecDepth 100000
/-! THE HAND LAYER, for ints, bools, texts, own classes, LISTS and tuples (index, slices, in, append, pop ..), calls, loops. Paste it whole ahead of your own text; what your proof does not reach may be deleted. -/
namespace L2
open PySem PySem.Spec PyProof.Rows

/-- a key: an int or a str -/
abbrev Key := Sum Int Str
def keyIs : Key → Value → Bool
  | .inl k, v => Value.isInt k v
  | .inr x, v => Value.isStrOf x v
def keyH (w : World) : Key → Int
  | .inl k => hashInt k
  | .inr x => hashStr w x
theorem keyIs_shape : ∀ {k : Key} {v : Value}, keyIs k v = true → (∃ i t, k = Sum.inl i ∧ v = Value.int i t) ∨ (∃ x t, k = Sum.inr x ∧ v = Value.str x t)
  | .inl i, v, h => by
    obtain ⟨t, e⟩ := Value.isInt_shape (k := i) (v := v) h
    exact .inl ⟨i, t, rfl, e⟩
  | .inr x, v, h => by
    obtain ⟨t, e⟩ := Value.isStrOf_shape (x := x) (v := v) h
    exact .inr ⟨x, t, rfl, e⟩
theorem key_ll (a b : Int) : decide ((Sum.inl a : Key) = Sum.inl b) = (a == b) := by
  by_cases e : a = b
  · subst e; simp
  · have h : ¬ (Sum.inl a : Key) = Sum.inl b := fun q => e (Sum.inl.inj q)
    rw [decide_eq_false h]
    exact (beq_eq_false_iff_ne.mpr e).symm
theorem key_rr (a b : Str) : decide ((Sum.inr a : Key) = Sum.inr b) = decide (a = b) := by
  by_cases e : a = b
  · subst e; simp
  · have h : ¬ (Sum.inr a : Key) = Sum.inr b := fun q => e (Sum.inr.inj q)
    rw [decide_eq_false h, decide_eq_false e]
theorem key_lr (a : Int) (b : Str) : decide ((Sum.inl a : Key) = Sum.inr b) = false := decide_eq_false (fun q => nomatch q)
theorem key_rl (a : Str) (b : Int) : decide ((Sum.inr a : Key) = Sum.inl b) = false := decide_eq_false (fun q => nomatch q)

def mixKind (prog : Program) (w : World) : PySem.KeyKind prog w Key where
  is := keyIs
  hash := keyH w
  inj := fun v a b ha hb => by
    rcases keyIs_shape ha with ⟨i, t, rfl, rfl⟩ | ⟨x, t, rfl, rfl⟩
    · rcases keyIs_shape hb with ⟨j, u, rfl, e⟩ | ⟨y, u, rfl, e⟩
      · injection e with e1 _; rw [e1]
      · exact nomatch e
    · rcases keyIs_shape hb with ⟨j, u, rfl, e⟩ | ⟨y, u, rfl, e⟩
      · exact nomatch e
      · injection e with e1 _; rw [e1]
  byValue := fun k v h => by
    rcases keyIs_shape h with ⟨i, t, rfl, rfl⟩ | ⟨x, t, rfl, rfl⟩ <;> rfl
  pyHash := fun hv h => by
    rcases keyIs_shape hv with ⟨i, t, rfl, rfl⟩ | ⟨x, t, rfl, rfl⟩
    · exact wpAny_pyHash_int h
    · exact wpAny_pyHash_str h
  eqBool := fun hu hv h => by
    rcases keyIs_shape hu with ⟨i, t, rfl, rfl⟩ | ⟨x, t, rfl, rfl⟩
    · rcases keyIs_shape hv with ⟨j, u, rfl, rfl⟩ | ⟨y, u, rfl, rfl⟩
      · rw [key_ll] at h; exact wpAny_eqBool_int h
      · rw [key_lr] at h; exact SeqAt.EqAt.int_str i t y u _ _ _ _ h
    · rcases keyIs_shape hv with ⟨j, u, rfl, rfl⟩ | ⟨y, u, rfl, rfl⟩
      · rw [key_rl] at h; exact SeqAt.EqAt.str_int x t j u _ _ _ _ h
      · rw [key_rr] at h; exact wpAny_eqBool_str h
  «strs» := fun k x t v h => by
    rcases keyIs_shape h with ⟨i, u, rfl, e⟩ | ⟨y, u, rfl, e⟩
    · exact nomatch e
    · injection e with e1 _
      subst e1
      cases v <;> rfl

end L2

namespace L2
open PySem PySem.Spec PyProof.Rows

/-- a value, without the heap -/
inductive V where
  | non | bl (b : Bool) | int (i : Int) | str (x : Str) | byt (b : Array UInt8) | flt (b : UInt64) | ref (a : Addr) | ty (n : String)
  deriving DecidableEq

def RelV : V → Value → Prop
  | .non, u => u = Value.none
  | .bl b, u => u = Value.bool b
  | .int i, u => ∃ t, u = Value.int i t
  | .str x, u => ∃ t, u = Value.str x t
  | .byt b, u => ∃ t, u = Value.bytes b t
  | .flt b, u => ∃ t, u = Value.float b t
  | .ref a, u => u = Value.ref a
  | .ty n, u => u = Value.type n

abbrev Vals : List V → List Value → Prop := Paired RelV
theorem Vals.length {xs : List V} {us : List Value} (r : Vals xs us) : xs.length = us.length := Paired.length r
theorem Vals.get : ∀ {xs : List V} {us : List Value} {i : Nat} {x : V}, Vals xs us → xs[i]? = some x → ∃ u, us[i]? = some u ∧ RelV x u
  | _, _, _, _, .nil, e => by simp at e
  | _, _, 0, _, .cons r _, e => by simp at e; subst e; exact ⟨_, rfl, r⟩
  | _, _, i + 1, x, .cons _ t, e => by
    obtain ⟨u, h1, h2⟩ := Vals.get (i := i) (x := x) t (by simpa using e)
    exact ⟨u, by simpa using h1, h2⟩
theorem Vals.set {x : V} {u : Value} (r : RelV x u) : ∀ {xs : List V} {us : List Value} (i : Nat), Vals xs us → Vals (xs.set i x) (us.set i u)
  | _, _, _, .nil => .nil
  | _, _, 0, .cons _ t => .cons r t
  | _, _, i + 1, .cons q t => .cons q (Vals.set r i t)
theorem Vals.append : ∀ {xs ys : List V} {us ws : List Value}, Vals xs us → Vals ys ws → Vals (xs ++ ys) (us ++ ws)
  | _, _, _, _, .nil, s => s
  | _, _, _, _, .cons r t, s => .cons r (Vals.append t s)
theorem Vals.take : ∀ {xs : List V} {us : List Value} (n : Nat), Vals xs us → Vals (xs.take n) (us.take n)
  | _, _, 0, _ => .nil
  | _, _, _ + 1, .nil => .nil
  | _, _, n + 1, .cons r t => .cons r (Vals.take n t)
theorem Vals.drop : ∀ {xs : List V} {us : List Value} (n : Nat), Vals xs us → Vals (xs.drop n) (us.drop n)
  | _, _, 0, r => r
  | _, _, _ + 1, .nil => .nil
  | _, _, n + 1, .cons _ t => Vals.drop n t
theorem Vals.none_of : ∀ {xs : List V} {us : List Value} {i : Nat}, Vals xs us → xs[i]? = none → us[i]? = none := fun {xs us i} r e => by
  have h1 := r.length
  have h2 : xs.length ≤ i := List.getElem?_eq_none_iff.mp e
  exact List.getElem?_eq_none_iff.mpr (by omega)

def RelO : Option V → Option Value → Prop
  | some v, some u => RelV v u
  | none, none => True
  | _, _ => False
def KV {κ : Type} : List (κ × V) → List (κ × Value) → Prop := Paired fun (p : κ × V) (q : κ × Value) => p.1 = q.1 ∧ RelV p.2 q.2

/-- a key of a dict (00_mix): an int or a text -/
def kV : Key → V
  | .inl i => .int i
  | .inr x => .str x

/-- what stands at a tracked address -/
inductive HO where
  /-- a list -/
  | lst (xs : List V)
  /-- a tuple (never changes) -/
  | tup (xs : List V)
  /-- a dict whose keys are ints and texts; one whose keys are tuples of ints and texts (the empty one is both) -/
  | dK (kvs : List (Key × V)) | dT (kvs : List (List Key × V))
  /-- a set of ints: its members, its size -/
  | set (S : Int → Bool) (n : Nat)
  /-- an instance of the class at C, its dict at dx, its attributes -/
  | ins (C dx : Addr) (fs : List (Str × V))
  /-- the dict of the instance at x -/
  | own (x : Addr)
  /-- the dict of an exception -/
  | xd (fs : List (Str × V))
  /-- a bound method, f of x -/
  | met (f x : Addr)
  /-- a range object lo, lo + 1, .. below hi -/
  | rng (lo hi : Int)
  /-- a thing that is known to the object (the script; a dict while a loop walks it): read, never written while it is so -/
  | frz (o : Obj) (u : HO)
  /-- a code object's table -/
  | tbl (ps : Array Value)
  /-- any other thing, by what is true of its one object (a def of one's own: SetO a S n := HO.ext fun h => ..) -/
  | ext (φ : Heap → Prop)

abbrev Hp := Addr → Option HO
def upd (H : Hp) (a : Addr) (o : HO) : Hp := fun b => if b = a then some o else H b
theorem upd_same {H : Hp} {a : Addr} {o : HO} : upd H a o a = some o := by unfold upd; rw [if_pos rfl]
theorem upd_ne {H : Hp} {a b : Addr} {o : HO} (h : b ≠ a) : upd H a o b = H b := by unfold upd; rw [if_neg h]
/-- two objects of different content stand apart -/
theorem ne_of {H : Hp} {a b : Addr} {o u : HO} (h : H a = some o) (h' : H b = some u) (d : o ≠ u) : a ≠ b := by
  intro e; subst e; rw [h] at h'; exact d (Option.some.inj h')
theorem ne_of_none {H : Hp} {a b : Addr} {o : HO} (h : H a = some o) (h' : H b = none) : a ≠ b := by
  intro e; subst e; rw [h] at h'; cases h'

section
variable (P : Program) (w : World)
def ObjOk (H : Hp) (h : Heap) (a : Addr) : HO → Prop
  | .lst xs => xs.length ≤ sizeLine ∧ ∃ (its : List Value) (n : Nat), Vals xs its ∧ h.get? a = some { cls := .type "list", data := .seq its.toArray n }
  | .tup xs => xs.length ≤ sizeLine ∧ ∃ its : List Value, Vals xs its ∧ IsTup h a its.toArray
  | .dK kvs => kvs.length ≤ sizeLine ∧ (a == sysModules) = false ∧ ∃ vs, KV kvs vs ∧ h.DictOf (mixKind P w) a vs
  | .dT kvs => kvs.length ≤ sizeLine ∧ (a == sysModules) = false ∧ ∃ xs : List (List Key × Addr × Value),
      Paired (fun (p : List Key × V) (q : List Key × Addr × Value) => p.1 = q.1 ∧ H q.2.1 = some (.tup (p.1.map kV)) ∧ RelV p.2 q.2.2) kvs xs ∧
      ∃ o es ep, h.get? a = some o ∧ o.ExactDict ∧ o.data = .dict es ep ∧ es.toList = xs.map (entryOfKey (tupleKind (mixKind P w))) ∧ (xs.map (·.1)).Nodup
  | .set S n => h.SetOf (intKind P w) a S n
  | .ins C dx fs => H dx = some (.own a) ∧ fs.length ≤ 1000 ∧ dx ≠ a ∧ h.get? a = some (PySem.W.instObj C dx) ∧
      ∃ mA, h.Ns1 dx mA ∧ (∀ f, RelO (fs.lookup f) (mA f)) ∧ PySem.Within mA (fs.map (·.1))
  | .own _ => ∃ o, h.get? a = some o
  | .xd fs => ∃ mA, h.Ns1 a mA ∧ ∀ f, RelO (fs.lookup f) (mA f)
  | .rng lo hi => ∃ t u v, h.get? a = some { cls := .type "range", data := .fields #[.int lo t, .int hi u, .int 1 v] }
  | .frz o u => h.get? a = some o ∧ ObjOk H h a u
  | .tbl ps => h.get? a = some { cls := .none, data := .fields ps }
  | .met f x => h.get? a = some (PySem.W.methodObj (.ref f) (.ref x))
  | .ext φ => φ h ∧ (∃ o, h.get? a = some o) ∧ ∀ h1 h2 : Heap, φ h1 → (∀ o, h1.get? a = some o → h2.get? a = some o) → φ h2
/-- the abstract heap is held -/
def HOk (H : Hp) (h : Heap) : Prop := ∀ a o, H a = some o → ObjOk P w H h a o
end

section
variable {P : Program} {w : World} {H H' : Hp} {h h' : Heap} {a : Addr} {o : HO}
theorem ObjOk.lt (x : ObjOk P w H h a o) : a < h.objs.size := by
  cases o with
  | lst xs => obtain ⟨_, _, _, _, e⟩ := x; exact Heap.lt_size e
  | tup xs => obtain ⟨_, _, _, p⟩ := x; exact p.lt
  | dK kvs => obtain ⟨_, _, _, _, o, _, _, e, _⟩ := x; exact Heap.lt_size e
  | dT kvs => obtain ⟨_, _, _, _, o, _, _, e, _⟩ := x; exact Heap.lt_size e
  | set S n => obtain ⟨o, _, _, _, e, _⟩ := x; exact Heap.lt_size e
  | ins C dx fs => obtain ⟨_, _, _, e, _⟩ := x; exact Heap.lt_size e
  | own y => obtain ⟨_, e⟩ := x; exact Heap.lt_size e
  | xd fs => obtain ⟨_, ⟨_, _, _, e, _⟩, _⟩ := x; exact Heap.lt_size e
  | rng lo hi => obtain ⟨_, _, _, e⟩ := x; exact Heap.lt_size e
  | frz ob u => obtain ⟨e, _⟩ := x; exact Heap.lt_size e
  | tbl ps => exact Heap.lt_size (show h.get? a = some _ from x)
  | met f y => exact Heap.lt_size (show h.get? a = some _ from x)
  | ext φ => obtain ⟨_, ⟨_, e⟩, _⟩ := x; exact Heap.lt_size e
theorem Paired.mapP {α β : Type} {F G : α → β → Prop} : ∀ {l₁ : List α} {l₂ : List β}, Paired F l₁ l₂ → (∀ a b, F a b → G a b) → Paired G l₁ l₂
  | _, _, .nil, _ => .nil
  | _, _, .cons r t, f => .cons (f _ _ r) (Paired.mapP t f)
/-- what an object's description leans on: its own object, its own dict, the tuples -/
theorem ObjOk.stay (x : ObjOk P w H h a o) (k : ∀ b u, (b = a ∨ H b = some (.own a)) → h.get? b = some u → h'.get? b = some u)
    (ho : ∀ b, H b = some (.own a) → H' b = some (.own a)) (ht : ∀ b xs, H b = some (.tup xs) → H' b = some (.tup xs)) : ObjOk P w H' h' a o := by
  induction o with
  | lst xs => obtain ⟨z, its, n, r, e⟩ := x; exact ⟨z, its, n, r, k _ _ (.inl rfl) e⟩
  | tup xs => obtain ⟨z, its, r, ob, e, c⟩ := x; exact ⟨z, its, r, ob, k _ _ (.inl rfl) e, c⟩
  | dK kvs => obtain ⟨z, y, vs, r, ob, es, ep, e, c⟩ := x; exact ⟨z, y, vs, r, ob, es, ep, k _ _ (.inl rfl) e, c⟩
  | dT kvs =>
    obtain ⟨z, y, xs, r, ob, es, ep, e, c⟩ := x
    exact ⟨z, y, xs, Paired.mapP r fun p q z => ⟨z.1, ht _ _ z.2.1, z.2.2⟩, ob, es, ep, k _ _ (.inl rfl) e, c⟩
  | set S n => obtain ⟨ob, es, ep, t, e, c⟩ := x; exact ⟨ob, es, ep, t, k _ _ (.inl rfl) e, c⟩
  | ins C dx fs =>
    obtain ⟨d, z, ne, e, mA, ⟨od, es, ep, e2, c⟩, r⟩ := x
    exact ⟨ho _ d, z, ne, k _ _ (.inl rfl) e, mA, ⟨od, es, ep, k _ _ (.inr d) e2, c⟩, r⟩
  | own y => obtain ⟨ob, e⟩ := x; exact ⟨ob, k _ _ (.inl rfl) e⟩
  | xd fs => obtain ⟨mA, ⟨od, es, ep, e, c⟩, r⟩ := x; exact ⟨mA, ⟨od, es, ep, k _ _ (.inl rfl) e, c⟩, r⟩
  | rng lo hi => obtain ⟨t, u, v, e⟩ := x; exact ⟨t, u, v, k _ _ (.inl rfl) e⟩
  | frz ob u ih => obtain ⟨e, q⟩ := x; exact ⟨k _ _ (.inl rfl) e, ih q⟩
  | tbl ps =>
    have e : h.get? a = some { cls := .none, data := .fields ps } := x
    show h'.get? a = some { cls := .none, data := .fields ps }
    exact k a _ (.inl rfl) e
  | met f y =>
    have e : h.get? a = some (PySem.W.methodObj (.ref f) (.ref y)) := x
    show h'.get? a = some (PySem.W.methodObj (.ref f) (.ref y))
    exact k a _ (.inl rfl) e
  | ext φ => obtain ⟨p, ⟨o, e⟩, st⟩ := x; exact ⟨st _ _ p fun o q => k _ _ (.inl rfl) q, ⟨o, k _ _ (.inl rfl) e⟩, st⟩
theorem HOk.lt (x : HOk P w H h) (e : H a = some o) : a < h.objs.size := (x a o e).lt
theorem HOk.fresh (x : HOk P w H h) (e : h.objs.size ≤ a) : H a = none := by
  cases q : H a with
  | none => rfl
  | some u => exact absurd (Nat.lt_of_lt_of_le (x.lt q) e) (Nat.lt_irrefl _)
/-- every object of the heap is kept -/
theorem HOk.kept (x : HOk P w H h) (k : ∀ b u, h.get? b = some u → h'.get? b = some u) : HOk P w H h' := fun a o e =>
  (x a o e).stay (fun b u _ q => k b u q) (fun _ q => q) fun _ _ q => q
/-- a new object is laid and tracked -/
theorem HOk.laid (x : HOk P w H h) (k : ∀ b u, h.get? b = some u → h'.get? b = some u) (hp : h.objs.size ≤ a) (new : ObjOk P w (upd H a o) h' a o) : HOk P w (upd H a o) h' := fun b u e => by
  have hn := x.fresh hp
  by_cases hb : b = a
  · subst hb; rw [upd_same] at e; cases e; exact new
  · rw [upd_ne hb] at e
    exact (x b u e).stay (fun c v _ q => k c v q) (fun c q => by rw [upd_ne (ne_of_none q hn)]; exact q) fun c xs q => by rw [upd_ne (ne_of_none q hn)]; exact q
end

/-- what may be read as u: it is u, or a known u -/
def Rd (H : Hp) (a : Addr) (u : HO) : Prop := H a = some u ∨ ∃ o, H a = some (.frz o u)
theorem Rd.of {H : Hp} {a : Addr} {u : HO} (h : H a = some u) : Rd H a u := .inl h
theorem Rd.ok {P : Program} {w : World} {H : Hp} {h : Heap} {a : Addr} {u : HO} (r : Rd H a u) (x : HOk P w H h) : ObjOk P w H h a u := by
  rcases r with r | ⟨o, r⟩
  · exact x a u r
  · obtain ⟨_, q⟩ := x a _ r
    exact q
/-- what may be written -/
def Mut : Option HO → Prop
  | some (.lst _) => True
  | some (.dK _) => True
  | some (.dT _) => True
  | some (.set _ _) => True
  | some (.ins _ _ _) => True
  | some (.ext _) => True
  | _ => False
section
variable {P : Program} {w : World} {H : Hp} {h h' : Heap} {x e : Addr} {o' : HO}
/-- the object at e is changed: x itself, or the dict of the instance x -/
theorem HOk.write (ok : HOk P w H h) (mu : Mut (H x)) (he : e = x ∨ H e = some (.own x)) (k : ∀ b u, b ≠ e → h.get? b = some u → h'.get? b = some u) (heo : ∃ u, h'.get? e = some u)
    (new : ObjOk P w (upd H x o') h' x o') : HOk P w (upd H x o') h' := fun b u q => by
  have nown : ∀ c y, H c = some (.own y) → c ≠ x := fun c y r z => by subst z; rw [r] at mu; exact mu
  have ntup : ∀ c xs, H c = some (.tup xs) → c ≠ x := fun c xs r z => by subst z; rw [r] at mu; exact mu
  by_cases hb : b = x
  · subst hb; rw [upd_same] at q; cases q; exact new
  · rw [upd_ne hb] at q
    by_cases hbe : b = e
    · have q' : H b = some (.own x) := by
        rcases he with z | z
        · exact absurd (hbe.trans z) hb
        · rw [hbe]; exact z
      rw [q] at q'; cases q'
      obtain ⟨v, hv⟩ := heo
      exact ⟨v, by rw [hbe]; exact hv⟩
    · refine (ok b u q).stay (fun c v hc r => k c v ?_ r) (fun c r => by rw [upd_ne (nown c b r)]; exact r) fun c xs r => by rw [upd_ne (ntup c xs r)]; exact r
      rcases hc with rfl | hc
      · exact hbe
      · rintro rfl
        rcases he with z | z
        · exact nown c b hc z
        · rw [hc] at z; cases z; exact hb rfl
end

/-! ### kept unless tracked; of the frames at fs (the callers') the slots may change (an exception that passes writes there); of the records at ex (iterators) nothing is said -/
structure Un (fs ex : List Addr) (H H' : Hp) (h h' : Heap) : Prop where
  keep : ∀ b o, h.get? b = some o → H b = none → b ∉ fs → b ∉ ex → h'.get? b = some o
  slot : ∀ b o, h.get? b = some o → H b = none → b ∈ fs → b ∉ ex → ∃ sl, h'.get? b = some { o with slots := sl }
  free : ∀ b o, h.get? b = some o → H b = none → b ∉ ex → H' b = none
  there : ∀ b o, h.get? b = some o → b ∉ ex → ∃ o', h'.get? b = some o'
  tups : ∀ b xs, H b = some (.tup xs) → H' b = some (.tup xs)
  frzs : ∀ b o u, H b = some (.frz o u) → H' b = some (.frz o u)
  tbls : ∀ b ps, H b = some (.tbl ps) → ∃ more, H' b = some (.tbl (ps ++ more))
section
variable {fs fs' ex ex' : List Addr} {H H1 H2 : Hp} {h h1 h2 h' : Heap} {a x e : Addr} {o : HO}
theorem Un.any (u : Un fs ex H H1 h h1) {b : Addr} {ob : Obj} (q : h.get? b = some ob) (n : H b = none) (hx : b ∉ ex) : ∃ sl, h1.get? b = some { ob with slots := sl } := by
  by_cases hb : b ∈ fs
  · exact u.slot b ob q n hb hx
  · exact ⟨ob.slots, u.keep b ob q n hb hx⟩
theorem Un.trans (a : Un fs ex H H1 h h1) (b : Un fs ex H1 H2 h1 h2) : Un fs ex H H2 h h2 where
  keep := fun c ob q n hc hx => b.keep c ob (a.keep c ob q n hc hx) (a.free c ob q n hx) hc hx
  slot := fun c ob q n hc hx => by
    obtain ⟨sl, e1⟩ := a.slot c ob q n hc hx
    obtain ⟨sl', e2⟩ := b.slot c _ e1 (a.free c ob q n hx) hc hx
    exact ⟨sl', e2⟩
  free := fun c ob q n hx => by
    obtain ⟨o', e1⟩ := a.there c ob q hx
    exact b.free c o' e1 (a.free c ob q n hx) hx
  there := fun c ob q hx => by
    obtain ⟨o', e1⟩ := a.there c ob q hx
    exact b.there c o' e1 hx
  tups := fun c xs q => b.tups c xs (a.tups c xs q)
  frzs := fun c ob xs q => b.frzs c ob xs (a.frzs c ob xs q)
  tbls := fun c ps q => by
    obtain ⟨m1, e1⟩ := a.tbls c ps q
    obtain ⟨m2, e2⟩ := b.tbls c _ e1
    exact ⟨m1 ++ m2, by rw [e2, Array.append_assoc]⟩
theorem Un.kept (k : ∀ b u, h.get? b = some u → h'.get? b = some u) : Un fs ex H H h h' :=
  ⟨fun b ob q _ _ _ => k b ob q, fun b ob q _ _ _ => ⟨ob.slots, k b ob q⟩, fun _ _ _ n _ => n, fun b ob q _ => ⟨ob, k b ob q⟩, fun _ _ q => q, fun _ _ _ q => q, fun _ ps q => ⟨#[], by rw [q]; simp⟩⟩
theorem Un.refl : Un fs ex H H h h := Un.kept fun _ _ q => q
theorem Un.laid (k : ∀ b u, h.get? b = some u → h'.get? b = some u) (hp : h.objs.size ≤ a) (hn : H a = none) : Un fs ex H (upd H a o) h h' where
  keep := fun b u q _ _ _ => k b u q
  slot := fun b u q _ _ _ => ⟨u.slots, k b u q⟩
  free := fun b u q n _ => by rw [upd_ne (Nat.ne_of_lt (Nat.lt_of_lt_of_le (Heap.lt_size q) hp))]; exact n
  there := fun b u q _ => ⟨u, k b u q⟩
  tups := fun b xs q => by rw [upd_ne (ne_of_none q hn)]; exact q
  frzs := fun b u xs q => by rw [upd_ne (ne_of_none q hn)]; exact q
  tbls := fun b ps q => ⟨#[], by rw [upd_ne (ne_of_none q hn), q]; simp⟩
theorem Un.write (mu : Mut (H x)) (he : e = x ∨ H e = some (.own x)) (k : ∀ b u, b ≠ e → h.get? b = some u → h'.get? b = some u) (heo : ∃ u, h'.get? e = some u) : Un fs ex H (upd H x o) h h' := by
  have hx : ∀ b, H b = none → b ≠ x := fun b n z => by subst z; rw [n] at mu; exact mu
  have hb : ∀ b, H b = none → b ≠ e := fun b n z => by
    subst z
    rcases he with r | r
    · exact hx b n r
    · rw [n] at r; cases r
  have hm : ∀ b u, H b = some u → ¬ Mut (some u) → b ≠ x := fun b u q nm z => by subst z; rw [q] at mu; exact nm mu
  refine ⟨fun b u q n _ _ => k b u (hb b n) q, fun b u q n _ _ => ⟨u.slots, k b u (hb b n) q⟩, fun b u q n _ => by rw [upd_ne (hx b n)]; exact n, fun b u q _ => ?_,
    fun b xs q => by rw [upd_ne (hm b _ q fun z => z)]; exact q, fun b u xs q => by rw [upd_ne (hm b _ q fun z => z)]; exact q, fun b ps q => ⟨#[], by rw [upd_ne (hm b _ q fun z => z), q]; simp⟩⟩
  by_cases hbe : b = e
  · subst hbe; exact heo
  · exact ⟨u, k b u hbe q⟩
theorem Un.mono (u : Un fs ex H H1 h h1) (hs : ∀ b ∈ fs, b ∈ fs') (hx : ∀ b ∈ ex, b ∈ ex') : Un fs' ex' H H1 h h1 :=
  ⟨fun b ob q n hb he => u.keep b ob q n (fun z => hb (hs b z)) fun z => he (hx b z), fun _ _ q n _ he => u.any q n fun z => he (hx _ z), fun b ob q n he => u.free b ob q n fun z => he (hx b z), fun b ob q he => u.there b ob q fun z => he (hx b z), u.tups, u.frzs, u.tbls⟩
end

/-! ### the heap without what is tracked -/
def trk (h : Heap) (H : Hp) : List Addr := (List.range h.objs.size).filter fun a => (H a).isSome
def hidT (h : Heap) (H : Hp) : Heap := PySem.W.hideAll h (trk h H)
theorem hidT_size (h : Heap) (H : Hp) : (hidT h H).objs.size = h.objs.size := PySem.W.hideAll_size _ _
theorem hidT_get {h : Heap} {H : Hp} {b : Addr} {o : Obj} (e : h.get? b = some o) (n : H b = none) : (hidT h H).get? b = some o :=
  PySem.W.hideAll_get _ e fun hm => by
    have q : (H b).isSome = true := (List.mem_filter.mp hm).2
    rw [n] at q; simp at q
theorem of_hidT {h : Heap} {H : Hp} {b : Addr} {o : Obj} (e : (hidT h H).get? b = some o) : h.get? b = some o ∧ H b = none := by
  have e' : h.get? b = some o := PySem.W.of_hideAll (trk h H) e
  refine ⟨e', ?_⟩
  cases q : H b with
  | none => rfl
  | some x =>
    have hm : b ∈ trk h H := List.mem_filter.mpr ⟨List.mem_range.mpr (Heap.lt_size e'), by simp [q]⟩
    have z : (hidT h H).get? b = none := PySem.W.hideAll_none (trk h H) hm
    rw [z] at e; cases e

/-! ### OpenK's ledger, filled with every new object but one -/
def allNews (g h : Heap) (L : Addr) : List (Addr × Obj) := (List.range h.objs.size).filterMap fun a => if a = L ∨ (g.get? a).isSome = true then none else (h.get? a).map fun o => (a, o)
def rest (g h : Heap) (L d : Addr) : List (Addr × Obj) := (allNews g h L).filter fun p => decide (p.1 ≠ d)
end L2

namespace L2
open PySem PySem.Spec PyProof.Rows

/-- the module's facts, over the base: the heap at the law's entry without what is tracked there -/
structure Mod (K : PySem.W.Frag) (mg : Str → Option Value) (base : Heap) : Prop where
  kin : K.In base
  glob : base.Ns mainGlobals mg
  blt : ∃ mb, base.Ns builtinsNs mb ∧ ∀ x : Str, x ≠ "__name__" → mb x = bootBuiltins x
  nolimit : base.NoLimit

/-- the context: a def's body (or a comprehension's block) running. base: fixed through the whole law; s₀, H₀: the entry; outer: the frames whose slots others may change (a def's callers); stack: all frames that run;
   ex: iterators that were made ahead of the entry and are walked here (a comprehension's); fn: the names whose cells were made at the entry (a def: all; a comprehension's block: its own); calm: not within an except suite; pn: pins that every state bears; xe: what is wanted of an exception that leaves the code -/
structure Cx where
  prog : Program
  w : World
  K : PySem.W.Frag
  mg : Str → Option Value
  base : Heap
  A : Around
  N : List Str
  s₀ : Shared
  H₀ : Hp
  env : Env
  outer : List Env
  stack : List Env
  ex : List Addr
  fn : Str → Bool
  calm : Bool
  pn : List (Addr × Obj)
  xe : Value → Shared → Prop
/-- the callers' frames -/
def frs (l : List Env) : List Addr := l.filterMap (·.frame)
abbrev Cx.fs (X : Cx) : List Addr := frs X.outer

def Vis (sc : Scope) (x : Str) : Prop := sc.names.lookup x = some .local ∨ sc.names.lookup x = some .cell ∨ sc.names.lookup x = some .free
def Loc (sc : Scope) (x : Str) : Prop := sc.names.lookup x = some .local ∨ sc.names.lookup x = some .cell
def Look (env : Env) (h : Heap) (m : Str → Option Value) (x : Str) (u : Value) : Prop :=
  (env.kindOf x = some .local ∧ m x = some u) ∨ ((env.kindOf x = some .cell ∨ env.kindOf x = some .free) ∧ ∃ c, env.cells.lookup x = some c ∧ h.IsCell c (some u))

structure Cx.Ok (X : Cx) : Prop where
  mod : Mod X.K X.mg X.base
  kind : X.env.scope.kind = .function
  glob : X.env.globals = mainGlobals
  blt : X.env.builtins = builtinsNs
  above : X.s₀.heap.objs.size ≤ X.env.locals
  inj : ∀ x y c, X.env.cells.lookup x = some c → X.env.cells.lookup y = some c → x = y
  has : ∀ x, (X.env.kindOf x = some .cell ∨ X.env.kindOf x = some .free) → ∃ c, X.env.cells.lookup x = some c
  cab : ∀ x c, X.fn x = true → X.env.cells.lookup x = some c → X.s₀.heap.objs.size ≤ c
  hd : X.calm = true → X.A.handled = none
  frames : X.A.frames = some X.stack
  stk : X.stack = X.outer ∨ (X.stack = X.env :: X.outer ∧ X.env.frame = some X.env.locals)
  exf : ∀ b ∈ X.ex, b ≠ X.env.locals ∧ ∀ x c, X.env.cells.lookup x = some c → c ≠ b
  bs : ∀ b o, X.base.get? b = some o → X.s₀.heap.get? b = some o ∧ X.H₀ b = none
  bsz : X.base.objs.size ≤ X.s₀.heap.objs.size
  noex : ∀ b o, X.base.get? b = some o → b ∉ X.ex
  exfs : ∀ b ∈ X.ex, b ∉ X.fs
  funs : X.s₀.heap.FunFrames X.base X.outer
  frf : ∀ b ∈ X.fs, X.H₀ b = none

structure Inv (X : Cx) (pins : List (Addr × Obj)) (σ : List (Option V)) (H : Hp) (s : Shared) : Prop where
  ok : X.Ok
  os : s.os = X.s₀.os
  bare : AllBare s.gens
  base : Un X.fs X.ex X.H₀ H X.s₀.heap s.heap
  loc : ∃ m, s.heap.Ns X.env.locals m ∧ ∀ (i : Nat) (x : Str) (v : V), X.N[i]? = some x → σ[i]? = some (some v) → Vis X.env.scope x → ∃ u, RelV v u ∧ Look X.env s.heap m x u
  cell : ∀ x c, X.env.cells.lookup x = some c → ∃ v, s.heap.IsCell c v
  free : H X.env.locals = none
  freeC : ∀ x c, X.env.cells.lookup x = some c → H c = none
  pin : ∀ p ∈ X.pn ++ pins, s.heap.get? p.1 = some p.2 ∧ H p.1 = none ∧ p.1 ≠ X.env.locals ∧ p.1 ∉ X.fs ∧ ∀ v, p.2.data ≠ .cell v
  hok : HOk X.prog X.w H s.heap
  len : σ.length = X.N.length

section
variable {X : Cx} {pins : List (Addr × Obj)} {σ : List (Option V)} {H H' : Hp} {s : Shared} {h' : Heap}

theorem Cx.Ok.nofr (ok : X.Ok) {b : Addr} {o : Obj} (e : X.base.get? b = some o) : b ∉ X.fs := fun hb => by
  have := (ok.funs.mem hb).1
  rw [e] at this; cases this
theorem Inv.bs (I : Inv X pins σ H s) : ∀ b o, X.base.get? b = some o → s.heap.get? b = some o ∧ H b = none := fun b o e =>
  ⟨I.base.keep b o (I.ok.bs b o e).1 (I.ok.bs b o e).2 (I.ok.nofr e) (I.ok.noex b o e), I.base.free b o (I.ok.bs b o e).1 (I.ok.bs b o e).2 (I.ok.noex b o e)⟩
theorem Inv.bk (I : Inv X pins σ H s) : ∀ b o, X.base.get? b = some o → s.heap.get? b = some o := fun b o e => (I.bs b o e).1
theorem Inv.mod (I : Inv X pins σ H s) : Mod X.K X.mg X.base := I.ok.mod
theorem Inv.kIn (I : Inv X pins σ H s) : X.K.In s.heap := I.ok.mod.kin.keeps I.bk
theorem Inv.nolimit (I : Inv X pins σ H s) : s.heap.NoLimit := I.ok.mod.nolimit.keeps I.bk
theorem Inv.lt (I : Inv X pins σ H s) : X.env.locals < s.heap.objs.size := let ⟨_, hn, _⟩ := I.loc; hn.lt
theorem Inv.sz (I : Inv X pins σ H s) : X.s₀.heap.objs.size ≤ s.heap.objs.size := Nat.le_trans I.ok.above (Nat.le_of_lt I.lt)
theorem Inv.nofs (I : Inv X pins σ H s) {a : Addr} (h : s.heap.objs.size ≤ a) : a ∉ X.fs := fun hb => by
  obtain ⟨_, o, ho, _⟩ := I.ok.funs.mem hb
  exact absurd (Nat.lt_of_lt_of_le (Heap.lt_size ho) (Nat.le_trans I.sz h)) (Nat.lt_irrefl _)
theorem Inv.cne (I : Inv X pins σ H s) : ∀ x c, X.env.cells.lookup x = some c → c ≠ X.env.locals := fun x c e z => by
  obtain ⟨v, o, ho, hd⟩ := I.cell x c e
  obtain ⟨m, ⟨o', es, ep, ho', hd', _⟩, _⟩ := I.loc
  rw [z, ho'] at ho; cases ho; rw [hd'] at hd; cases hd
theorem Inv.funs (I : Inv X pins σ H s) : s.heap.FunFrames X.base X.outer := by
  have all : ∀ (l : List Env), (∀ b ∈ frs l, b ∈ X.fs) → X.s₀.heap.FunFrames X.base l → s.heap.FunFrames X.base l := by
    intro l
    induction l with
    | nil => intro _ _; trivial
    | cons env r ih =>
      intro hs hl
      obtain ⟨hk, ⟨L, o, hf, hn, ho, hd⟩, hr⟩ := hl
      have hL : L ∈ X.fs := hs L (by unfold frs; rw [List.filterMap_cons, hf]; exact List.mem_cons_self)
      obtain ⟨sl, e⟩ := I.base.slot L o ho (I.ok.frf L hL) hL fun z => I.ok.exfs L z hL
      exact ⟨hk, ⟨L, _, hf, hn, e, hd⟩, ih (fun b hb => hs b (by unfold frs; rw [List.filterMap_cons, hf]; exact List.mem_cons_of_mem _ hb)) hr⟩
  exact all X.outer (fun _ hb => hb) I.ok.funs

/-- the frames that run, for a call -/
theorem Inv.stack (I : Inv X pins σ H s) : s.heap.FunFrames X.base X.stack := by
  rcases I.ok.stk with e | ⟨e, hf⟩
  · rw [e]; exact I.funs
  · rw [e]
    obtain ⟨m, hn, _⟩ := I.loc
    refine .cons (by rw [I.ok.kind]; decide) hf hn ?_ I.funs
    exact Heap.get?_none_of_le (Nat.le_trans I.ok.bsz I.ok.above)
theorem Inv.stkSub (I : Inv X pins σ H s) : ∀ b ∈ frs X.stack, b ∈ X.env.locals :: X.fs := fun b hb => by
  rcases I.ok.stk with e | ⟨e, hf⟩
  · rw [e] at hb; exact List.mem_cons_of_mem _ hb
  · rw [e] at hb
    unfold frs at hb
    rw [List.filterMap_cons, hf] at hb
    exact hb
theorem Inv.stkFree (I : Inv X pins σ H s) : ∀ b ∈ frs X.stack, H b = none := fun b hb => by
  rcases List.mem_cons.mp (I.stkSub b hb) with e | hb
  · rw [e]; exact I.free
  · obtain ⟨_, o, ho, _⟩ := I.ok.funs.mem hb
    exact I.base.free b o ho (I.ok.frf b hb) fun z => I.ok.exfs b z hb

/-- THE STEP: the untracked objects but the frame and the records at ch are kept (the callers' frames up to slots), the frame's map is kept, the new abstract heap is held -/
theorem Inv.step {g' : Array GenState} {t' : Nat} {d' : Drawn} {ch : List Addr} (I : Inv X pins σ H s)
    (hch : ∀ b ∈ ch, (b ∈ X.ex ∨ X.s₀.heap.objs.size ≤ b) ∧ b ≠ X.env.locals ∧ (∀ x c, X.env.cells.lookup x = some c → c ≠ b) ∧ ∀ p ∈ X.pn ++ pins, p.1 ≠ b)
    (keep : ∀ b o, b ≠ X.env.locals → b ∉ X.fs → b ∉ ch → s.heap.get? b = some o → H b = none → h'.get? b = some o)
    (slot : ∀ b o, b ≠ X.env.locals → b ∈ X.fs → b ∉ ch → s.heap.get? b = some o → H b = none → ∃ sl, h'.get? b = some { o with slots := sl }) (free : ∀ b o, b ∉ ch → s.heap.get? b = some o → H b = none → H' b = none)
    (there : ∀ b o, b ∉ ch → s.heap.get? b = some o → ∃ o', h'.get? b = some o')
    (tups : ∀ b xs, H b = some (.tup xs) → H' b = some (.tup xs)) (frzs : ∀ b o u, H b = some (.frz o u) → H' b = some (.frz o u)) (tbls : ∀ b ps, H b = some (.tbl ps) → ∃ more, H' b = some (.tbl (ps ++ more)))
    (ns : ∀ m, s.heap.Ns X.env.locals m → h'.Ns X.env.locals m) (hok : HOk X.prog X.w H' h') (hg : AllBare g') :
    Inv X pins σ H' { s with heap := h', gens := g', drawn := d', toks := t' } := by
  have neL : ∀ b o, X.s₀.heap.get? b = some o → b ≠ X.env.locals := fun b o e => Nat.ne_of_lt (Nat.lt_of_lt_of_le (Heap.lt_size e) I.ok.above)
  have neC : ∀ b o, X.s₀.heap.get? b = some o → b ∉ X.ex → b ∉ ch := fun b o e hx hb => by
    rcases (hch b hb).1 with z | z
    · exact hx z
    · exact absurd (Nat.lt_of_lt_of_le (Heap.lt_size e) z) (Nat.lt_irrefl _)
  have cellK : ∀ x c, X.env.cells.lookup x = some c → ∀ v, s.heap.IsCell c v → h'.IsCell c v := fun x c e v ⟨o, ho, hd⟩ => by
    have nch : c ∉ ch := fun z => (hch c z).2.2.1 x c e rfl
    by_cases hc : c ∈ X.fs
    · obtain ⟨sl, q⟩ := slot c o (I.cne x c e) hc nch ho (I.freeC x c e)
      exact ⟨_, q, hd⟩
    · exact ⟨o, keep c o (I.cne x c e) hc nch ho (I.freeC x c e), hd⟩
  refine ⟨I.ok, I.os, hg, ⟨fun b o e n hb hx => ?_, fun b o e n hb hx => ?_, fun b o e n hx => ?_, fun b o e hx => ?_, fun b xs e => tups b xs (I.base.tups b xs e), fun b o xs e => frzs b o xs (I.base.frzs b o xs e), fun b ps e => ?_⟩, ?_, fun x c e => ?_, ?_, fun x c e => ?_, fun p hp => ?_, hok, I.len⟩
  · exact keep b o (neL b o e) hb (neC b o e hx) (I.base.keep b o e n hb hx) (I.base.free b o e n hx)
  · obtain ⟨sl, e1⟩ := I.base.slot b o e n hb hx
    obtain ⟨sl', e2⟩ := slot b _ (neL b o e) hb (neC b o e hx) e1 (I.base.free b o e n hx)
    exact ⟨sl', e2⟩
  · obtain ⟨o', e1⟩ := I.base.there b o e hx
    exact free b o' (neC b o e hx) e1 (I.base.free b o e n hx)
  · obtain ⟨o', e1⟩ := I.base.there b o e hx
    exact there b o' (neC b o e hx) e1
  · obtain ⟨m1, e1⟩ := I.base.tbls b ps e
    obtain ⟨m2, e2⟩ := tbls b _ e1
    exact ⟨m1 ++ m2, by rw [e2, Array.append_assoc]⟩
  · obtain ⟨m, hn, hl⟩ := I.loc
    refine ⟨m, ns m hn, fun i x v e1 e2 e3 => ?_⟩
    obtain ⟨u, r, l⟩ := hl i x v e1 e2 e3
    refine ⟨u, r, ?_⟩
    rcases l with l | ⟨k, c, e, z⟩
    · exact .inl l
    · exact .inr ⟨k, c, e, cellK x c e _ z⟩
  · obtain ⟨v, z⟩ := I.cell x c e
    exact ⟨v, cellK x c e v z⟩
  · obtain ⟨m, ⟨o, _, _, ho, _⟩, _⟩ := I.loc
    exact free _ o (fun z => (hch _ z).2.1 rfl) ho I.free
  · obtain ⟨v, o, ho, hd⟩ := I.cell x c e
    exact free c o (fun z => (hch c z).2.2.1 x c e rfl) ho (I.freeC x c e)
  · obtain ⟨e, n, ne, nf, d⟩ := I.pin p hp
    have nch : p.1 ∉ ch := fun z => (hch p.1 z).2.2.2 p hp rfl
    exact ⟨keep p.1 p.2 ne nf nch e n, free p.1 p.2 nch e n, ne, nf, d⟩
/-- .. where the frame's own object is kept too -/
theorem Inv.un {t' : Nat} (I : Inv X pins σ H s) (u : Un X.fs [] H H' s.heap h') (hok : HOk X.prog X.w H' h') : Inv X pins σ H' { s with heap := h', toks := t' } := by
  obtain ⟨m, ⟨o, es, ep, ho, r⟩, _⟩ := id I.loc
  obtain ⟨sl, hL⟩ := u.any ho I.free (by simp)
  exact I.step (g' := s.gens) (d' := s.drawn) (ch := []) (fun _ z => nomatch z) (fun b o _ hb _ e n => u.keep b o e n hb (by simp)) (fun b o _ hb _ e n => u.slot b o e n hb (by simp)) (fun b o _ e n => u.free b o e n (by simp)) (fun b o _ e => u.there b o e (by simp)) u.tups u.frzs u.tbls (fun m' hm => by
    obtain ⟨o', es', ep', ho', r'⟩ := hm
    rw [ho] at ho'; cases ho'
    exact ⟨_, es', ep', hL, r'⟩) hok I.bare
/-- behind a call (or a comprehension's block): the slots of this frame may have changed too, the records at ch may have turned -/
theorem Inv.call {g' : Array GenState} {t' : Nat} {d' : Drawn} {ch : List Addr} (I : Inv X pins σ H s) (u : Un (frs X.stack) ch H H' s.heap h') (hok : HOk X.prog X.w H' h') (hg : AllBare g')
    (hch : ∀ b ∈ ch, (b ∈ X.ex ∨ X.s₀.heap.objs.size ≤ b) ∧ b ≠ X.env.locals ∧ (∀ x c, X.env.cells.lookup x = some c → c ≠ b) ∧ ∀ p ∈ X.pn ++ pins, p.1 ≠ b) :
    Inv X pins σ H' { s with heap := h', gens := g', drawn := d', toks := t' } := by
  obtain ⟨m, ⟨o, es, ep, ho, r⟩, _⟩ := id I.loc
  obtain ⟨sl, hL⟩ := u.any ho I.free fun z => (hch _ z).2.1 rfl
  exact I.step (ch := ch) hch (fun b o hL hb hc e n => u.keep b o e n (fun z => (List.mem_cons.mp (I.stkSub b z)).elim hL hb) hc) (fun b o _ _ hc e n => u.any e n hc) (fun b o hc e n => u.free b o e n hc) (fun b o hc e => u.there b o e hc) u.tups u.frzs u.tbls (fun m' hm => by
    obtain ⟨o', es', ep', ho', r'⟩ := hm
    rw [ho] at ho'; cases ho'
    exact ⟨_, es', ep', hL, r'⟩) hok hg
/-- an untracked record of ours (an iterator) has turned -/
theorem Inv.turned {t' : Nat} {it : Addr} (I : Inv X pins σ H s) (k : ∀ b o, b ≠ it → s.heap.get? b = some o → h'.get? b = some o) (hn : H it = none) (hL : it ≠ X.env.locals)
    (h1 : it ∈ X.ex ∨ X.s₀.heap.objs.size ≤ it) (h2 : ∀ x c, X.env.cells.lookup x = some c → c ≠ it) (h3 : ∀ p ∈ X.pn ++ pins, p.1 ≠ it) : Inv X pins σ H { s with heap := h', toks := t' } := by
  have nit : ∀ b u, H b = some u → b ≠ it := fun b u e z => by rw [z, hn] at e; cases e
  refine I.step (g' := s.gens) (d' := s.drawn) (ch := [it]) (fun b hb => ?_) (fun b o _ _ hc e _ => k b o (fun z => hc (by simp [z])) e) (fun b o _ _ hc e _ => ⟨o.slots, k b o (fun z => hc (by simp [z])) e⟩) (fun _ _ _ _ n => n)
    (fun b o hc e => ⟨o, k b o (fun z => hc (by simp [z])) e⟩) (fun _ _ e => e) (fun _ _ _ e => e) (fun b ps e => ⟨#[], by rw [e]; simp⟩) (fun m hm => ?_) (fun b u e => ?_) I.bare
  · have e : b = it := by simpa using hb
    subst e
    exact ⟨h1, hL, h2, h3⟩
  · obtain ⟨o, es, ep, ho, r⟩ := hm
    exact ⟨o, es, ep, k _ o (Ne.symm hL) ho, r⟩
  · refine (I.hok b u e).stay (fun c v hc q => k c v ?_ q) (fun _ q => q) fun _ _ q => q
    rcases hc with z | z
    · rw [z]; exact nit b u e
    · exact nit c _ z
theorem Inv.tok (I : Inv X pins σ H s) (t : Nat) : Inv X pins σ H { s with toks := t } := I.un (h' := s.heap) (t' := t) Un.refl I.hok
/-- all objects kept -/
theorem Inv.kept {t' : Nat} (I : Inv X pins σ H s) (k : ∀ b u, s.heap.get? b = some u → h'.get? b = some u) : Inv X pins σ H { s with heap := h', toks := t' } := I.un (Un.kept k) (I.hok.kept k)
/-- a new object laid and tracked -/
theorem Inv.laid {a : Addr} {o : HO} {t' : Nat} (I : Inv X pins σ H s) (k : ∀ b u, s.heap.get? b = some u → h'.get? b = some u) (hp : s.heap.objs.size ≤ a) (new : ObjOk X.prog X.w (upd H a o) h' a o) :
    Inv X pins σ (upd H a o) { s with heap := h', toks := t' } := I.un (Un.laid k hp (I.hok.fresh hp)) (I.hok.laid k hp new)
/-- an object written -/
theorem Inv.write {x e : Addr} {o : HO} {t' : Nat} (I : Inv X pins σ H s) (mu : Mut (H x)) (he : e = x ∨ H e = some (.own x)) (k : ∀ b u, b ≠ e → s.heap.get? b = some u → h'.get? b = some u) (heo : ∃ u, h'.get? e = some u)
    (new : ObjOk X.prog X.w (upd H x o) h' x o) : Inv X pins σ (upd H x o) { s with heap := h', toks := t' } := I.un (Un.write mu he k heo) (I.hok.write mu he k heo new)
/-- forgetting slots, pins -/
theorem Inv.weak {σ' : List (Option V)} (I : Inv X pins σ H s) (hl : σ'.length = σ.length) (w : ∀ (i : Nat) v, σ'[i]? = some (some v) → σ[i]? = some (some v)) : Inv X pins σ' H s :=
  ⟨I.ok, I.os, I.bare, I.base, let ⟨m, hn, hl'⟩ := I.loc; ⟨m, hn, fun i x v e1 e2 e3 => hl' i x v e1 (w i v e2) e3⟩, I.cell, I.free, I.freeC, I.pin, I.hok, hl.trans I.len⟩
theorem Inv.pins_of {pins' : List (Addr × Obj)} (I : Inv X pins σ H s) (h : ∀ p ∈ pins', s.heap.get? p.1 = some p.2 ∧ H p.1 = none ∧ p.1 ≠ X.env.locals ∧ p.1 ∉ X.fs ∧ ∀ v, p.2.data ≠ .cell v) : Inv X pins' σ H s :=
  ⟨I.ok, I.os, I.bare, I.base, I.loc, I.cell, I.free, I.freeC, fun p hp => (List.mem_append.mp hp).elim (fun z => I.pin p (List.mem_append_left _ z)) (h p), I.hok, I.len⟩

theorem nodup_ix {N : List Str} (hN : N.Nodup) {i j : Nat} {x : Str} (a : N[i]? = some x) (b : N[j]? = some x) : i = j := by
  obtain ⟨h1, e1⟩ := List.getElem?_eq_some_iff.mp a
  obtain ⟨h2, e2⟩ := List.getElem?_eq_some_iff.mp b
  exact (List.getElem_inj hN).mp (e1.trans e2.symm)

/-- a name is stored; what changed -/
theorem store_ok2 {M : Model} {A : Around} {E : Value → Shared → Prop} {i : Nat} {x : Str} {v : V} {u : Value} {Q : Unit → Shared → Prop} (I : Inv X pins σ H s) (hN : X.N.Nodup) (hi : X.N[i]? = some x) (hx : Loc X.env.scope x) (r : RelV v u)
    (h : ∀ s', Inv X pins (σ.set i (some v)) H s' → (∃ a, Heap.SameBut a s.heap s'.heap ∧ (a = X.env.locals ∨ X.env.cells.lookup x = some a)) → Q () s') (hf : X.fn x = true ∨ X.env.scope.names.lookup x = some .local := by first | exact .inl rfl | exact .inr rfl | assumption) : wpAny M A (storeName X.env x u) Q E s := by
  obtain ⟨m, hn, hl⟩ := id I.loc
  have hcls : (X.env.scope.kind == .class || (X.env.scope.kind == .module && X.env.locals != X.env.globals)) = false := by rw [I.ok.kind]; rfl
  have hiσ : i < σ.length := by rw [I.len]; exact (List.getElem?_eq_some_iff.mp hi).1
  have cne := I.cne
  have tracked : ∀ {a : Addr} {h' : Heap}, (∃ o, s.heap.get? a = some o ∧ H a = none) → Heap.SameBut a s.heap h' → HOk X.prog X.w H h' := fun {a h'} ha hs b ob e => by
    obtain ⟨_, _, hfree⟩ := ha
    refine (I.hok b ob e).stay (fun c w' hc q => (hs.2 c ?_).trans q) (fun _ q => q) fun _ _ q => q
    rintro rfl
    rcases hc with rfl | hc
    · rw [hfree] at e; cases e
    · rw [hfree] at hc; cases hc
  rcases hx with hk | hk
  · refine wpAny_storeName_local hk hn (fun h' hn' hs => ?_) hcls
    obtain ⟨oL, _, _, hoL, _⟩ := id hn
    refine h _ ⟨I.ok, I.os, I.bare, ⟨fun b o e n hb hx => ?_, fun b o e n hb hx => ?_, I.base.free, fun b o e hx => ?_, I.base.tups, I.base.frzs, I.base.tbls⟩, ⟨_, hn', fun j y v' e1 e2 e3 => ?_⟩, fun y c e => ?_, I.free, I.freeC, fun p hp => ?_, tracked ⟨oL, hoL, I.free⟩ hs, by simpa using I.len⟩ ⟨_, hs, .inl rfl⟩
    · exact (hs.2 b (Nat.ne_of_lt (Nat.lt_of_lt_of_le (Heap.lt_size e) I.ok.above))).trans (I.base.keep b o e n hb hx)
    · obtain ⟨sl, e1⟩ := I.base.slot b o e n hb hx
      exact ⟨sl, (hs.2 b (Nat.ne_of_lt (Nat.lt_of_lt_of_le (Heap.lt_size e) I.ok.above))).trans e1⟩
    · obtain ⟨o', e1⟩ := I.base.there b o e hx
      exact ⟨o', (hs.2 b (Nat.ne_of_lt (Nat.lt_of_lt_of_le (Heap.lt_size e) I.ok.above))).trans e1⟩
    · by_cases hj : j = i
      · subst hj
        rw [hi] at e1; cases e1
        rw [List.getElem?_set_self hiσ] at e2
        cases e2
        exact ⟨u, r, .inl ⟨hk, by simp⟩⟩
      · rw [List.getElem?_set_ne (Ne.symm hj)] at e2
        obtain ⟨u', r', q⟩ := hl j y v' e1 e2 e3
        refine ⟨u', r', ?_⟩
        rcases q with ⟨k, e⟩ | ⟨k, c, e, z⟩
        · refine .inl ⟨k, ?_⟩
          have : y ≠ x := fun e => hj (nodup_ix hN e1 (e ▸ hi))
          simp [this, e]
        · exact .inr ⟨k, c, e, z.sameBut hs (cne y c e)⟩
    · obtain ⟨w', z⟩ := I.cell y c e
      exact ⟨w', z.sameBut hs (cne y c e)⟩
    · obtain ⟨e, n, ne, nf, d⟩ := I.pin p hp
      exact ⟨(hs.2 p.1 ne).trans e, n, ne, nf, d⟩
  · have hfn : X.fn x = true := by
      rcases hf with z | z
      · exact z
      · rw [z] at hk; cases hk
    obtain ⟨c, hc⟩ := I.ok.has x (.inl hk)
    obtain ⟨w', z⟩ := I.cell x c hc
    refine wpAny_storeName_cell I.ok.kind hk hc z (fun h' hc' hs => ?_)
    obtain ⟨oc, hoc, hocd⟩ := id z
    refine h { s with heap := h' } ⟨I.ok, I.os, I.bare, ⟨fun b o e n hb hx => ?_, fun b o e n hb hx => ?_, I.base.free, fun b o e hx => ?_, I.base.tups, I.base.frzs, I.base.tbls⟩, ⟨m, hn.sameBut hs (Ne.symm (cne x c hc)), fun j y v' e1 e2 e3 => ?_⟩, fun y c' e => ?_, I.free, I.freeC, fun p hp => ?_, tracked ⟨oc, hoc, I.freeC x c hc⟩ hs, by simpa using I.len⟩ ⟨c, hs, .inr hc⟩
    · exact (hs.2 b (Nat.ne_of_lt (Nat.lt_of_lt_of_le (Heap.lt_size e) (I.ok.cab x c hfn hc)))).trans (I.base.keep b o e n hb hx)
    · obtain ⟨sl, e1⟩ := I.base.slot b o e n hb hx
      exact ⟨sl, (hs.2 b (Nat.ne_of_lt (Nat.lt_of_lt_of_le (Heap.lt_size e) (I.ok.cab x c hfn hc)))).trans e1⟩
    · obtain ⟨o', e1⟩ := I.base.there b o e hx
      exact ⟨o', (hs.2 b (Nat.ne_of_lt (Nat.lt_of_lt_of_le (Heap.lt_size e) (I.ok.cab x c hfn hc)))).trans e1⟩
    · by_cases hj : j = i
      · subst hj
        rw [hi] at e1; cases e1
        rw [List.getElem?_set_self hiσ] at e2
        cases e2
        exact ⟨u, r, .inr ⟨.inl hk, c, hc, hc'⟩⟩
      · rw [List.getElem?_set_ne (Ne.symm hj)] at e2
        obtain ⟨u', r', q⟩ := hl j y v' e1 e2 e3
        refine ⟨u', r', ?_⟩
        rcases q with q | ⟨k, c', e, z'⟩
        · exact .inl q
        · refine .inr ⟨k, c', e, z'.sameBut hs ?_⟩
          rintro rfl
          exact hj (nodup_ix hN e1 (I.ok.inj _ _ _ e hc ▸ hi))
    · by_cases hcc : c' = c
      · subst hcc; exact ⟨_, hc'⟩
      · obtain ⟨w2, z2⟩ := I.cell y c' e
        exact ⟨w2, z2.sameBut hs hcc⟩
    · obtain ⟨e, n, ne, nf, d⟩ := I.pin p hp
      refine ⟨(hs.2 p.1 ?_).trans e, n, ne, nf, d⟩
      intro q
      rw [q, hoc] at e
      have q' : oc = p.2 := Option.some.inj e
      exact d w' (by rw [← q']; exact hocd)
theorem store_ok {M : Model} {A : Around} {E : Value → Shared → Prop} {i : Nat} {x : Str} {v : V} {u : Value} {Q : Unit → Shared → Prop} (I : Inv X pins σ H s) (hN : X.N.Nodup) (hi : X.N[i]? = some x) (hx : Loc X.env.scope x) (r : RelV v u)
    (h : ∀ s', Inv X pins (σ.set i (some v)) H s' → Q () s') (hf : X.fn x = true ∨ X.env.scope.names.lookup x = some .local := by first | exact .inl rfl | exact .inr rfl | assumption) : wpAny M A (storeName X.env x u) Q E s :=
  store_ok2 I hN hi hx r (fun s' I' _ => h s' I') hf
/-- behind a call or a block, the state as it is -/
theorem Inv.call' {s' : Shared} {ch : List Addr} (I : Inv X pins σ H s) (ho : s'.os = s.os) (u : Un (frs X.stack) ch H H' s.heap s'.heap) (hok : HOk X.prog X.w H' s'.heap) (hg : AllBare s'.gens)
    (hch : ∀ b ∈ ch, (b ∈ X.ex ∨ X.s₀.heap.objs.size ≤ b) ∧ b ≠ X.env.locals ∧ (∀ x c, X.env.cells.lookup x = some c → c ≠ b) ∧ ∀ p ∈ X.pn ++ pins, p.1 ≠ b) : Inv X pins σ H' s' := by
  obtain ⟨h', g', d', t', o'⟩ := s'
  have e : o' = s.os := ho
  subst e
  exact I.call (g' := g') (t' := t') (d' := d') u hok hg hch
end

/-! ### the judgements -/
/-- an exception: its class, its own dict's address (where it has one), the abstract heap behind it -/
abbrev XK := Value → Option Addr → Hp → Prop
abbrev St := List (Option V)
abbrev VK := V → Hp → Prop
/-- an expression's reading; a test's; an argument list's -/
abbrev TE := St → Hp → VK → Prop
abbrev TT := St → Hp → (Bool → Hp → Prop) → Prop
abbrev TA := St → Hp → (List V → Hp → Prop) → Prop
/-- what is wanted behind a statement -/
structure Ends where
  nx : St → Hp → Prop
  rt : VK
  bk : St → Hp → Prop := fun _ _ => False
  ct : St → Hp → Prop := fun _ _ => False
abbrev TS := Ends → St → Hp → Prop

def EP (X : Cx) (pins : List (Addr × Obj)) (σ : St) (Q : VK) (u : Value) (s' : Shared) : Prop := ∃ v H', Inv X pins σ H' s' ∧ RelV v u ∧ Q v H'
def TP (X : Cx) (pins : List (Addr × Obj)) (σ : St) (Q : Bool → Hp → Prop) (b : Bool) (s' : Shared) : Prop := ∃ H', Inv X pins σ H' s' ∧ Q b H'
def AP (X : Cx) (pins : List (Addr × Obj)) (σ : St) (Q : List V → Hp → Prop) (us : List Value) (s' : Shared) : Prop := ∃ vs H', Inv X pins σ H' s' ∧ Vals vs us ∧ Q vs H'
def SP (X : Cx) (pins : List (Addr × Obj)) (D : Ends) (f : Flow) (s' : Shared) : Prop :=
  match f with
  | .next => ∃ σ' H', Inv X pins σ' H' s' ∧ D.nx σ' H'
  | .brk => ∃ σ' H', Inv X pins σ' H' s' ∧ D.bk σ' H'
  | .cont => ∃ σ' H', Inv X pins σ' H' s' ∧ D.ct σ' H'
  | .ret u => ∃ v σ' H', Inv X pins σ' H' s' ∧ RelV v u ∧ D.rt v H'

def PE (X : Cx) (e : Expr) (t : TE) : Prop :=
  ∀ (pins : List (Addr × Obj)) (s : Shared) (σ : St) (H : Hp) (Q : VK), Inv X pins σ H s → t σ H Q → wpAny (model X.prog X.w) X.A (eval e X.env) (EP X pins σ Q) X.xe s
def PT (X : Cx) (e : Expr) (t : TT) : Prop :=
  ∀ (pins : List (Addr × Obj)) (s : Shared) (σ : St) (H : Hp) (Q : Bool → Hp → Prop), Inv X pins σ H s → t σ H Q → wpAny (model X.prog X.w) X.A (isTrue e X.env (eval e X.env)) (TP X pins σ Q) X.xe s
/-- a test whatever its 'whole' is (and, or) -/
def PW (X : Cx) (e : Expr) (t : TT) : Prop :=
  ∀ (whole : Sem Value) (pins : List (Addr × Obj)) (s : Shared) (σ : St) (H : Hp) (Q : Bool → Hp → Prop), Inv X pins σ H s → t σ H Q → wpAny (model X.prog X.w) X.A (isTrue e X.env whole) (TP X pins σ Q) X.xe s
theorem PW.pt {X : Cx} {e : Expr} {t : TT} (h : PW X e t) : PT X e t := h _
/-- an argument list (no star), from the left -/
def PA (X : Cx) (es : List Expr) (t : TA) : Prop :=
  ∀ (pos : Pos) (pins : List (Addr × Obj)) (s : Shared) (σ : St) (H : Hp) (Q : List V → Hp → Prop), Inv X pins σ H s → t σ H Q → wpAny (model X.prog X.w) X.A (spliced (backTo pos (starEach es X.env))) (AP X pins σ Q) X.xe s
def PS (X : Cx) (st : Stmt) (t : TS) : Prop :=
  ∀ (pins : List (Addr × Obj)) (s : Shared) (σ : St) (H : Hp) (D : Ends), Inv X pins σ H s → t D σ H → wpAny (model X.prog X.w) X.A (exec st X.env) (SP X pins D) X.xe s
def PSs (X : Cx) (st : List Stmt) (t : TS) : Prop :=
  ∀ (pins : List (Addr × Obj)) (s : Shared) (σ : St) (H : Hp) (D : Ends), Inv X pins σ H s → t D σ H → wpAny (model X.prog X.w) X.A (execs st X.env) (SP X pins D) X.xe s
/-- weaken the end -/
theorem thn {α : Type} {t : Sem α} {Q Q' : α → Shared → Prop} {M : Model} {A : Around} {E : Value → Shared → Prop} {s : Shared} (h : wpAny M A t Q E s) (hQ : ∀ a s, Q a s → Q' a s) : wpAny M A t Q' E s := wpAny_mono h hQ fun _ _ x => x
end L2

namespace L2
open PySem PySem.Spec PyProof.Rows
section
variable {X : Cx}

/-! ### names and constants -/
def tVar (i : Nat) : TE := fun σ H Q => ∃ v, σ[i]? = some (some v) ∧ Q v H
def tC (v : V) : TE := fun _ H Q => Q v H
theorem pe_var {i : Nat} {x : Str} {pos : Pos} (hN : X.N[i]? = some x) (hv : Vis X.env.scope x) (hd : (x == ("__debug__" : Str)) = false := by decide) (hcd : (x == ("__classdict__" : Str)) = false := by decide) : PE X (.Name x pos) (tVar i) := by
  intro pins s σ H Q I h
  obtain ⟨v, e, h⟩ := h
  obtain ⟨m, hn, hl⟩ := I.loc
  obtain ⟨u, r, l⟩ := hl i x v hN e hv
  have fin : EP X pins σ Q u s := ⟨v, H, I, r, h⟩
  rcases l with ⟨hk, hm⟩ | ⟨hk, c, hc, hcell⟩
  · exact wpAny_Name (wpAny_loadName_local I.ok.kind hk hn hm fin) hd
  · rcases hk with hk | hk
    · exact wpAny_Name (wpAny_loadName_cell I.ok.kind hk hc hcell fin) hd
    · exact wpAny_Name (wpAny_loadName_free I.ok.kind hk hc hcell fin hcd) hd
theorem pe_int {i j pos} : PE X (.Constant (.int i) j pos) (tC (.int i)) := fun _ _ _ H _ I h => wpAny_Constant_int ⟨.int i, H, I.tok _, ⟨_, rfl⟩, h⟩
theorem pe_bl {b j pos} : PE X (.Constant (.bool b) j pos) (tC (.bl b)) := fun _ _ _ H _ I h => Constant_bool ⟨.bl b, H, I, rfl, h⟩
theorem pe_non {j pos} : PE X (.Constant .none j pos) (tC .non) := fun _ _ _ H _ I h => Constant_none ⟨.non, H, I, rfl, h⟩
/-- a global name of the def -/
def Gl (X : Cx) (x : Str) : Prop := X.env.kindOf x = some .globalImplicit
theorem ld_glob {E : Value → Shared → Prop} {pins : List (Addr × Obj)} {s : Shared} {σ : St} {H : Hp} {x : Str} {u : Value} {pos : Pos} {Q : Value → Shared → Prop} (I : Inv X pins σ H s) (hg : Gl X x) (hm : X.mg x = some u) (h : Q u s)
    (hd : (x == ("__debug__" : Str)) = false := by decide) : wpAny (model X.prog X.w) X.A (eval (.Name x pos) X.env) Q E s :=
  Calls.Name_function_global I.ok.kind hg (Calls.loadGlobal_global (by rw [I.ok.glob]; exact I.mod.glob.keeps I.bk) hm h) hd
theorem ld_blt {E : Value → Shared → Prop} {pins : List (Addr × Obj)} {s : Shared} {σ : St} {H : Hp} {x : Str} {u : Value} {pos : Pos} {Q : Value → Shared → Prop} (I : Inv X pins σ H s) (hg : Gl X x) (hm : X.mg x = none) (hv : bootBuiltins x = some u) (h : Q u s)
    (hn : x ≠ "__name__" := by decide) (hd : (x == ("__debug__" : Str)) = false := by decide) : wpAny (model X.prog X.w) X.A (eval (.Name x pos) X.env) Q E s := by
  obtain ⟨mb, h1, h2⟩ := I.mod.blt
  exact Calls.Name_function_global I.ok.kind hg (Calls.loadGlobal_builtin (by rw [I.ok.glob]; exact I.mod.glob.keeps I.bk) hm (by rw [I.ok.blt]; exact h1.keeps I.bk) ((h2 x hn).trans hv) h) hd
theorem pe_bltn {x : Str} {v : V} {u : Value} {pos : Pos} (hg : Gl X x) (hm : X.mg x = none) (hv : bootBuiltins x = some u) (r : RelV v u) (hn : x ≠ "__name__" := by decide) (hd : (x == ("__debug__" : Str)) = false := by decide) : PE X (.Name x pos) (tC v) :=
  fun _ _ _ H _ I h => ld_blt I hg hm hv ⟨v, H, I, r, h⟩ hn hd

/-! ### arithmetic -/
variable {a b : Expr} {ta tb : TE} {pos : Pos}
/-! ### comparisons -/
/-- a comparison as a value, as a test -/
def tB (t : TE) : TT := fun σ H Q => t σ H fun x H1 => ∃ c, x = .bl c ∧ Q c H1
/-- an expression whose value is a bool, as a test -/
theorem pt_val {e : Expr} {t : TE} (h : PE X e t) (he : ∀ whole, isTrue e X.env whole = (do let v ← whole; standAt e.pos; holding [v] (truthy v)) := by intro _; rfl) : PT X e (tB t) := by
  intro pins s σ H Q I hw
  refine isTrue_plain (thn (h pins s σ H _ I hw) fun v s1 ⟨x, H1, I1, r1, q1⟩ => ?_) (he _)
  obtain ⟨d, rfl, q⟩ := q1
  cases r1
  exact wpAny_truthy_bool ⟨H1, I1, q⟩

/-! ### and, or, not -/
variable {tA tB' : TT} {rest : List Expr}
def tOr (t u : TT) : TT := fun σ H Q => t σ H fun c H1 => if c = true then Q true H1 else u σ H1 Q
def tNot (t : TT) : TT := fun σ H Q => t σ H fun c H1 => Q (!c) H1
theorem pw_or1 (ha : PT X a tA) : PW X (.BoolOp .Or [a] pos) tA := by
  intro wh pins s σ H Q I h
  refine isTrue_or (thn (ha pins s σ H Q I h) fun c s1 e => ?_)
  cases c with
  | false => exact isTrue_or_nil e
  | true => exact e
theorem pw_or (ha : PT X a tA) (hb : PW X (.BoolOp .Or (b :: rest) pos) tB') : PW X (.BoolOp .Or (a :: b :: rest) pos) (tOr tA tB') := by
  intro wh pins s σ H Q I h
  refine isTrue_or (thn (ha pins s σ H _ I h) fun c s1 ⟨H1, I1, q1⟩ => ?_)
  cases c with
  | true => exact ⟨H1, I1, q1⟩
  | false => exact hb wh pins s1 σ H1 Q I1 q1
theorem pt_not (ha : PT X a tA) : PT X (.UnaryOp .Not a pos) (tNot tA) := by
  intro pins s σ H Q I h
  exact isTrue_not (ha pins s σ H (fun c H1 => Q (!c) H1) I h)
/-- .. as values (bools) -/
def tAndV (ta tb : TE) : TE := fun σ H Q => ta σ H fun x H1 => ∃ c, x = .bl c ∧ if c = true then tb σ H1 Q else Q (.bl false) H1
def tNotV (ta : TE) : TE := fun σ H Q => ta σ H fun x H1 => ∃ c, x = .bl c ∧ Q (.bl (!c)) H1
theorem pe_one {op} {t : TE} (h : PE X a t) : PE X (.BoolOp op [a] pos) t := fun pins s σ H Q I hw => BoolOp_one (h pins s σ H Q I hw)
theorem pe_and (ha : PE X a ta) (hb : PE X (.BoolOp .And (b :: rest) pos) tb) : PE X (.BoolOp .And (a :: b :: rest) pos) (tAndV ta tb) := by
  intro pins s σ H Q I h
  refine BoolOp_and (thn (ha pins s σ H _ I h) fun v s1 ⟨x, H1, I1, r1, q1⟩ => ?_)
  obtain ⟨c, rfl, q1⟩ := q1
  cases r1
  refine wpAny_truthy_bool ?_
  cases c with
  | true => exact hb pins s1 σ H1 Q I1 q1
  | false => exact ⟨.bl false, H1, I1, rfl, q1⟩
theorem pe_not (ha : PE X a ta) : PE X (.UnaryOp .Not a pos) (tNotV ta) := by
  intro pins s σ H Q I h
  refine UnaryOp_ (thn (ha pins s σ H _ I h) fun v s1 ⟨x, H1, I1, r1, q1⟩ => ?_)
  obtain ⟨c, rfl, q1⟩ := q1
  cases r1
  exact not_of (wpAny_truthy_bool ⟨.bl (!c), H1, I1, rfl, q1⟩)
/-- a if t else b -/
def tIf (t : TT) (ta tb : TE) : TE := fun σ H Q => t σ H fun c H1 => if c = true then ta σ H1 Q else tb σ H1 Q
theorem pe_ifExp {c : Expr} (hc : PT X c tA) (ha : PE X a ta) (hb : PE X b tb) : PE X (.IfExp c a b pos) (tIf tA ta tb) := by
  intro pins s σ H Q I h
  refine wpAny_IfExp (thn (hc pins s σ H _ I h) fun d s1 ⟨H1, I1, q1⟩ => ?_)
  cases d with
  | true => exact ha pins s1 σ H1 Q I1 q1
  | false => exact hb pins s1 σ H1 Q I1 q1
end
end L2

namespace L2
open PySem PySem.Spec PyProof.Rows

/-! ### a list, a tuple that is read: tracked, frozen, or an object of the module -/
def SqL (K : PySem.W.Frag) (H : Hp) (a : Addr) (xs : List V) : Prop :=
  Rd H a (.lst xs) ∨
    ∃ (o : Obj) (its : Array Value) (n : Nat), K.lookup a = some o ∧ o.cls = .type "list" ∧ o.dict = none ∧ o.data = .seq its n ∧ its.size ≤ sizeLine ∧ Vals xs its.toList
def SqT (K : PySem.W.Frag) (H : Hp) (a : Addr) (xs : List V) : Prop :=
  Rd H a (.tup xs) ∨
    ∃ (o : Obj) (its : Array Value) (n : Nat), K.lookup a = some o ∧ o.cls = .type "tuple" ∧ o.data = .seq its n ∧ its.size ≤ sizeLine ∧ Vals xs its.toList
def absV : Value → Option V
  | .none => some .non
  | .bool b => some (.bl b)
  | .int i _ => some (.int i)
  | .str x _ => some (.str x)
  | .bytes b _ => some (.byt b)
  | .float b _ => some (.flt b)
  | .ref a => some (.ref a)
  | .type n => some (.ty n)
  | _ => none
theorem RelV.abs {x : V} {u : Value} (r : RelV x u) : absV u = some x := by
  cases x with
  | non => cases r; rfl
  | bl _ => cases r; rfl
  | int _ => obtain ⟨t, rfl⟩ := r; rfl
  | str _ => obtain ⟨t, rfl⟩ := r; rfl
  | byt _ => obtain ⟨t, rfl⟩ := r; rfl
  | flt _ => obtain ⟨t, rfl⟩ := r; rfl
  | ref _ => cases r; rfl
  | ty _ => cases r; rfl
theorem RelV.inj {x y : V} {u : Value} (r : RelV x u) (q : RelV y u) : x = y := Option.some.inj (r.abs.symm.trans q.abs)
theorem Vals.inj : ∀ {xs ys : List V} {us : List Value}, Vals xs us → Vals ys us → xs = ys
  | _, _, _, .nil, .nil => rfl
  | _, _, _, .cons r t, .cons r' t' => by rw [r.inj r', Vals.inj t t']
section
variable {X : Cx} {pins : List (Addr × Obj)} {σ : St} {H : Hp} {s : Shared} {a : Addr} {xs ys : List V}
theorem SqL.of {K : PySem.W.Frag} (h : H a = some (.lst xs)) : SqL K H a xs := .inl (.inl h)
theorem SqT.of {K : PySem.W.Frag} (h : H a = some (.tup xs)) : SqT K H a xs := .inl (.inl h)
theorem Inv.list (I : Inv X pins σ H s) (h : SqL X.K H a xs) : ∃ its : List Value, Vals xs its ∧ PlainL s.heap a its.toArray ∧ xs.length ≤ sizeLine := by
  rcases h with h | ⟨o, its, n, hk, hc, hd, hs, hz, r⟩
  · obtain ⟨z, its, n, r, e⟩ := h.ok I.hok
    exact ⟨its, r, ⟨_, n, e, rfl, rfl, rfl⟩, z⟩
  · refine ⟨its.toList, r, ⟨o, n, I.kIn a o hk, hc, hd, by simpa using hs⟩, ?_⟩
    have e := r.length
    simp only [Array.length_toList] at e
    omega
theorem Inv.tuple (I : Inv X pins σ H s) (h : SqT X.K H a xs) : ∃ its : List Value, Vals xs its ∧ IsTup s.heap a its.toArray ∧ xs.length ≤ sizeLine := by
  rcases h with h | ⟨o, its, n, hk, hc, hs, hz, r⟩
  · obtain ⟨z, its, r, p⟩ := h.ok I.hok
    exact ⟨its, r, p, z⟩
  · refine ⟨its.toList, r, ⟨o, I.kIn a o hk, hc, n, by simpa using hs⟩, ?_⟩
    have e := r.length
    simp only [Array.length_toList] at e
    omega
theorem Inv.list_inj (I : Inv X pins σ H s) (h : SqL X.K H a xs) (h' : SqL X.K H a ys) : xs = ys := by
  obtain ⟨its, r, ⟨o, n, e, _, _, d⟩, _⟩ := I.list h
  obtain ⟨its', r', ⟨o', n', e', _, _, d'⟩, _⟩ := I.list h'
  rw [e] at e'; cases e'
  rw [d] at d'
  injection d' with d1 _
  have : its = its' := by simpa using congrArg Array.toList d1
  subst this
  exact r.inj r'
end

/-! ### another wish about exceptions -/
abbrev Cx.wish (X : Cx) (E : Value → Shared → Prop) : Cx := { X with xe := E }
/-- no exception leaves -/
abbrev Cx.nox (X : Cx) : Cx := X.wish fun _ _ => False
theorem Cx.Ok.wish {X : Cx} (ok : X.Ok) (E : Value → Shared → Prop) : (X.wish E).Ok :=
  ⟨ok.mod, ok.kind, ok.glob, ok.blt, ok.above, ok.inj, ok.has, ok.cab, ok.hd, ok.frames, ok.stk, ok.exf, ok.bs, ok.bsz, ok.noex, ok.exfs, ok.funs, ok.frf⟩
theorem Cx.Ok.unwish {X : Cx} {E : Value → Shared → Prop} (ok : (X.wish E).Ok) : X.Ok :=
  ⟨ok.mod, ok.kind, ok.glob, ok.blt, ok.above, ok.inj, ok.has, ok.cab, ok.hd, ok.frames, ok.stk, ok.exf, ok.bs, ok.bsz, ok.noex, ok.exfs, ok.funs, ok.frf⟩
section
variable {X : Cx} {pins : List (Addr × Obj)} {σ : St} {H : Hp} {s : Shared} {E : Value → Shared → Prop}
theorem Inv.wish (I : Inv X pins σ H s) (E : Value → Shared → Prop) : Inv (X.wish E) pins σ H s := ⟨I.ok.wish E, I.os, I.bare, I.base, I.loc, I.cell, I.free, I.freeC, I.pin, I.hok, I.len⟩
theorem Inv.unwish (I : Inv (X.wish E) pins σ H s) : Inv X pins σ H s := ⟨I.ok.unwish, I.os, I.bare, I.base, I.loc, I.cell, I.free, I.freeC, I.pin, I.hok, I.len⟩
theorem SP.unwish {D : Ends} {f : Flow} {s' : Shared} (h : SP (X.wish E) pins D f s') : SP X pins D f s' := by
  cases f with
  | next => obtain ⟨σ', H', I, q⟩ := h; exact ⟨σ', H', I.unwish, q⟩
  | brk => obtain ⟨σ', H', I, q⟩ := h; exact ⟨σ', H', I.unwish, q⟩
  | cont => obtain ⟨σ', H', I, q⟩ := h; exact ⟨σ', H', I.unwish, q⟩
  | ret u => obtain ⟨v, σ', H', I, r, q⟩ := h; exact ⟨v, σ', H', I.unwish, r, q⟩
theorem PE.nox {e : Expr} {t : TE} (h : PE X.nox e t) : PE X e t := fun pins s σ H Q I hw =>
  wpAny_mono (h pins s σ H Q (I.wish _) hw) (fun _ _ ⟨v, H', I', r, q⟩ => ⟨v, H', I'.unwish, r, q⟩) fun _ _ z => False.elim z
theorem PT.nox {e : Expr} {t : TT} (h : PT X.nox e t) : PT X e t := fun pins s σ H Q I hw =>
  wpAny_mono (h pins s σ H Q (I.wish _) hw) (fun _ _ ⟨H', I', q⟩ => ⟨H', I'.unwish, q⟩) fun _ _ z => False.elim z
theorem PSs.nox {st : List Stmt} {t : TS} (h : PSs X.nox st t) : PSs X st t := fun pins s σ H D I hw =>
  wpAny_mono (h pins s σ H D (I.wish _) hw) (fun _ _ q => q.unwish) fun _ _ z => False.elim z
end

/-! ### blocks and small statements -/
section
variable {X : Cx} {st : Stmt} {rest : List Stmt} {t u : TS} {e : Expr} {te : TE} {pos : Pos}
def tNext : TS := fun D σ H => D.nx σ H
def tSeq (t u : TS) : TS := fun D σ H => t { D with nx := u D } σ H
theorem pss_nil : PSs X [] tNext := fun _ _ σ H _ I h => wpAny_execs_nil ⟨σ, H, I, h⟩
theorem pss_cons (h1 : PS X st t) (h2 : PSs X rest u) : PSs X (st :: rest) (tSeq t u) := by
  intro pins s σ H D I h
  refine wpAny_execs_cons (thn (h1 pins s σ H { D with nx := u D } I h) fun f s1 q => ?_)
  cases f with
  | next =>
    obtain ⟨σ', H', I', q⟩ := q
    exact h2 pins s1 σ' H' D I' q
  | ret v => exact q
  | brk => exact q
  | cont => exact q
theorem pss_one (h1 : PS X st t) : PSs X [st] t := by
  intro pins s σ H D I h
  refine wpAny_execs_cons (thn (h1 pins s σ H D I h) fun f s1 q => ?_)
  cases f with
  | next => exact wpAny_execs_nil q
  | ret v => exact q
  | brk => exact q
  | cont => exact q
/-- in a def's body nothing is shown -/
theorem Inv.quiet {pins : List (Addr × Obj)} {σ : St} {H : Hp} {s : Shared} (I : Inv X pins σ H s) : interactive X.env = false := by simp [interactive, I.ok.kind]
/-- an expression whose value is dropped -/
def tDrop (te : TE) : TS := fun D σ H => te σ H fun _ H1 => D.nx σ H1
theorem ps_expr (he : PE X e te) (hs : swapsWith e none pos.line X.env = pure false := by rfl) : PS X (.Expr e pos) (tDrop te) := by
  intro pins s σ H D I h
  exact wpAny_Expr_any (thn (he pins s σ H _ I h) fun v s1 ⟨x, H1, I1, r1, q1⟩ => ⟨σ, H1, I1, q1⟩) I.quiet hs
def tRet (te : TE) : TS := fun D σ H => te σ H D.rt
theorem ps_ret (he : PE X e te) : PS X (.Return (some e) pos) (tRet te) := by
  intro pins s σ H D I h
  exact wpAny_Return_some (thn (he pins s σ H _ I h) fun v s1 ⟨x, H1, I1, r1, q1⟩ => ⟨x, σ, H1, I1, r1, q1⟩)
def tIfS (c : TT) (t u : TS) : TS := fun D σ H => c σ H fun b H1 => if b = true then t D σ H1 else u D σ H1
theorem ps_if {c : Expr} {a b : List Stmt} {tc : TT} (hc : PT X c tc) (ha : PSs X a t) (hb : PSs X b u) : PS X (.If c a b pos) (tIfS tc t u) := by
  intro pins s σ H D I h
  refine wpAny_If (thn (hc pins s σ H _ I h) fun d s1 ⟨H1, I1, q1⟩ => ?_)
  cases d with
  | true => exact ha pins s1 σ H1 D I1 q1
  | false => exact hb pins s1 σ H1 D I1 q1
/-- code that the proof never comes to -/
def tNever : TS := fun _ _ _ => False
theorem ps_never : PS X st tNever := fun _ _ _ _ _ _ h => h.elim
end

/-! ### targets -/
abbrev TG := V → St → Hp → (St → Hp → Prop) → Prop
abbrev TGs := List V → St → Hp → (St → Hp → Prop) → Prop
def PG (X : Cx) (target : Expr) (t : TG) : Prop :=
  ∀ (pins : List (Addr × Obj)) (s : Shared) (σ : St) (H : Hp) (v : V) (u : Value) (Q : St → Hp → Prop), Inv X pins σ H s → RelV v u → t v σ H Q →
    wpAny (model X.prog X.w) X.A (assign target X.env u) (fun _ s' => ∃ σ' H', Inv X pins σ' H' s' ∧ Q σ' H') X.xe s
/-- several targets, one after another -/
def PGs (X : Cx) (ts : List Expr) (t : TGs) : Prop :=
  ∀ (pins : List (Addr × Obj)) (s : Shared) (σ : St) (H : Hp) (vs : List V) (us : List Value) (Q : St → Hp → Prop), Inv X pins σ H s → Vals vs us → t vs σ H Q →
    wpAny (model X.prog X.w) X.A (assignInOrder ((assignEach ts X.env).map (·.2)) us) (fun _ s' => ∃ σ' H', Inv X pins σ' H' s' ∧ Q σ' H') X.xe s
/-- o[i] = v, by values -/
abbrev TSet := V → V → V → Hp → (Hp → Prop) → Prop
def PSet (X : Cx) (t : TSet) : Prop :=
  ∀ (pins : List (Addr × Obj)) (s : Shared) (σ : St) (H : Hp) (o i v : V) (ov iv u : Value) (Q : Hp → Prop), Inv X pins σ H s → RelV o ov → RelV i iv → RelV v u → t o i v H Q →
    wpAny (model X.prog X.w) X.A (setItem ov iv u) (fun _ s' => ∃ H', Inv X pins σ H' s' ∧ Q H') X.xe s
section
variable {X : Cx} {pos : Pos}
def gName (i : Nat) : TG := fun v σ H Q => Q (σ.set i (some v)) H
theorem pg_name {i : Nat} {x : Str} (hN : X.N.Nodup) (hi : X.N[i]? = some x) (hx : Loc X.env.scope x) (hf : X.fn x = true ∨ X.env.scope.names.lookup x = some .local := by first | exact .inl rfl | exact .inr rfl | assumption) : PG X (.Name x pos) (gName i) := by
  intro pins s σ H v u Q I r h
  exact wpAny_assign_Name (store_ok I hN hi hx r (fun s' I' => ⟨_, H, I', h⟩) hf)
def gNil : TGs := fun vs σ H Q => vs = [] ∧ Q σ H
def gCons (t : TG) (u : TGs) : TGs := fun vs σ H Q => ∃ v r, vs = v :: r ∧ t v σ H fun σ' H' => u r σ' H' Q
theorem pgs_nil : PGs X [] gNil := by
  intro pins s σ H vs us Q I r h
  obtain ⟨e, h⟩ := h
  subst e
  cases r
  exact assignInOrder_nil ⟨σ, H, I, h⟩
theorem pgs_cons {e : Expr} {es : List Expr} {t : TG} {u : TGs} (h1 : PG X e t) (h2 : PGs X es u)
    (hs : (assignEach (e :: es) X.env).map (·.2) = assign e X.env :: (assignEach es X.env).map (·.2) := by rfl) : PGs X (e :: es) (gCons t u) := by
  intro pins s σ H vs us Q I r h
  obtain ⟨v, vr, e1, h⟩ := h
  subst e1
  cases r with
  | cons r rr =>
    rw [hs]
    refine assignInOrder_cons (thn (h1 pins s σ H _ _ _ I r h) fun _ s1 ⟨σ1, H1, I1, q1⟩ => ?_)
    exact h2 pins s1 σ1 H1 _ _ Q I1 rr q1
/-- (a, b, ..) = a tuple of that length -/
def gTup (K : PySem.W.Frag) (n : Nat) (t : TGs) : TG := fun v σ H Q => ∃ a xs, v = .ref a ∧ SqT K H a xs ∧ xs.length = n ∧ t xs σ H Q
theorem pg_tup {es : List Expr} {k : Nat} {t : TGs} {n : Nat} (hc : X.calm = true) (h : PGs X es t)
    (hn : (assignEach es X.env).length = n := by rfl) (hst : (assignEach es X.env).findIdx? (·.1) = none := by rfl) : PG X (.Tuple es k pos) (gTup X.K n t) := by
  intro pins s σ H v u Q I r hw
  obtain ⟨a, xs, e1, hq, hl, hw⟩ := hw
  subst e1
  cases r
  obtain ⟨its, rv, ht, hz⟩ := I.tuple hq
  refine assign_Tuple_tuple (I.ok.hd hc) ht (by simp [hn, ← hl, rv.length]) hst fun h' hx => ?_
  have I1 : Inv X pins σ H { s with heap := h' } := I.kept (t' := s.toks) fun b o e => hx b o (Nat.ne_of_lt (Heap.lt_size e)) e
  exact h pins _ σ H xs _ Q I1 (by simpa using rv) hw
/-- o[i] = .. -/
def gSub (to ti : TE) (t : TSet) : TG := fun v σ H Q => to σ H fun o H1 => ti σ H1 fun i H2 => t o i v H2 fun H3 => Q σ H3
theorem pg_sub {o i : Expr} {to ti : TE} {t : TSet} (ho : PE X o to) (hi : PE X i ti) (hs : PSet X t)
    (ha : ∀ v, assign (.Subscript o i pos) X.env v = (do
      let ov ← holding [v] (eval o X.env)
      let iv ← holding [v, ov] (eval i X.env)
      standAt pos
      holding [v, ov, iv] (setItem ov iv v)
      release [v, ov, iv] []) := by intro _; rfl) : PG X (.Subscript o i pos) (gSub to ti t) := by
  intro pins s σ H v u Q I r h
  rw [ha]
  refine wpAny_bind (wpAny_holding (thn (ho pins s σ H _ I h) fun ov s1 ⟨x, H1, I1, r1, q1⟩ => ?_))
  refine wpAny_bind (wpAny_holding (thn (hi pins s1 σ H1 _ I1 q1) fun iv s2 ⟨y, H2, I2, r2, q2⟩ => ?_))
  refine wpAny_bind (wpAny_standAt (wpAny_bind (wpAny_holding (thn (hs pins s2 σ H2 x y v ov iv u _ I2 r1 r2 r q2) fun _ s3 ⟨H3, I3, q3⟩ => ?_))))
  exact wpAny_release ⟨σ, H3, I3, q3⟩
/-- target = value -/
def tAsg (te : TE) (g : TG) : TS := fun D σ H => te σ H fun x H1 => g x σ H1 D.nx
theorem ps_asg {tg e : Expr} {te : TE} {g : TG} (he : PE X e te) (hg : PG X tg g) (hs : swapsWithSole [tg] e pos.line X.env = pure false := by rfl) (hw : swappedStores [tg] e X.env = pure none := by rfl)
    (h1 : (assignEach [tg] X.env).map (·.2) = [assign tg X.env] := by rfl) : PS X (.Assign [tg] e pos) (tAsg te g) := by
  intro pins s σ H D I h
  refine wpAny_Assign_stores (thn (he pins s σ H _ I h) fun v s1 ⟨x, H1, I1, r1, q1⟩ => ?_) hs hw
  rw [h1]
  exact thn (hg pins s1 σ H1 x v _ I1 r1 q1) fun _ s2 q => q
/-- name = value -/
theorem ps_set {i : Nat} {x : Str} {e : Expr} {te : TE} {pos' : Pos} (hN : X.N.Nodup) (hi : X.N[i]? = some x) (hx : Loc X.env.scope x) (he : PE X e te) (hs : swapsWith e (some (.Name x pos')) pos.line X.env = pure false := by rfl) (hf : X.fn x = true ∨ X.env.scope.names.lookup x = some .local := by first | exact .inl rfl | exact .inr rfl | assumption) :
    PS X (.Assign [.Name x pos'] e pos) (tAsg te (gName i)) := by
  intro pins s σ H D I h
  refine wpAny_Assign_Name (thn (he pins s σ H _ I h) fun v s1 ⟨y, H1, I1, r1, q1⟩ => ?_) hs
  exact store_ok I1 hN hi hx r1 (fun s2 I2 => ⟨_, H1, I2, q1⟩) hf
end

/-! ### while -/
section
variable {X : Cx} {pos : Pos}
/-- the invariant W with its measure -/
def tWhile (c : TT) (tb : TS) : TS := fun D σ H => ∃ W : Nat → St → Hp → Prop, (∃ m, W m σ H) ∧ ∀ m σ H, W m σ H →
  c σ H fun b H1 => if b = true then ∃ N : St → Hp → Prop, (∀ σ' H', N σ' H' → ∃ m', m' < m ∧ W m' σ' H') ∧ tb { D with nx := N, ct := N, bk := D.nx } σ H1 else D.nx σ H1
theorem ps_while {c : Expr} {body : List Stmt} {tc : TT} {tb : TS} (hp : PassesOwn (model X.prog X.w) X.A X.env X.xe) (hc : PT X c tc) (hb : PSs X body tb) : PS X (.While c body [] pos) (tWhile tc tb) := by
  intro pins s σ H D I h
  obtain ⟨W, ⟨m0, w0⟩, turn⟩ := h
  refine wpAny_While (codeAny_whileLoop (fun n s' => ∃ σ' H', Inv X pins σ' H' s' ∧ W n σ' H') ?_ m0 ⟨σ, H, I, w0⟩)
  rintro n s1 ⟨σ1, H1, I1, w1⟩
  refine wpAny_passesOwn hp (thn (hc pins s1 σ1 H1 _ I1 (turn n σ1 H1 w1)) fun b s2 ⟨H2, I2, q2⟩ => ?_)
  cases b with
  | true =>
    obtain ⟨N, hN, q2⟩ := q2
    rw [if_pos rfl]
    refine wpAny_passesOwn hp (thn (hb pins s2 σ1 H2 _ I2 q2) fun f s3 q3 => ?_)
    cases f with
    | next =>
      obtain ⟨σ3, H3, I3, n3⟩ := q3
      obtain ⟨m', hm, w3⟩ := hN σ3 H3 n3
      exact ⟨m', hm, σ3, H3, I3, w3⟩
    | cont =>
      obtain ⟨σ3, H3, I3, n3⟩ := q3
      obtain ⟨m', hm, w3⟩ := hN σ3 H3 n3
      exact ⟨m', hm, σ3, H3, I3, w3⟩
    | brk => exact q3
    | ret v => exact q3
  | false =>
    rw [if_neg Bool.false_ne_true]
    exact wpAny_execs_nil ⟨σ1, H2, I2, q2⟩
end

/-! ### what a loop or a comprehension walks -/
/-- at turn i: it yields x (the heap may grow), or it stops -/
structure It where
  go : Nat → Hp → Prop
  yld : Nat → Hp → V → Hp → Prop
  stop : Nat → Hp → Prop
/-- the iterator's own objects may turn: they are not the frame's, not pinned, younger than the entry (or a comprehension's own) -/
def FpOk (X : Cx) (pins : List (Addr × Obj)) (H : Hp) (b : Addr) : Prop :=
  H b = none ∧ b ≠ X.env.locals ∧ b ∉ X.fs ∧ (b ∈ X.ex ∨ X.s₀.heap.objs.size ≤ b) ∧ (∀ x c, X.env.cells.lookup x = some c → c ≠ b) ∧ ∀ p ∈ X.pn ++ pins, p.1 ≠ b
theorem Inv.fpOk {X : Cx} {pins : List (Addr × Obj)} {σ : St} {H H' : Hp} {s : Shared} {b : Addr} (I : Inv X pins σ H s) (hb : s.heap.objs.size ≤ b) (hn : H' b = none) : FpOk X pins H' b := by
  refine ⟨hn, Nat.ne_of_gt (Nat.lt_of_lt_of_le I.lt hb), I.nofs hb, .inr (Nat.le_trans I.sz hb), fun x c e z => ?_, fun p hp z => ?_⟩
  · obtain ⟨v, q⟩ := I.cell x c e
    exact absurd (Nat.lt_of_lt_of_le q.lt (by rw [z]; exact hb)) (Nat.lt_irrefl _)
  · exact absurd (Nat.lt_of_lt_of_le (Heap.lt_size (I.pin p hp).1) (by rw [z]; exact hb)) (Nat.lt_irrefl _)
structure Turn (P : Program) (w : World) (K : PySem.W.Frag) (tg : Expr) (J : It) (fp : List Addr) (it : Addr) (tn : Nat → Heap → Prop) : Prop where
  mem : it ∈ fp
  obj : ∀ i h, tn i h → ∀ b ∈ fp, ∃ o, h.get? b = some o ∧ ∀ v, o.data ≠ .cell v
  keep : ∀ i h h', tn i h → (∀ b ∈ fp, ∀ o, h.get? b = some o → h'.get? b = some o) → tn i h'
  item : ∀ (X : Cx), X.prog = P → X.w = w → X.K = K → X.calm = true → ∀ (i : Nat) (pins : List (Addr × Obj)) (s : Shared) (σ : St) (H : Hp) (E : Value → Shared → Prop), Inv X pins σ H s → (∀ b ∈ fp, FpOk X pins H b) → tn i s.heap → J.go i H →
    wpAny (model P w) X.A (pyNext (.ref it)) (fun r s1 => ∃ u, r = some u ∧
      wpAny (model P w) X.A (letOwnedTupleGo tg (.ref it) u) (fun _ s2 => ∃ x H', Inv X pins σ H' s2 ∧ RelV x u ∧ J.yld i H x H' ∧ tn (i + 1) s2.heap ∧ ∀ b ∈ fp, H' b = none) E s1) E s
  done : ∀ (X : Cx), X.prog = P → X.w = w → X.K = K → X.calm = true → ∀ (i : Nat) (pins : List (Addr × Obj)) (s : Shared) (σ : St) (H : Hp) (E : Value → Shared → Prop), Inv X pins σ H s → (∀ b ∈ fp, FpOk X pins H b) → tn i s.heap → J.stop i H →
    wpAny (model P w) X.A (pyNext (.ref it)) (fun r s1 => r = none ∧ Inv X pins σ H s1) E s
  self : ∀ (A : Around) (i : Nat) (s : Shared) (Q : Value → Shared → Prop) (E : Value → Shared → Prop), tn i s.heap → Q (.ref it) s → wpAny (model P w) A (pyIter (.ref it)) Q E s
abbrev TI := St → Hp → (It → Hp → Prop) → Prop
/-- an iterator has come -/
def PIE (X : Cx) (pins : List (Addr × Obj)) (σ : St) (tg : Expr) (R : It → Hp → Prop) (itv : Value) (s2 : Shared) : Prop :=
  ∃ (it : Addr) (fp : List Addr) (tn : Nat → Heap → Prop) (J : It) (H' : Hp), itv = .ref it ∧ Inv X pins σ H' s2 ∧ Turn X.prog X.w X.K tg J fp it tn ∧ tn 0 s2.heap ∧ (∀ b ∈ fp, FpOk X pins H' b) ∧ R J H'
def PI (X : Cx) (tg iter : Expr) (wi : TI) : Prop :=
  ∀ (pins : List (Addr × Obj)) (s : Shared) (σ : St) (H : Hp) (R : It → Hp → Prop), Inv X pins σ H s → wi σ H R →
    wpAny (model X.prog X.w) X.A (eval iter X.env) (fun v s1 => wpAny (model X.prog X.w) X.A (pyIter v) (PIE X pins σ tg R) X.xe s1) X.xe s

/-- the step ahead of the store is nothing for an iterator that keeps no tuple -/
theorem go_of {M : Model} {A : Around} {E : Value → Shared → Prop} {s : Shared} {tg : Expr} {it : Addr} {u : Value} {o : Obj} {n : String} {vs : Array Value} {Q : Unit → Shared → Prop} (ho : s.heap.get? it = some o) (hc : o.cls = .type n) (hd : o.data = .fields vs)
    (hn : ["enumerate", "zip", "dict_itemiterator", "dict_reverseitemiterator", "odict_iterator", "itertools.zip_longest", "itertools.pairwise"].contains n = false) (hQ : Q () s) : wpAny M A (letOwnedTupleGo tg (.ref it) u) Q E s := by
  unfold letOwnedTupleGo
  cases tg <;> first
    | exact wpAny_pure hQ
    | (cases u <;> first
        | exact wpAny_pure hQ
        | (refine wpAny_bind (wpAny_load ho ?_)
           rw [hc, hd]
           show wpAny M A (if (["enumerate", "zip", "dict_itemiterator", "dict_reverseitemiterator", "odict_iterator", "itertools.zip_longest", "itertools.pairwise"].contains n && vs[0]? == some (rawInt _)) = true then _ else _) Q E s
           rw [if_neg (by intro h; rw [hn, Bool.false_and] at h; cases h)]
           exact wpAny_pure hQ))

/-- the list at a, as it stands at each turn (a loop may append to it) -/
def Itl (K : PySem.W.Frag) (a : Addr) : It :=
  ⟨fun i H => ∃ xs x, SqL K H a xs ∧ xs[i]? = some x, fun i H x H' => H' = H ∧ ∀ xs, SqL K H a xs → xs[i]? = some x, fun i H => ∃ xs, SqL K H a xs ∧ xs.length ≤ i⟩
/-- lo, lo + 1, .. (n of them) -/
def Itr (lo : Int) (n : Nat) : It := ⟨fun i _ => i < n, fun i H x H' => H' = H ∧ x = .int (lo + i), fun i _ => n ≤ i⟩
theorem turn_list {P : Program} {w : World} {K : PySem.W.Frag} {tg : Expr} (a it : Addr) : Turn P w K tg (Itl K a) [it] it (fun i h => h.IsListIter it a i) where
  mem := by simp
  obj := fun i h st b hb => by
    have e : b = it := by simpa using hb
    subst e
    obtain ⟨o, e, c, d⟩ := st
    exact ⟨o, e, fun v z => by rw [d] at z; cases z⟩
  keep := fun i h h' st k => st.at fun o e => k it (by simp) o e
  item := by
    intro X hP hw hK hc i pins s σ H E I hf st hg
    subst hP hw hK
    obtain ⟨xs, x, hq, hx⟩ := hg
    obtain ⟨its, rv, p, hz⟩ := I.list hq
    obtain ⟨u, hu, ru⟩ := rv.get hx
    obtain ⟨f0, f1, f2, f3, f4, f5⟩ := hf it (by simp)
    refine wpAny_pyNext_list_item st p.isList (x := u) (by simpa using hu) fun h' st' sb => ?_
    have I1 : Inv X pins σ H { s with heap := h' } := I.turned (t' := s.toks) (fun b o hb e => (sb.2 b hb).trans e) f0 f1 f3 f4 f5
    obtain ⟨o, e, c, d⟩ := id st'
    exact ⟨u, rfl, go_of (s := { s with heap := h' }) e c d (by decide) ⟨x, H, I1, ru, ⟨rfl, fun ys hy => by rw [I.list_inj hy hq]; exact hx⟩, st', fun b hb => (hf b hb).1⟩⟩
  done := by
    intro X hP hw hK hc i pins s σ H E I hf st hg
    subst hP hw hK
    obtain ⟨xs, hq, hx⟩ := hg
    obtain ⟨its, rv, p, hz⟩ := I.list hq
    obtain ⟨f0, f1, f2, f3, f4, f5⟩ := hf it (by simp)
    have hl := rv.length
    exact wpAny_pyNext_list_end (I.ok.hd hc) st p.isList (by simp; omega) fun h' eb => ⟨rfl, I.turned (t' := s.toks) (fun b o hb e => eb b o hb e) f0 f1 f3 f4 f5⟩
  self := fun _ _ _ _ _ st h => wpAny_pyIter_listiter st h
theorem turn_range {P : Program} {w : World} {K : PySem.W.Frag} {tg : Expr} (it : Addr) (lo : Int) (n : Nat) : Turn P w K tg (Itr lo n) [it] it (fun i h => IsRangeIter h it (lo + (i : Nat) * 1) ((n : Int) - (i : Nat)) 1) where
  mem := by simp
  obj := fun i h st b hb => by
    have e : b = it := by simpa using hb
    subst e
    exact ⟨_, st, fun v z => by
      have z' : Data.fields _ = Data.cell v := z
      cases z'⟩
  keep := fun i h h' st k => k it (by simp) _ st
  item := by
    intro X hP hw hK hc i pins s σ H E I hf st hg
    subst hP hw hK
    obtain ⟨f0, f1, f2, f3, f4, f5⟩ := hf it (by simp)
    have W := Walks.range (prog := X.prog) (w := X.w) (I.ok.hd hc) it lo 1 n
    refine W.item i s _ _ hg st fun v h' tk hv st' kk => ?_
    obtain ⟨t, rfl⟩ := hv
    have I1 : Inv X pins σ H { s with heap := h', toks := tk } := I.turned (fun b o hb e => kk b o (by simpa using hb) e) f0 f1 f3 f4 f5
    refine ⟨_, rfl, go_of (s := { s with heap := h', toks := tk }) (n := "range_iterator") st' rfl rfl (by decide) ⟨.int (lo + i), H, I1, ⟨t, ?_⟩, ⟨rfl, rfl⟩, st', fun b hb => (hf b hb).1⟩⟩
    rw [Int.mul_one]
  done := by
    intro X hP hw hK hc i pins s σ H E I hf st hg
    subst hP hw hK
    obtain ⟨f0, f1, f2, f3, f4, f5⟩ := hf it (by simp)
    exact wpAny_pyNext_range_end (I.ok.hd hc) st (by have : n ≤ i := hg; omega) fun h' eb => ⟨rfl, I.turned (t' := s.toks) (fun b o hb e => eb b o hb e) f0 f1 f3 f4 f5⟩
  self := fun _ _ _ _ _ st h => wpAny_pyIter_rangeiter st h
end L2

namespace L2
open PySem PySem.Spec PyProof.Rows
section
variable {X : Cx} {tg : Expr}
def iList (K : PySem.W.Frag) (tl : TE) : TI := fun σ H R => tl σ H fun x H1 => ∃ a, x = .ref a ∧ (∃ xs, SqL K H1 a xs) ∧ R (Itl K a) H1
theorem pi_list {l : Expr} {tl : TE} (hl : PE X l tl) : PI X tg l (iList X.K tl) := by
  intro pins s σ H R I h
  refine thn (hl pins s σ H _ I h) fun v s1 ⟨x, H1, I1, r1, q1⟩ => ?_
  obtain ⟨a, e, ⟨xs, hq⟩, q⟩ := q1
  subst e
  cases r1
  obtain ⟨its, rv, p, hz⟩ := I1.list hq
  refine wpAny_pyIter_list p.isList ?_
  refine ⟨s1.heap.objs.size, [s1.heap.objs.size], _, _, H1, rfl, I1.kept (t' := s1.toks) fun b o e => Heap.get?_push_of_some _ e, turn_list a _, ⟨_, Heap.get?_push_size _ rfl, rfl, rfl⟩, fun b hb => ?_, q⟩
  have e : b = s1.heap.objs.size := by simpa using hb
  subst e
  exact I1.fpOk (Nat.le_refl _) (I1.hok.fresh (Nat.le_refl _))
/-- a range object just made, walked -/
theorem range_it {pins : List (Addr × Obj)} {σ : St} {H : Hp} {s : Shared} {R : It → Hp → Prop} {E : Value → Shared → Prop} {lo hi : Int} {t u v : Tok} {tk : Nat} (I : Inv X pins σ H s) (h1 : -(2 ^ 62) ≤ lo) (h2 : lo < 2 ^ 62) (h3 : -(2 ^ 62) ≤ hi) (h4 : hi < 2 ^ 62)
    (q : R (Itr lo (hi - lo).toNat) H) : wpAny (model X.prog X.w) X.A (pyIter (.ref s.heap.objs.size)) (PIE X pins σ tg R) E { s with heap := s.heap.push { cls := .type "range", data := .fields #[.int lo t, .int hi u, .int 1 v] }, toks := tk } := by
  refine wpAny_pyIter_range (IsRange.new ..) (small_one h1 h2 h3 h4) ?_
  have I1 : Inv X pins σ H { s with heap := s.heap.push { cls := .type "range", data := .fields #[.int lo t, .int hi u, .int 1 v] }, toks := tk } := I.kept fun b o e => Heap.get?_push_of_some _ e
  refine ⟨(s.heap.push { cls := .type "range", data := .fields #[.int lo t, .int hi u, .int 1 v] }).objs.size, [(s.heap.push { cls := .type "range", data := .fields #[.int lo t, .int hi u, .int 1 v] }).objs.size], _, _, H, rfl,
    I1.kept (t' := tk) fun b o e => Heap.get?_push_of_some _ e, turn_range _ lo (hi - lo).toNat, ?_, fun b hb => ?_, q⟩
  · have e1 : lo + ((0 : Nat) : Int) * 1 = lo := by simp
    have e2 : (((hi - lo).toNat : Nat) : Int) - ((0 : Nat) : Int) = Builtin.Range.rangeSize lo hi 1 := by rw [rangeSize_one]; split <;> omega
    show IsRangeIter _ _ (lo + ((0 : Nat) : Int) * 1) ((((hi - lo).toNat : Nat) : Int) - ((0 : Nat) : Int)) 1
    rw [e1, e2]
    exact Heap.get?_push_size _ rfl
  · have e : b = (s.heap.push { cls := .type "range", data := .fields #[.int lo t, .int hi u, .int 1 v] }).objs.size := by simpa using hb
    subst e
    exact I1.fpOk (Nat.le_refl _) (I1.hok.fresh (Nat.le_refl _))
def iRng1 (ta : TA) : TI := fun σ H R => ta σ H fun vs H1 => ∃ j : Int, vs = [.int j] ∧ -(2 ^ 62) ≤ j ∧ j < 2 ^ 62 ∧ R (Itr 0 j.toNat) H1
theorem pi_range1 {a : Expr} {ta : TA} {p pos : Pos} (hg : Gl X "range") (hm : X.mg "range" = none) (ha : PA X [a] ta) (hs : starEach [a] X.env = [(false, eval a X.env)] := by rfl) : PI X tg (.Call (.Name "range" p) [a] [] pos) (iRng1 ta) := by
  intro pins s σ H R I h
  refine Call_ (ld_blt I hg hm boot_range (PyProof.Rows.callWith_type1 (thn (ha pos pins s σ H _ I h) fun us s1 ⟨vs, H1, I1, r1, q1⟩ => ?_) hs rfl))
  obtain ⟨j, e, q1, q2, q⟩ := q1
  subst e
  cases r1 with
  | cons r rr =>
    cases rr
    obtain ⟨t, rfl⟩ := r
    exact call_range_1 (range_it I1 (by omega) (by omega) q1 q2 (by simpa using q))
/-! ### for -/
/-- W: the invariant by the turn and a measure; N: what the body is to reach -/
def tFor (wi : TI) (g : TG) (tb : TS) : TS := fun D σ H => wi σ H fun J H1 => ∃ W : Nat → Nat → St → Hp → Prop, (∃ m, W 0 m σ H1) ∧ ∀ i m σ H, W i m σ H →
  (J.stop i H ∧ D.nx σ H) ∨ (J.go i H ∧ ∃ N : St → Hp → Prop, (∀ σ' H', N σ' H' → ∃ m', m' < m ∧ W (i + 1) m' σ' H') ∧ ∀ x H', J.yld i H x H' → g x σ H' fun σ2 H2 => tb { D with nx := N, ct := N, bk := D.nx } σ2 H2)
/-- the records at fp as they stand -/
def pinsAt (fp : List Addr) (h : Heap) : List (Addr × Obj) := fp.filterMap fun b => (h.get? b).map fun o => (b, o)
theorem mem_pinsAt {fp : List Addr} {h : Heap} {b : Addr} {o : Obj} (hb : b ∈ fp) (e : h.get? b = some o) : (b, o) ∈ pinsAt fp h := List.mem_filterMap.mpr ⟨b, hb, by rw [e]; rfl⟩
theorem of_pinsAt {fp : List Addr} {h : Heap} {p : Addr × Obj} (hp : p ∈ pinsAt fp h) : p.1 ∈ fp ∧ h.get? p.1 = some p.2 := by
  obtain ⟨b, hb, e⟩ := List.mem_filterMap.mp hp
  cases q : h.get? b with
  | none => rw [q] at e; cases e
  | some o =>
    rw [q] at e
    have e' : (b, o) = p := Option.some.inj e
    subst e'
    exact ⟨hb, q⟩
theorem Inv.pinned {pins : List (Addr × Obj)} {σ : St} {H : Hp} {s : Shared} {fp : List Addr} (I : Inv X pins σ H s) (hf : ∀ b ∈ fp, FpOk X pins H b) (ho : ∀ b ∈ fp, ∃ o, s.heap.get? b = some o ∧ ∀ v, o.data ≠ .cell v) : Inv X (pins ++ pinsAt fp s.heap) σ H s :=
  I.pins_of fun p hp => (List.mem_append.mp hp).elim (fun z => I.pin p (List.mem_append_right _ z)) fun z => by
    obtain ⟨hb, e⟩ := of_pinsAt z
    obtain ⟨f0, f1, f2, _⟩ := hf p.1 hb
    obtain ⟨o, e', d⟩ := ho p.1 hb
    rw [e] at e'; cases e'
    exact ⟨e, f0, f1, f2, d⟩
theorem Inv.unpinned {pins pl : List (Addr × Obj)} {σ : St} {H : Hp} {s : Shared} (I : Inv X (pins ++ pl) σ H s) : Inv X pins σ H s := I.pins_of fun p hp => I.pin p (List.mem_append_right _ (List.mem_append_left _ hp))
theorem ps_for {iter : Expr} {body : List Stmt} {wi : TI} {g : TG} {tb : TS} {pos : Pos} (hp : PassesOwn (model X.prog X.w) X.A X.env X.xe) (hc : X.calm = true) (hi : PI X tg iter wi) (hg : PG X tg g) (hb : PSs X body tb)
    (hs : ∀ x, foldedSetIterable iter X.env x = pure x := by intro _; rfl) : PS X (.For tg iter body [] pos) (tFor wi g tb) := by
  intro pins s σ H D I h
  refine wpAny_For (thn (hi pins s σ H _ I h) fun v s1 h1 => thn h1 fun itv s2 h2 => ?_) hs
  obtain ⟨it, fp, tn, J, H2, e, I2, T, st2, f2, W, ⟨m0, w0⟩, turn⟩ := h2
  subst e
  -- what stays true of the iterator's objects through the loop
  have stat : ∀ {H' : Hp}, (∀ b ∈ fp, H' b = none) → ∀ b ∈ fp, FpOk X pins H' b := fun hn b hb => ⟨hn b hb, (f2 b hb).2⟩
  refine codeAny_forLoop_any (fun n s' => ∃ i σ' H', Inv X pins σ' H' s' ∧ tn i s'.heap ∧ (∀ b ∈ fp, H' b = none) ∧ W i n σ' H') ?_ m0 ⟨0, σ, H2, I2, st2, fun b hb => (f2 b hb).1, w0⟩
  rintro n s3 ⟨i, σ3, H3, I3, st3, fr3, w3⟩
  rcases turn i n σ3 H3 w3 with ⟨stop, qn⟩ | ⟨go, N, hN, step⟩
  · refine wpAny_passesOwn hp (thn (T.done X rfl rfl rfl hc i pins s3 σ3 H3 X.xe I3 (stat fr3) st3 stop) fun r s4 ⟨hr, I4⟩ => ?_)
    subst hr
    exact wpAny_execs_nil ⟨σ3, H3, I4, qn⟩
  · refine wpAny_passesOwn hp (thn (T.item X rfl rfl rfl hc i pins s3 σ3 H3 X.xe I3 (stat fr3) st3 go) fun r s4 ⟨u, hr, h4⟩ => ?_)
    subst hr
    refine wpAny_passesOwn hp (thn h4 fun _ s5 ⟨x, H5, I5, r5, y5, st5, fr5⟩ => ?_)
    have I5' := I5.pinned (stat fr5) (T.obj _ _ st5)
    refine wpAny_passesOwn hp (thn (hg _ s5 σ3 H5 x u _ I5' r5 (step x H5 y5)) fun _ s6 ⟨σ6, H6, I6, q6⟩ => ?_)
    refine wpAny_passesOwn hp (thn (hb _ s6 σ6 H6 _ I6 q6) fun f s7 q7 => ?_)
    have again : ∀ {σ7 : St} {H7 : Hp}, Inv X (pins ++ pinsAt fp s5.heap) σ7 H7 s7 → N σ7 H7 → ∃ m, m < n ∧ ∃ i σ' H', Inv X pins σ' H' s7 ∧ tn i s7.heap ∧ (∀ b ∈ fp, H' b = none) ∧ W i m σ' H' := fun {σ7 H7} I7 n7 => by
      obtain ⟨m', hm, w7⟩ := hN σ7 H7 n7
      refine ⟨m', hm, i + 1, σ7, H7, I7.unpinned, T.keep _ _ _ st5 fun b hb o e => (I7.pin (b, o) (List.mem_append_right _ (List.mem_append_right _ (mem_pinsAt hb e)))).1, fun b hb => ?_, w7⟩
      obtain ⟨o, e, d⟩ := T.obj _ _ st5 b hb
      exact (I7.pin (b, o) (List.mem_append_right _ (List.mem_append_right _ (mem_pinsAt hb e)))).2.1
    cases f with
    | next => obtain ⟨σ7, H7, I7, n7⟩ := q7; exact again I7 n7
    | cont => obtain ⟨σ7, H7, I7, n7⟩ := q7; exact again I7 n7
    | brk => obtain ⟨σ7, H7, I7, q7⟩ := q7; exact ⟨σ7, H7, I7.unpinned, q7⟩
    | ret v => obtain ⟨x7, σ7, H7, I7, r7, q7⟩ := q7; exact ⟨x7, σ7, H7, I7.unpinned, r7, q7⟩
end

/-! ### the forms one uses -/
/-- over a list that the body leaves as it is -/
theorem for_list {K : PySem.W.Frag} {a : Addr} {xs : List V} {g : TG} {tb : TS} {D : Ends} {σ : St} {H : Hp} (Pv : Nat → St → Hp → Prop) (h0 : Pv 0 σ H) (hl : ∀ i σ H, i ≤ xs.length → Pv i σ H → SqL K H a xs)
    (hs : ∀ i x σ H, xs[i]? = some x → Pv i σ H → g x σ H fun σ2 H2 => tb { D with nx := Pv (i + 1), ct := Pv (i + 1), bk := D.nx } σ2 H2) (hd : ∀ σ H, Pv xs.length σ H → D.nx σ H) :
    ∃ W : Nat → Nat → St → Hp → Prop, (∃ m, W 0 m σ H) ∧ ∀ i m σ H, W i m σ H →
      ((Itl K a).stop i H ∧ D.nx σ H) ∨ ((Itl K a).go i H ∧ ∃ N : St → Hp → Prop, (∀ σ' H', N σ' H' → ∃ m', m' < m ∧ W (i + 1) m' σ' H') ∧ ∀ x H', (Itl K a).yld i H x H' → g x σ H' fun σ2 H2 => tb { D with nx := N, ct := N, bk := D.nx } σ2 H2) := by
  refine ⟨fun i m σ H => m = xs.length - i ∧ i ≤ xs.length ∧ Pv i σ H, ⟨xs.length, by simp, Nat.zero_le _, h0⟩, ?_⟩
  rintro i m σ H ⟨rfl, hi, p⟩
  have q := hl i σ H hi p
  by_cases hlt : i < xs.length
  · refine .inr ⟨⟨xs, xs[i], q, by simp [hlt]⟩, Pv (i + 1), fun σ' H' p' => ⟨xs.length - (i + 1), by omega, rfl, hlt, p'⟩, fun x H' y => ?_⟩
    obtain ⟨e, y⟩ := y
    subst e
    exact hs i x σ _ (y xs q) p
  · have e : i = xs.length := by omega
    subst e
    exact .inl ⟨⟨xs, q, Nat.le_refl _⟩, hd σ H p⟩
theorem for_range {lo : Int} {n : Nat} {g : TG} {tb : TS} {D : Ends} {σ : St} {H : Hp} (Pv : Nat → St → Hp → Prop) (h0 : Pv 0 σ H)
    (hs : ∀ i σ H, i < n → Pv i σ H → g (.int (lo + i)) σ H fun σ2 H2 => tb { D with nx := Pv (i + 1), ct := Pv (i + 1), bk := D.nx } σ2 H2) (hd : ∀ σ H, Pv n σ H → D.nx σ H) :
    ∃ W : Nat → Nat → St → Hp → Prop, (∃ m, W 0 m σ H) ∧ ∀ i m σ H, W i m σ H →
      ((Itr lo n).stop i H ∧ D.nx σ H) ∨ ((Itr lo n).go i H ∧ ∃ N : St → Hp → Prop, (∀ σ' H', N σ' H' → ∃ m', m' < m ∧ W (i + 1) m' σ' H') ∧ ∀ x H', (Itr lo n).yld i H x H' → g x σ H' fun σ2 H2 => tb { D with nx := N, ct := N, bk := D.nx } σ2 H2) := by
  refine ⟨fun i m σ H => m = n - i ∧ i ≤ n ∧ Pv i σ H, ⟨n, by simp, Nat.zero_le _, h0⟩, ?_⟩
  rintro i m σ H ⟨rfl, hi, p⟩
  by_cases hlt : i < n
  · refine .inr ⟨hlt, Pv (i + 1), fun σ' H' p' => ⟨n - (i + 1), by omega, rfl, hlt, p'⟩, fun x H' y => ?_⟩
    obtain ⟨e, y⟩ := y
    subst e y
    exact hs i σ _ hlt p
  · have e : i = n := by omega
    subst e
    exact .inl ⟨Nat.le_refl _, hd σ H p⟩
end L2

namespace L2
open PySem PySem.Spec PyProof.Rows

abbrev R2 := V → V → Hp → VK → Prop
/-- a two-place operation on values: f is binaryOp op, inplaceOp op or compareOp op -/
def OpR (X : Cx) (f : Value → Value → Sem Value) (r : R2) : Prop :=
  ∀ (pins : List (Addr × Obj)) (s : Shared) (σ : St) (H : Hp) (x y : V) (v u : Value) (Q : VK), Inv X pins σ H s → RelV x v → RelV y u → r x y H Q →
    wpAny (model X.prog X.w) X.A (f v u) (EP X pins σ Q) X.xe s
/-- a one-place operation -/
def UnR (X : Cx) (f : Value → Sem Value) (r : V → Hp → VK → Prop) : Prop :=
  ∀ (pins : List (Addr × Obj)) (s : Shared) (σ : St) (H : Hp) (x : V) (v : Value) (Q : VK), Inv X pins σ H s → RelV x v → r x H Q →
    wpAny (model X.prog X.w) X.A (f v) (EP X pins σ Q) X.xe s
/-- a call of a value that is known (a builtin, a type) with values -/
def CallR (X : Cx) (f : Value) (r : List V → Hp → VK → Prop) : Prop :=
  ∀ (pins : List (Addr × Obj)) (s : Shared) (σ : St) (H : Hp) (xs : List V) (us : List Value) (Q : VK), Inv X pins σ H s → Vals xs us → r xs H Q →
    wpAny (model X.prog X.w) X.A (call f us) (EP X pins σ Q) X.xe s
def tOp (r : R2) (ta tb : TE) : TE := fun σ H Q => ta σ H fun x H1 => tb σ H1 fun y H2 => r x y H2 Q
def tUn (r : V → Hp → VK → Prop) (ta : TE) : TE := fun σ H Q => ta σ H fun x H1 => r x H1 Q
/-- ints in, under C, and a value out -/
def rI (C : Int → Int → Prop) (g : Int → Int → V) : R2 := fun x y H Q => ∃ i j, x = .int i ∧ y = .int j ∧ C i j ∧ Q (g i j) H
def rI0 (g : Int → Int → V) : R2 := fun x y H Q => ∃ i j, x = .int i ∧ y = .int j ∧ Q (g i j) H
def rU (g : Int → V) : V → Hp → VK → Prop := fun x H Q => ∃ i, x = .int i ∧ Q (g i) H

section
variable {X : Cx} {a b c : Expr} {ta tb tc : TE} {pos : Pos}

theorem binT (ha : PE X a ta) (hb : PE X b tb) {pins : List (Addr × Obj)} {s : Shared} {σ : St} {H : Hp} {R : V → V → Hp → Prop} (I : Inv X pins σ H s)
    (h : ta σ H fun x H1 => tb σ H1 fun y H2 => R x y H2) {Q : Value → Shared → Prop} {f : Value → Value → Sem Value}
    (hf : ∀ v u s2 x y H2, Inv X pins σ H2 s2 → RelV x v → RelV y u → R x y H2 → wpAny (model X.prog X.w) X.A (f v u) Q X.xe s2) :
    wpAny (model X.prog X.w) X.A (eval a X.env) (fun v s₁ => wpAny (model X.prog X.w) X.A (eval b X.env) (fun u s₂ => wpAny (model X.prog X.w) X.A (f v u) Q X.xe s₂) X.xe s₁) X.xe s := by
  refine thn (ha pins s σ H _ I h) fun v s1 ⟨x, H1, I1, r1, q1⟩ => ?_
  refine thn (hb pins s1 σ H1 _ I1 q1) fun u s2 ⟨y, H2, I2, r2, q2⟩ => ?_
  exact hf v u s2 x y H2 I2 r1 r2 q2

theorem pe_op {op : Operator} {r : R2} (ho : OpR X (binaryOp op) r) (ha : PE X a ta) (hb : PE X b tb) : PE X (.BinOp a op b pos) (tOp r ta tb) := by
  intro pins s σ H Q I h
  exact wpAny_BinOp (binT ha hb I h fun v u s2 x y H2 I2 rx ry q => ho pins s2 σ H2 x y v u Q I2 rx ry q)
theorem pe_un {op : UnaryOp} {r : V → Hp → VK → Prop} (ho : UnR X (unaryOp op) r) (ha : PE X a ta) : PE X (.UnaryOp op a pos) (tUn r ta) := by
  intro pins s σ H Q I h
  exact UnaryOp_ (thn (ha pins s σ H _ I h) fun v s1 ⟨x, H1, I1, r1, q1⟩ => ho pins s1 σ H1 x v Q I1 r1 q1)
/-! ### ints -/
theorem opI {f : Value → Value → Sem Value} {C : Int → Int → Prop} {g : Int → Int → Int}
    (rule : ∀ (i j : Int) (t u : Tok) (s : Shared) (Q : Value → Shared → Prop) (E : Value → Shared → Prop), C i j → Q (.int (g i j) s.toks) { s with toks := s.toks + 1 } → wpAny (model X.prog X.w) X.A (f (.int i t) (.int j u)) Q E s) :
    OpR X f (rI C fun i j => .int (g i j)) := by
  intro pins s σ H x y v u Q I rx ry h
  obtain ⟨i, j, rfl, rfl, hc, q⟩ := h
  obtain ⟨t, rfl⟩ := rx
  obtain ⟨t', rfl⟩ := ry
  exact rule i j t t' s _ _ hc ⟨.int (g i j), H, I.tok _, ⟨_, rfl⟩, q⟩
theorem opI0 {f : Value → Value → Sem Value} {g : Int → Int → Int}
    (rule : ∀ (i j : Int) (t u : Tok) (s : Shared) (Q : Value → Shared → Prop) (E : Value → Shared → Prop), Q (.int (g i j) s.toks) { s with toks := s.toks + 1 } → wpAny (model X.prog X.w) X.A (f (.int i t) (.int j u)) Q E s) :
    OpR X f (rI0 fun i j => .int (g i j)) := by
  intro pins s σ H x y v u Q I rx ry h
  obtain ⟨i, j, rfl, rfl, q⟩ := h
  obtain ⟨t, rfl⟩ := rx
  obtain ⟨t', rfl⟩ := ry
  exact rule i j t t' s _ _ ⟨.int (g i j), H, I.tok _, ⟨_, rfl⟩, q⟩
theorem opB0 {f : Value → Value → Sem Value} {g : Int → Int → Bool}
    (rule : ∀ (i j : Int) (t u : Tok) (s : Shared) (Q : Value → Shared → Prop) (E : Value → Shared → Prop), Q (.bool (g i j)) s → wpAny (model X.prog X.w) X.A (f (.int i t) (.int j u)) Q E s) :
    OpR X f (rI0 fun i j => .bl (g i j)) := by
  intro pins s σ H x y v u Q I rx ry h
  obtain ⟨i, j, rfl, rfl, q⟩ := h
  obtain ⟨t, rfl⟩ := rx
  obtain ⟨t', rfl⟩ := ry
  exact rule i j t t' s _ _ ⟨.bl (g i j), H, I, rfl, q⟩

def CPow (i j : Int) : Prop := 0 ≤ j ∧ j ≤ 1000000 ∧ i.natAbs < 2 ^ 64
def CMul (i j : Int) : Prop := (-(2 ^ 64) < i ∧ i < 2 ^ 64) ∨ (-(2 ^ 64) < j ∧ j < 2 ^ 64)
theorem CMul.ok {i j : Int} (h : CMul i j) : IntMulOk i j := by
  rcases h with ⟨h1, h2⟩ | ⟨h1, h2⟩
  · exact .of_left (intBits_le_64 h1 h2)
  · exact .of_right (intBits_le_64 h1 h2)
theorem op_add : OpR X (binaryOp .Add) (rI0 fun i j => .int (i + j)) := opI0 fun _ _ _ _ _ _ _ q => add_int q
theorem op_sub : OpR X (binaryOp .Sub) (rI0 fun i j => .int (i - j)) := opI0 fun _ _ _ _ _ _ _ q => sub_int q
/-- % by a positive divisor of any size -/
theorem op_mod : OpR X (binaryOp .Mod) (rI (fun _ j => 0 < j) fun i j => .int (i % j)) := opI fun i j _ _ _ _ _ hc q => by
  have h1 : (0 : Int) < j := hc
  exact mod_int' (by omega) (by rw [Int.fmod_eq_emod_of_nonneg i (by omega)]; exact q)
theorem op_pow : OpR X (binaryOp .Pow) (rI CPow fun i j => .int (i ^ j.toNat)) := opI fun _ _ _ _ _ _ _ hc q => pow_int_small hc.1 hc.2.1 hc.2.2 q
theorem unI {f : Value → Sem Value} {g : Int → Int}
    (rule : ∀ (i : Int) (t : Tok) (s : Shared) (Q : Value → Shared → Prop) (E : Value → Shared → Prop), Q (.int (g i) s.toks) { s with toks := s.toks + 1 } → wpAny (model X.prog X.w) X.A (f (.int i t)) Q E s) :
    UnR X f (rU fun i => .int (g i)) := by
  intro pins s σ H x v Q I rx h
  obtain ⟨i, rfl, q⟩ := h
  obtain ⟨t, rfl⟩ := rx
  exact rule i t s _ _ ⟨.int (g i), H, I.tok _, ⟨_, rfl⟩, q⟩
theorem un_neg : UnR X (unaryOp .USub) (rU fun i => .int (-i)) := unI fun _ _ _ _ _ q => neg_int q
/-! ### bools among ints: n += (a < b) -/
end

/-! ### comparisons -/
/-- the scalars that == tells apart as data does -/
def scal : V → V → Bool
  | .non, .non => true | .non, .int _ => true | .int _, .non => true | .non, .bl _ => true | .bl _, .non => true | .non, .str _ => true | .str _, .non => true
  | .int _, .int _ => true | .bl _, .bl _ => true | .str _, .str _ => true | .byt _, .byt _ => true
  | .int _, .str _ => true | .str _, .int _ => true | .bl _, .str _ => true | .str _, .bl _ => true
  | _, _ => false
def rEq : R2 := fun x y H Q => scal x y = true ∧ Q (.bl (decide (x = y))) H
def rNe : R2 := fun x y H Q => scal x y = true ∧ Q (.bl (!decide (x = y))) H

theorem dec_int {i j : Int} : decide (V.int i = V.int j) = (i == j) := by
  rw [Bool.eq_iff_iff]
  simp
theorem dec_bl {i j : Bool} : decide (V.bl i = V.bl j) = (i == j) := by
  rw [Bool.eq_iff_iff]
  simp
theorem dec_str {i j : Str} : decide (V.str i = V.str j) = (i == j) := by
  rw [Bool.eq_iff_iff]
  simp
theorem dec_byt {i j : Array UInt8} : decide (V.byt i = V.byt j) = (i.toList == j.toList) := by
  rw [Bool.eq_iff_iff]
  cases i
  cases j
  simp

section
variable {X : Cx} {a b c : Expr} {ta tb tc : TE} {pos : Pos}
theorem fin_bl {pins : List (Addr × Obj)} {σ : St} {H : Hp} {s : Shared} {Q : VK} {k k' : Bool} (I : Inv X pins σ H s) (q : Q (.bl k) H) (e : k = k') : EP X pins σ Q (.bool k') s := by
  subst e
  exact ⟨.bl k, H, I, rfl, q⟩
theorem op_eq : OpR X (compareOp .Eq) rEq := by
  intro pins s σ H x y v u Q I rx ry h
  obtain ⟨hs, q⟩ := h
  cases x with
  | non =>
    cases rx
    cases y with
    | non => cases ry; exact PySem.EqNone.eq_none_none (fin_bl I q (by simp))
    | bl j => cases ry; exact PySem.EqNone.eq_none_bool (fin_bl I q (by simp))
    | int j => obtain ⟨t', rfl⟩ := ry; exact PySem.EqNone.eq_none_int (fin_bl I q (by simp))
    | str j => obtain ⟨t', rfl⟩ := ry; exact PySem.EqNone.eq_none_str (fin_bl I q (by simp))
    | _ => exact absurd (show false = true from hs) Bool.false_ne_true
  | bl i =>
    cases rx
    cases y with
    | non => cases ry; exact PySem.EqNone.eq_bool_none (fin_bl I q (by simp))
    | bl j => cases ry; exact eq_bool (fin_bl I q dec_bl)
    | str j => obtain ⟨t', rfl⟩ := ry; exact PySem.EqMixed.eq_bool_str (fin_bl I q (by simp))
    | _ => exact absurd (show false = true from hs) Bool.false_ne_true
  | int i =>
    obtain ⟨t, rfl⟩ := rx
    cases y with
    | non => cases ry; exact PySem.EqNone.eq_int_none (fin_bl I q (by simp))
    | int j => obtain ⟨t', rfl⟩ := ry; exact eq_int (fin_bl I q dec_int)
    | str j => obtain ⟨t', rfl⟩ := ry; exact PySem.EqMixed.eq_int_str (fin_bl I q (by simp))
    | _ => exact absurd (show false = true from hs) Bool.false_ne_true
  | str i =>
    obtain ⟨t, rfl⟩ := rx
    cases y with
    | non => cases ry; exact PySem.EqNone.eq_str_none (fin_bl I q (by simp))
    | bl j => cases ry; exact PySem.EqMixed.eq_str_bool (fin_bl I q (by simp))
    | int j => obtain ⟨t', rfl⟩ := ry; exact PySem.EqMixed.eq_str_int (fin_bl I q (by simp))
    | str j => obtain ⟨t', rfl⟩ := ry; exact eq_str (fin_bl I q dec_str)
    | _ => exact absurd (show false = true from hs) Bool.false_ne_true
  | byt i =>
    obtain ⟨t, rfl⟩ := rx
    cases y with
    | byt j => obtain ⟨t', rfl⟩ := ry; exact PySem.W.eq_bytes (fin_bl I q dec_byt)
    | _ => exact absurd (show false = true from hs) Bool.false_ne_true
  | _ => cases y <;> exact absurd (show false = true from hs) Bool.false_ne_true
theorem op_ne : OpR X (compareOp .NotEq) rNe := by
  intro pins s σ H x y v u Q I rx ry h
  obtain ⟨hs, q⟩ := h
  cases x with
  | non =>
    cases rx
    cases y with
    | non => cases ry; exact PySem.EqNone.ne_none_none (fin_bl I q (by simp))
    | bl j => cases ry; exact PySem.EqNone.ne_none_bool (fin_bl I q (by simp))
    | int j => obtain ⟨t', rfl⟩ := ry; exact PySem.EqNone.ne_none_int (fin_bl I q (by simp))
    | str j => obtain ⟨t', rfl⟩ := ry; exact PySem.EqNone.ne_none_str (fin_bl I q (by simp))
    | _ => exact absurd (show false = true from hs) Bool.false_ne_true
  | bl i =>
    cases rx
    cases y with
    | non => cases ry; exact PySem.EqNone.ne_bool_none (fin_bl I q (by simp))
    | bl j => cases ry; exact ne_bool (fin_bl I q (congrArg not dec_bl))
    | str j => obtain ⟨t', rfl⟩ := ry; exact PySem.EqMixed.ne_bool_str (fin_bl I q (by simp))
    | _ => exact absurd (show false = true from hs) Bool.false_ne_true
  | int i =>
    obtain ⟨t, rfl⟩ := rx
    cases y with
    | non => cases ry; exact PySem.EqNone.ne_int_none (fin_bl I q (by simp))
    | int j => obtain ⟨t', rfl⟩ := ry; exact ne_int (fin_bl I q (congrArg not dec_int))
    | str j => obtain ⟨t', rfl⟩ := ry; exact PySem.EqMixed.ne_int_str (fin_bl I q (by simp))
    | _ => exact absurd (show false = true from hs) Bool.false_ne_true
  | str i =>
    obtain ⟨t, rfl⟩ := rx
    cases y with
    | non => cases ry; exact PySem.EqNone.ne_str_none (fin_bl I q (by simp))
    | bl j => cases ry; exact PySem.EqMixed.ne_str_bool (fin_bl I q (by simp))
    | int j => obtain ⟨t', rfl⟩ := ry; exact PySem.EqMixed.ne_str_int (fin_bl I q (by simp))
    | str j => obtain ⟨t', rfl⟩ := ry; exact ne_str (fin_bl I q (congrArg not dec_str))
    | _ => exact absurd (show false = true from hs) Bool.false_ne_true
  | byt i =>
    obtain ⟨t, rfl⟩ := rx
    cases y with
    | byt j => obtain ⟨t', rfl⟩ := ry; exact PySem.W.ne_bytes (fin_bl I q (congrArg not dec_byt))
    | _ => exact absurd (show false = true from hs) Bool.false_ne_true
  | _ => cases y <;> exact absurd (show false = true from hs) Bool.false_ne_true

theorem op_lt : OpR X (compareOp .Lt) (rI0 fun i j => .bl (decide (i < j))) := opB0 fun _ _ _ _ _ _ _ q => lt_int q
theorem op_le : OpR X (compareOp .LtE) (rI0 fun i j => .bl (decide (i ≤ j))) := opB0 fun _ _ _ _ _ _ _ q => le_int q
theorem op_gt : OpR X (compareOp .Gt) (rI0 fun i j => .bl (decide (j < i))) := opB0 fun _ _ _ _ _ _ _ q => gt_int q
/-- is None, is not None: the right side a value none -/
theorem op_isN : OpR X (compareOp .Is) (fun x y H Q => y = .non ∧ Q (.bl (decide (x = .non))) H) := by
  intro pins s σ H x y v u Q I rx ry h
  obtain ⟨rfl, q⟩ := h
  cases ry
  refine is_none_gen (fin_bl I q ?_)
  cases x <;> first
    | (cases rx; rfl)
    | (obtain ⟨t, rfl⟩ := rx; rfl)
theorem op_notN : OpR X (compareOp .IsNot) (fun x y H Q => y = .non ∧ Q (.bl (!decide (x = .non))) H) := by
  intro pins s σ H x y v u Q I rx ry h
  obtain ⟨rfl, q⟩ := h
  cases ry
  refine isnot_none_gen (fin_bl I q ?_)
  cases x <;> first
    | (cases rx; rfl)
    | (obtain ⟨t, rfl⟩ := rx; rfl)

/-- two rules for one operation: by cases -/
theorem OpR.or {f : Value → Value → Sem Value} {r r' : R2} (h : OpR X f r) (h' : OpR X f r') : OpR X f (fun x y H Q => r x y H Q ∨ r' x y H Q) := by
  intro pins s σ H x y v u Q I rx ry q
  rcases q with q | q
  · exact h pins s σ H x y v u Q I rx ry q
  · exact h' pins s σ H x y v u Q I rx ry q

theorem nomark (b : Expr) {op : CmpOp} (h : op ≠ .In := by decide) (h2 : op ≠ .NotIn := by decide) : behindInMarks op b = false := by
  have e1 : (op == CmpOp.In) = false := by cases op <;> first | rfl | exact absurd rfl h
  have e2 : (op == CmpOp.NotIn) = false := by cases op <;> first | rfl | exact absurd rfl h2
  cases b <;> simp [behindInMarks, e1, e2]
/-- a comparison as a value; hm: nomark b, or (for in, not in) by with_unfolding_all rfl -/
theorem pe_cmpR {op : CmpOp} {r : R2} (ho : OpR X (compareOp op) r) (ha : PE X a ta) (hb : PE X b tb) (hm : behindInMarks op b = false) : PE X (.Compare a [op] [b] pos) (tOp r ta tb) := by
  intro pins s σ H Q I h
  exact wpAny_Compare1 (binT ha hb I h fun v u s2 x y H2 I2 rx ry q => ho pins s2 σ H2 x y v u Q I2 rx ry q) hm
/-- a reading of a value as a test -/
def tTest (t : TE) : TT := fun σ H Q => t σ H fun x H' => ∃ k, x = .bl k ∧ Q k H'
theorem pt_cmpR {op : CmpOp} {r : R2} (ho : OpR X (compareOp op) r) (ha : PE X a ta) (hb : PE X b tb) (hm : behindInMarks op b = false) : PT X (.Compare a [op] [b] pos) (tTest (tOp r ta tb)) := by
  intro pins s σ H Q I h
  refine wpAny_isTrue_Compare1 (thn (ha pins s σ H _ I h) fun v s1 ⟨x, H1, I1, r1, q1⟩ => thn (hb pins s1 σ H1 _ I1 q1) fun u s2 ⟨y, H2, I2, r2, q2⟩ =>
    thn (ho pins s2 σ H2 x y v u _ I2 r1 r2 q2) fun c s3 ⟨z, H3, I3, r3, k, e, q3⟩ => ?_) hm
  subst e
  cases r3
  exact wpAny_truthy_bool ⟨H3, I3, q3⟩
/-- a op1 b op2 c -/
def tChain (r r' : R2) (ta tb tc : TE) : TE := fun σ H Q => ta σ H fun x H1 => tb σ H1 fun y H2 => r x y H2 fun z H3 => ∃ k, z = .bl k ∧
  (if k = true then tc σ H3 fun w' H4 => r' y w' H4 Q else Q (.bl false) H3)
theorem pe_chain {op op' : CmpOp} {r r' : R2} (ho : OpR X (compareOp op) r) (ho' : OpR X (compareOp op') r') (ha : PE X a ta) (hb : PE X b tb) (hc : PE X c tc)
    (hm : lastMarks [op, op'] [b, c] = false := by with_unfolding_all rfl) : PE X (.Compare a [op, op'] [b, c] pos) (tChain r r' ta tb tc) := by
  intro pins s σ H Q I h
  refine Compare_chain (thn (ha pins s σ H _ I h) fun v s1 ⟨x, H1, I1, r1, q1⟩ => chain_link (thn (hb pins s1 σ H1 _ I1 q1) fun u s2 ⟨y, H2, I2, r2, q2⟩ =>
    thn (ho pins s2 σ H2 x y v u _ I2 r1 r2 q2) fun d s3 ⟨z, H3, I3, r3, k, e, q3⟩ => ?_)) hm
  subst e
  cases r3
  refine wpAny_truthy_bool ?_
  cases k with
  | false => exact ite_ff ⟨.bl false, H3, I3, rfl, q3⟩
  | true => exact ite_tt (chain_last (thn (hc pins s3 σ H3 _ I3 q3) fun w' s4 ⟨z', H4, I4, r4, q4⟩ => ho' pins s4 σ H4 y z' u w' Q I4 r2 r4 q4))
/-! ### truth -/
theorem line63 : (sizeLine : Nat) < 2 ^ 63 := by rw [sizeLine_eq]; decide
/-! ### strs and bytes -/
/-! ### scalar builtins, by CallR -/
theorem vals1 {x : V} {us : List Value} (r : Vals [x] us) : ∃ u, us = [u] ∧ RelV x u := by
  cases r with
  | cons r1 r2 => cases r2; exact ⟨_, rfl, r1⟩
theorem vals2 {x y : V} {us : List Value} (r : Vals [x, y] us) : ∃ u w', us = [u, w'] ∧ RelV x u ∧ RelV y w' := by
  cases r with
  | cons r1 r2 =>
    cases r2 with
    | cons r3 r4 => cases r4; exact ⟨_, _, rfl, r1, r3⟩
theorem call_min2 (hc : X.calm = true) : CallR X (.builtin "min") (fun xs H Q => ∃ i j, xs = [.int i, .int j] ∧ Q (.int (if j < i then j else i)) H) := by
  intro pins s σ H xs us Q I r h
  obtain ⟨i, j, rfl, q⟩ := h
  obtain ⟨u, w', rfl, ⟨t, rfl⟩, ⟨t', rfl⟩⟩ := vals2 r
  refine min_two_ints (I.ok.hd hc) fun h' tk k => ⟨_, H, I.kept k, ?_, q⟩
  by_cases hj : j < i
  · rw [if_pos hj, if_pos hj]; exact ⟨_, rfl⟩
  · rw [if_neg hj, if_neg hj]; exact ⟨_, rfl⟩
theorem call_int1 : CallR X (.type "int") (fun xs H Q => (∃ i, xs = [.int i] ∧ Q (.int i) H) ∨ ∃ k, xs = [.bl k] ∧ Q (.int (if k then 1 else 0)) H) := by
  intro pins s σ H xs us Q I r h
  rcases h with ⟨i, rfl, q⟩ | ⟨k, rfl, q⟩
  · obtain ⟨u, rfl, t, rfl⟩ := vals1 r
    exact call_int_int ⟨.int i, H, I, ⟨_, rfl⟩, q⟩
  · obtain ⟨u, rfl, r1⟩ := vals1 r
    cases r1
    exact call_int_bool ⟨.int (if k then 1 else 0), H, I.tok _, ⟨_, rfl⟩, q⟩
end
end L2

namespace L2
open PySem PySem.Spec PyProof.Rows

/-! ### an instance, its attributes a map -/
structure ObjM (h : Heap) (x dx C : Addr) (mA : Str → Option Value) : Prop where
  obj : h.get? x = some (PySem.W.instObj C dx)
  ns : h.Ns1 dx mA
  ne : dx ≠ x

theorem lookIn_ns {h : Heap} {dx : Addr} {mA : Str → Option Value} (n : h.Ns1 dx mA) : ∃ od, h.get? dx = some od ∧ ∀ name, PySem.W.lookIn name od = some (mA name) := by
  obtain ⟨o, es, ep, ho, hd, hk, _, hm⟩ := n
  refine ⟨o, ho, fun name => ?_⟩
  have e := hm name
  unfold nsFind findBy at e
  rw [← Array.find?_toList] at e
  unfold PySem.W.lookIn
  rw [hd]
  dsimp only
  split
  · rename_i y q
    rw [q] at e
    exact congrArg some e
  · rename_i q
    rw [q] at e
    have a : es.toList.any (·.refKey) = false := by
      rw [List.any_eq_false]
      intro y hy
      obtain ⟨z, t, hkey⟩ := hk y (Array.mem_toList_iff.mp hy)
      simp [DictEntry.refKey, hkey]
    have a' : ¬ es.toList.any (·.refKey) = true := by rw [a]; exact Bool.false_ne_true
    rw [if_neg a']
    exact congrArg some e

theorem ObjM.look {h : Heap} {x dx C : Addr} {mA : Str → Option Value} (I : ObjM h x dx C mA) : ∃ od, PySem.W.InstAt h x (PySem.W.instObj C dx) C (some od) ∧ ∀ name, PySem.W.lookIn name od = some (mA name) :=
  let ⟨od, ho, hl⟩ := lookIn_ns I.ns
  ⟨od, ⟨I.obj, rfl, rfl, ho⟩, hl⟩

section
variable {prog : Program} {w : World} {A : Around} {E : Value → Shared → Prop} {s : Shared} {K : PySem.W.Frag} {x dx C f : Addr} {mA : Str → Option Value} {name : Str} {v : Value}

theorem get_map {expr : Bool} {Q : Value → Shared → Prop} (X : K.In s.heap) (I : ObjM s.heap x dx C mA) (hg : PySem.W.plainGet K C name = true) (hh : PySem.W.hasDictIn K C = true)
    (ha : PySem.W.findIn K (.ref C) name = some none) (hv : mA name = some v) (hv' : PySem.W.handedIn v = true) (h : Q v { s with toks := s.toks + 1 }) :
    wpAny (model prog w) A (getAttr (.ref x) name expr) Q E s := by
  obtain ⟨od, J, hl⟩ := I.look
  exact PySem.W.get_value X J (PySem.W.plainGet_of hg).1 (PySem.W.findObj_own hh ha rfl (by rw [hl, hv])) hv' h

theorem get_meth {pl : Sem Bool} {Q : Value × List Value → Shared → Prop} (X : K.In s.heap) (I : ObjM s.heap x dx C mA) (hg : PySem.W.plainGet K C name = true)
    (hf : PySem.W.findIn K (.ref C) name = some (some (.ref f))) (ht : PySem.W.isFn K (.ref f) = true) (hv : mA name = none) (h : Q (.ref f, [.ref x]) s) :
    wpAny (model prog w) A (getMethod (.ref x) name pl) Q E s := by
  obtain ⟨od, J, hl⟩ := I.look
  exact PySem.W.method_fn X J (PySem.W.plainGet_of hg).1 (PySem.W.plainGet_of hg).2 hf (beq_iff_eq.mp ht) (by show (PySem.W.lookIn name od).map (·.isSome) = some false; rw [hl, hv]; rfl) h

theorem set_map {ns : List Str} {Q : Unit → Shared → Prop} (X : K.In s.heap) (I : ObjM s.heap x dx C mA)
    (hs : PySem.W.findIn K (.ref C) "__setattr__" = some (some (.builtin "object.__setattr__"))) (hp : PySem.W.plainOver K C = true) (ht : PySem.W.takerIn K C name = some none) (hh : PySem.W.hasDictIn K C = true)
    (hw : PySem.Within mA ns) (hsz : ns.length ≤ sizeLine)
    (h : ∀ h', ObjM h' x dx C (fun y => if y = name then some v else mA y) → Heap.SameBut dx s.heap h' → Q () { s with heap := h', toks := s.toks + 2 }) :
    wpAny (model prog w) A (setAttr (.ref x) name v) Q E s := by
  obtain ⟨od, J, hl⟩ := I.look
  refine PySem.W.set_plain X J hs (PySem.W.osa_open (s := { s with toks := s.toks + 1 }) (r := none) X J hp ht fun b => ?_)
  obtain ⟨cd, hc, hd'⟩ := PySem.W.any_some hh
  have hx : s.heap.get? x = some ⟨.ref C, some dx, .plain, #[]⟩ := I.obj
  refine wpAny_bind (wpAny_pure (wpAny_bind (wpAny_bind (wpAny_loadPart hx (wpAny_bind (PySem.W.Looks.here (s := { s with toks := s.toks + 1 }) (PySem.W.looks_clsIn X hc) ?_))))))
  rw [hd']
  refine wpAny_pure (a := some dx) (wpAny_bind (wpAny_pure (wpAny_bind ?_)))
  refine wpAny_nsSet1 (s := { s with toks := s.toks + 1 }) I.ns fun h' hn2 hs2 => ?_
  obtain ⟨oD, esD, epD, hoD, hdD, hcD⟩ := hn2.count (PySem.Within.cons name v hw)
  refine wpAny_bind (wpAny_lookBehind hoD (by rw [hdD]; exact pastItsLine_dict (Nat.le_trans hcD (by rw [List.length_cons]; omega))) ?_)
  exact wpAny_pure (h _ ⟨(hs2.2 _ (Ne.symm I.ne)).trans I.obj, hn2, I.ne⟩ hs2)

/-- C(..): the dict at the heap's end, the instance behind it; then its __init__ -/
theorem make_map {R : Result → Shared → Prop} {vs : List Value} {kw : List (Str × Value)} (X : K.In s.heap) (hm : PySem.W.makesIn K C = true)
    (hi : PySem.W.findIn K (.ref C) "__init__" = some (some (.ref f))) (hf : PySem.W.typeIn K (.ref f) = some (.type "function"))
    (h : codeAny (model prog w) (A.under (.builtin "type.__call__" ⟨.ref C :: vs, kw⟩)) (.call (.ref f) ⟨.ref (s.heap.objs.size + 1) :: vs, kw⟩) (PySem.W.InitBack (s.heap.objs.size + 1) R)
      { s with heap := (s.heap.push PySem.W.emptyDict).push (PySem.W.instObj C s.heap.objs.size) }) :
    codeAny (model prog w) A (.call (.ref C) ⟨vs, kw⟩) R s := by
  obtain ⟨hh, g, d, t, os⟩ := s
  exact PySem.W.make_core (PySem.W.makes_of X hm) (PySem.W.looks_findIn X hi) (fun self => PySem.W.bind_fn X self hf) (.inl rfl) h
end

/-! ### the attributes as a list of pairs -/
def putF (f : Str) (v : V) : List (Str × V) → List (Str × V)
  | [] => [(f, v)]
  | (g, x) :: r => if g = f then (g, v) :: r else (g, x) :: putF f v r
theorem lookup_putF (f g : Str) (v : V) : ∀ fs : List (Str × V), (putF f v fs).lookup g = if g = f then some v else fs.lookup g
  | [] => by
    show List.lookup g [(f, v)] = _
    by_cases h : g = f
    · have hb : (g == f) = true := beq_iff_eq.mpr h
      simp only [List.lookup, hb, if_pos h]
    · have hb : (g == f) = false := beq_eq_false_iff_ne.mpr h
      simp only [List.lookup, hb, if_neg h]
  | (k, x) :: r => by
    have ih := lookup_putF f g v r
    rw [show putF f v ((k, x) :: r) = (if k = f then (k, v) :: r else (k, x) :: putF f v r) from rfl]
    by_cases hk : k = f
    · rw [if_pos hk]
      by_cases h : g = k
      · have hb : (g == k) = true := beq_iff_eq.mpr h
        simp only [List.lookup, hb, if_pos (h.trans hk)]
      · have hb : (g == k) = false := beq_eq_false_iff_ne.mpr h
        simp only [List.lookup, hb, if_neg (fun e : g = f => h (e.trans hk.symm))]
    · rw [if_neg hk]
      by_cases h : g = k
      · have hb : (g == k) = true := beq_iff_eq.mpr h
        simp only [List.lookup, hb, if_neg (fun e : g = f => hk (h.symm.trans e))]
      · have hb : (g == k) = false := beq_eq_false_iff_ne.mpr h
        simp only [List.lookup, hb]
        exact ih
theorem keys_putF (f : Str) (v : V) : ∀ fs : List (Str × V), f ∈ (putF f v fs).map (·.1) ∧ ∀ g, g ∈ fs.map (·.1) → g ∈ (putF f v fs).map (·.1)
  | [] => ⟨by simp [putF], fun g h => by simp at h⟩
  | (k, x) :: r => by
    obtain ⟨i1, i2⟩ := keys_putF f v r
    rw [show putF f v ((k, x) :: r) = (if k = f then (k, v) :: r else (k, x) :: putF f v r) from rfl]
    by_cases hk : k = f
    · rw [if_pos hk]
      subst hk
      exact ⟨by simp, fun g h => by simpa using h⟩
    · rw [if_neg hk]
      refine ⟨?_, fun g h => ?_⟩
      · rw [List.map_cons]
        exact List.mem_cons_of_mem _ i1
      · rw [List.map_cons] at h ⊢
        rcases List.mem_cons.mp h with e | e
        · exact List.mem_cons.mpr (.inl e)
        · exact List.mem_cons_of_mem _ (i2 g e)
theorem length_putF (f : Str) (v : V) : ∀ fs : List (Str × V), (putF f v fs).length ≤ fs.length + 1
  | [] => by simp [putF]
  | (k, x) :: r => by
    have ih := length_putF f v r
    rw [show putF f v ((k, x) :: r) = (if k = f then (k, v) :: r else (k, x) :: putF f v r) from rfl]
    by_cases hk : k = f
    · rw [if_pos hk, List.length_cons, List.length_cons]; omega
    · rw [if_neg hk, List.length_cons, List.length_cons]; omega

theorem RelO.some_of {v : V} {o : Option Value} (r : RelO (some v) o) : ∃ u, o = some u ∧ RelV v u := by
  cases o with
  | none => exact (show False from r).elim
  | some u => exact ⟨u, rfl, r⟩
theorem RelO.none_of {o : Option Value} (r : RelO none o) : o = none := by
  cases o with
  | none => rfl
  | some u => exact (show False from r).elim
theorem handed_of {v : V} {u : Value} (r : RelV v u) : PySem.W.handedIn u = true := by
  cases v with
  | non => cases (show u = Value.none from r); rfl
  | bl b => cases (show u = Value.bool b from r); rfl
  | int i => obtain ⟨t, e⟩ := (show ∃ t, u = Value.int i t from r); cases e; rfl
  | str x => obtain ⟨t, e⟩ := (show ∃ t, u = Value.str x t from r); cases e; rfl
  | byt b => obtain ⟨t, e⟩ := (show ∃ t, u = Value.bytes b t from r); cases e; rfl
  | flt b => obtain ⟨t, e⟩ := (show ∃ t, u = Value.float b t from r); cases e; rfl
  | ref a => cases (show u = Value.ref a from r); rfl
  | ty n => cases (show u = Value.type n from r); rfl

section
variable {P : Program} {w : World} {H H' : Hp} {h h' : Heap} {a C dx : Addr} {fs fs' : List (Str × V)}
theorem ins_get (hok : HOk P w H h) (e : H a = some (.ins C dx fs)) : ∃ mA, ObjM h a dx C mA ∧ (∀ f, RelO (fs.lookup f) (mA f)) ∧ PySem.Within mA (fs.map (·.1)) ∧ fs.length ≤ 1000 ∧ H dx = some (.own a) := by
  obtain ⟨d, z, ne, ob, mA, n, r, q⟩ := (show ObjOk P w H h a (.ins C dx fs) from hok a _ e)
  exact ⟨mA, ⟨ob, n, ne⟩, r, q, z, d⟩
end

/-! ### what of the text a class must have -/
structure Cls (K : PySem.W.Frag) (C : Addr) : Prop where
  pg : PySem.W.plainGet K C Str.empty = true
  hd : PySem.W.hasDictIn K C = true
  po : PySem.W.plainOver K C = true
  sa : PySem.W.findIn K (.ref C) "__setattr__" = some (some (.builtin "object.__setattr__"))
theorem Cls.get {K : PySem.W.Frag} {C : Addr} (c : Cls K C) (f : Str) : PySem.W.plainGet K C f = true := c.pg
/-- no class of it has the name -/
def NoAttr (K : PySem.W.Frag) (C : Addr) (f : Str) : Prop := PySem.W.findIn K (.ref C) f = some none
theorem NoAttr.taker {K : PySem.W.Frag} {C : Addr} {f : Str} (n : NoAttr K C f) : PySem.W.takerIn K C f = some none := by
  unfold PySem.W.takerIn
  rw [show PySem.W.findIn K (.ref C) f = some none from n]
  rfl
/-- a method: a plain def of the class or of one above it -/
structure Meth (K : PySem.W.Frag) (C : Addr) (m : Str) (f : Addr) : Prop where
  at_ : PySem.W.findIn K (.ref C) m = some (some (.ref f))
  fn : PySem.W.isFn K (.ref f) = true
  kp : PySem.W.keepIn K (.ref f) = true

section
variable {X : Cx} {pins : List (Addr × Obj)} {σ : St} {H : Hp} {s : Shared} {a C dx : Addr} {fs : List (Str × V)} {f : Str} {v : V} {A : Around} {E : Value → Shared → Prop}

theorem getattr_ok {b : Bool} {Q : Value → Shared → Prop} (I : Inv X pins σ H s) (e : H a = some (.ins C dx fs)) (c : Cls X.K C) (n : NoAttr X.K C f) (l : fs.lookup f = some v)
    (h : ∀ u s', Inv X pins σ H s' → RelV v u → Q u s') : wpAny (model X.prog X.w) A (getAttr (.ref a) f b) Q E s := by
  obtain ⟨mA, O, r, _, _, _⟩ := ins_get I.hok e
  obtain ⟨u, hu, ru⟩ := RelO.some_of (v := v) (o := mA f) (by rw [← l]; exact r f)
  exact get_map I.kIn O (c.get f) c.hd n hu (handed_of ru) (h u _ (I.tok _) ru)

theorem getmeth_ok {m : Str} {g : Addr} {pl : Sem Bool} {Q : Value × List Value → Shared → Prop} (I : Inv X pins σ H s) (e : H a = some (.ins C dx fs)) (c : Cls X.K C) (k : Meth X.K C m g) (l : fs.lookup m = none)
    (h : Q (.ref g, [.ref a]) s) : wpAny (model X.prog X.w) A (getMethod (.ref a) m pl) Q E s := by
  obtain ⟨mA, O, r, _, _, _⟩ := ins_get I.hok e
  have hn : mA m = none := RelO.none_of (by rw [← l]; exact r m)
  exact get_meth I.kIn O (c.get m) k.at_ k.fn hn h

theorem setattr_ok {y : V} {u : Value} {Q : Unit → Shared → Prop} (I : Inv X pins σ H s) (e : H a = some (.ins C dx fs)) (c : Cls X.K C) (n : NoAttr X.K C f) (hl : fs.length < 1000) (ry : RelV y u)
    (h : ∀ s', Inv X pins σ (upd H a (.ins C dx (putF f y fs))) s' → Q () s') : wpAny (model X.prog X.w) A (setAttr (.ref a) f u) Q E s := by
  obtain ⟨mA, O, r, wi, _, ho⟩ := ins_get I.hok e
  have hz : (fs.map (·.1)).length ≤ sizeLine := by rw [List.length_map, sizeLine_eq]; omega
  refine set_map I.kIn O c.sa c.po n.taker c.hd wi hz fun h' O' sb => h _ ?_
  have hd : ∃ o, h'.get? dx = some o := let ⟨o, _, _, e', _⟩ := O'.ns; ⟨o, e'⟩
  refine I.write (x := a) (e := dx) (by rw [e]; exact True.intro) (.inr ho) (fun b q hb z => (sb.2 b hb).trans z) hd ?_
  refine ⟨by rw [upd_ne O.ne]; exact ho, ?_, O.ne, O'.obj, _, O'.ns, fun g => ?_, fun g hg => ?_⟩
  · have := length_putF f y fs; omega
  · show RelO ((putF f y fs).lookup g) (if g = f then some u else mA g)
    rw [lookup_putF]
    by_cases q : g = f
    · rw [if_pos q, if_pos q]; exact ry
    · rw [if_neg q, if_neg q]; exact r g
  · by_cases q : g = f
    · rw [q]; exact (keys_putF f y fs).1
    · refine (keys_putF f y fs).2 g (wi g fun z => hg ?_)
      show (if g = f then some u else mA g) = none
      rw [if_neg q]; exact z

/-- a new instance, tracked, without attributes -/
theorem Inv.made (I : Inv X pins σ H s) : Inv X pins σ (upd (upd H s.heap.objs.size (.own (s.heap.objs.size + 1))) (s.heap.objs.size + 1) (.ins C s.heap.objs.size []))
    { s with heap := (s.heap.push PySem.W.emptyDict).push (PySem.W.instObj C s.heap.objs.size) } := by
  have e1 : (s.heap.push PySem.W.emptyDict).get? s.heap.objs.size = some PySem.W.emptyDict := Heap.get?_push_size s.heap rfl
  have e2 : ((s.heap.push PySem.W.emptyDict).push (PySem.W.instObj C s.heap.objs.size)).get? (s.heap.objs.size + 1) = some (PySem.W.instObj C s.heap.objs.size) := by
    have := Heap.get?_push_size (s.heap.push PySem.W.emptyDict) (o := PySem.W.instObj C s.heap.objs.size) rfl
    rwa [Heap.size_push] at this
  have e3 : (s.heap.push PySem.W.emptyDict).Ns s.heap.objs.size (fun _ => none) := ⟨PySem.W.emptyDict, #[], _, e1, rfl, (fun e he => absurd he (by simp)), fun _ => rfl⟩
  have I1 := I.laid (a := s.heap.objs.size) (o := .own (s.heap.objs.size + 1)) (h' := s.heap.push PySem.W.emptyDict) (t' := s.toks) (fun b u q => Heap.get?_push_of_some _ q) (Nat.le_refl _) ⟨_, e1⟩
  refine I1.laid (a := s.heap.objs.size + 1) (o := .ins C s.heap.objs.size []) (t' := s.toks) (fun b u q => Heap.get?_push_of_some _ q) (Nat.le_of_eq (Heap.size_push _ _)) ?_
  have ne : s.heap.objs.size ≠ s.heap.objs.size + 1 := Nat.ne_of_lt (Nat.lt_succ_self _)
  refine ⟨by rw [upd_ne ne, upd_same], Nat.zero_le _, ne, e2, fun _ => none, (Heap.Ns1.of_empty e3).at fun o q => Heap.get?_push_of_some _ q, fun _ => True.intro, fun y hy => absurd rfl hy⟩

/-- e.f where nothing but the object is asked: through attributeBase (super) and the last hold -/
theorem attr_of {prog : Program} {w : World} {env : Env} {e : Expr} {f : Str} {pos : Pos} {s : Shared} {Q : Value → Shared → Prop} (hb : attributeBase e f env (eval e env) = eval e env)
    (h : wpAny (model prog w) A (eval e env) (fun o s₁ => wpAny (model prog w) A (getAttr o f true) Q E s₁) E s) : wpAny (model prog w) A (eval (.Attribute e f pos) env) Q E s :=
  Attribute_any_ h (by rw [arm_eval_Attribute, hb])
end

/-! ### readings and rules -/
/-- e.f, an attribute of the instance -/
def tFld (K : PySem.W.Frag) (ta : TE) (f : Str) : TE := fun σ H Q => ta σ H fun x H1 => ∃ a C dx fs v, x = .ref a ∧ H1 a = some (.ins C dx fs) ∧ Cls K C ∧ NoAttr K C f ∧ fs.lookup f = some v ∧ Q v H1
/-- e.f = value -/
def sFld (K : PySem.W.Frag) (ta tv : TE) (f : Str) : TS := fun D σ H => tv σ H fun y H1 => ta σ H1 fun x H2 => ∃ a C dx fs, x = .ref a ∧ H2 a = some (.ins C dx fs) ∧ Cls K C ∧ NoAttr K C f ∧ fs.length < 1000 ∧
  D.nx σ (upd H2 a (.ins C dx (putF f y fs)))
section
variable {X : Cx} {o e value : Expr} {f : Str} {pos pos' tpos : Pos} {ta tv : TE}
theorem pe_fld (he : PE X e ta) (hb : attributeBase e f X.env (eval e X.env) = eval e X.env) : PE X (.Attribute e f pos) (tFld X.K ta f) := by
  intro pins s σ H Q I h
  refine attr_of hb (thn (he pins s σ H _ I h) fun u s1 ⟨x, H1, I1, rx, a, C, dx, fs, v, ex, ea, c, n, l, q⟩ => ?_)
  subst ex
  obtain rfl : u = Value.ref a := rx
  exact getattr_ok I1 ea c n l fun u' s2 I2 ru => ⟨v, H1, I2, ru, q⟩
theorem ps_fld (ha : PE X o ta) (hv : PE X value tv) (hs : swapsWith value (some (.Attribute o f pos')) pos.line X.env = pure false) : PS X (.Assign [.Attribute o f pos'] value pos) (sFld X.K ta tv f) := by
  intro pins s σ H D I h
  refine plainObj_wpAny_Assign_Attribute (thn (hv pins s σ H _ I h) fun u s1 ⟨y, H1, I1, ry, q⟩ => thn (ha pins s1 σ H1 _ I1 q) fun ov s2 ⟨x, H2, I2, rx, a, C, dx, fs, ex, ea, c, n, l, q2⟩ => ?_) hs
  subst ex
  obtain rfl : ov = Value.ref a := rx
  exact setattr_ok I2 ea c n l ry fun s3 I3 => ⟨σ, _, I3, q2⟩
end

/-! ### isinstance -/
section
variable {X : Cx} {pins : List (Addr × Obj)} {σ : St} {H : Hp} {s : Shared} {A : Around} {E : Value → Shared → Prop} {Q : Value → Shared → Prop} {c : Value} {b : Bool}
/-- the type of a value, as the fragment's deciders take it; for an instance its class -/
inductive TyOf (K : PySem.W.Frag) (H : Hp) : V → Value → Prop where
  | non : TyOf K H .non (.type "NoneType")
  | bl (x : Bool) : TyOf K H (.bl x) (.type "bool")
  | int (i : Int) : TyOf K H (.int i) (.type "int")
  | str (x : Str) : TyOf K H (.str x) (.type "str")
  | flt (x : UInt64) : TyOf K H (.flt x) (.type "float")
  | lst {a : Addr} {xs : List V} (e : H a = some (.lst xs)) : TyOf K H (.ref a) (.type "list")
  | frz {a : Addr} {o : Obj} {xs : List V} (e : H a = some (.frz o (.lst xs))) : TyOf K H (.ref a) (.type "list")
  | tup {a : Addr} {xs : List V} (e : H a = some (.tup xs)) : TyOf K H (.ref a) (.type "tuple")
  | dK {a : Addr} {kvs : List (Key × V)} (e : H a = some (.dK kvs)) : TyOf K H (.ref a) (.type "dict")
  | dT {a : Addr} {kvs : List (List Key × V)} (e : H a = some (.dT kvs)) : TyOf K H (.ref a) (.type "dict")
  | ins {a C dx : Addr} {fs : List (Str × V)} (e : H a = some (.ins C dx fs)) (cl : Cls K C) (ha : PySem.W.findIn K (.ref C) "__class__" = some (some (.builtin "object.__class__")))
      (hn : PySem.W.specialIn K (.builtin "object.__class__") "__get__" = some (some (.builtin "getset_descriptor.__get__"))) (htk : PySem.W.takesIn K (.builtin "object.__class__") = some true)
      (hm : PySem.W.mroIn K C (.type "object") = some true) : TyOf K H (.ref a) (.ref C)
/-- isinstance(x, c) for one class c, a built-in or an own one: kitOne's answer -/
theorem isinst_ok {x : V} {u t : Value} (I : Inv X pins σ H s) (rx : RelV x u) (ty : TyOf X.K H x t) (e : PySem.W.kitOne X.K t c = some b) (h : ∀ tk, Q (.bool b) { s with toks := tk }) :
    wpAny (model X.prog X.w) A (call (.builtin "isinstance") [u, c]) Q E s := by
  cases ty with
  | non => cases (show u = Value.none from rx); exact PySem.W.kia_one PySem.W.kitx_none I.kIn True.intro e (fun z => nomatch z) h
  | bl y => cases (show u = Value.bool y from rx); exact PySem.W.kia_one PySem.W.kitx_bool I.kIn True.intro e (fun z => nomatch z) h
  | int i => obtain ⟨t, q⟩ := (show ∃ t, u = Value.int i t from rx); cases q; exact PySem.W.kia_one PySem.W.kitx_int I.kIn True.intro e (fun z => nomatch z) h
  | str y => obtain ⟨t, q⟩ := (show ∃ t, u = Value.str y t from rx); cases q; exact PySem.W.kia_one PySem.W.kitx_str I.kIn True.intro e (fun z => nomatch z) h
  | flt y => obtain ⟨t, q⟩ := (show ∃ t, u = Value.float y t from rx); cases q; exact PySem.W.kia_one PySem.W.kitx_float I.kIn True.intro e (fun z => nomatch z) h
  | @lst a xs ea =>
    cases (show u = Value.ref a from rx)
    obtain ⟨_, _, n, _, h1⟩ := (show ObjOk X.prog X.w H s.heap a (.lst xs) from I.hok a _ ea)
    exact PySem.W.kia_one PySem.W.kitx_list I.kIn ⟨_, h1, rfl⟩ e (fun z => nomatch z) h
  | @frz a ob xs ea =>
    cases (show u = Value.ref a from rx)
    obtain ⟨_, _, _, n, _, h1⟩ := (show ObjOk X.prog X.w H s.heap a (.frz ob (.lst xs)) from I.hok a _ ea)
    exact PySem.W.kia_one PySem.W.kitx_list I.kIn ⟨_, h1, rfl⟩ e (fun z => nomatch z) h
  | @tup a xs ea =>
    cases (show u = Value.ref a from rx)
    obtain ⟨_, _, _, p⟩ := (show ObjOk X.prog X.w H s.heap a (.tup xs) from I.hok a _ ea)
    obtain ⟨o, h1, h2, _⟩ := p
    exact PySem.W.kia_one PySem.W.kitx_tuple I.kIn ⟨o, h1, h2⟩ e (fun z => nomatch z) h
  | @dK a kvs ea =>
    cases (show u = Value.ref a from rx)
    obtain ⟨_, _, vs, _, p⟩ := (show ObjOk X.prog X.w H s.heap a (.dK kvs) from I.hok a _ ea)
    obtain ⟨o, es, ep, h1, h2, _⟩ := p
    exact PySem.W.kia_one PySem.W.kitx_dict I.kIn ⟨o, h1, h2.1⟩ e (fun z => nomatch z) h
  | @dT a kvs ea =>
    cases (show u = Value.ref a from rx)
    obtain ⟨_, _, xs, _, o, es, ep, h1, h2, _⟩ := (show ObjOk X.prog X.w H s.heap a (.dT kvs) from I.hok a _ ea)
    exact PySem.W.kia_one PySem.W.kitx_dict I.kIn ⟨o, h1, h2.1⟩ e (fun z => nomatch z) h
  | @ins a C dx fs ea cl ha hn htk hm =>
    cases (show u = Value.ref a from rx)
    obtain ⟨mA, O, _⟩ := ins_get I.hok ea
    obtain ⟨od, J, _⟩ := O.look
    exact PySem.W.kia_one (PySem.W.kitx_own (cl.get _) cl.hd ha hn htk hm) I.kIn J e (fun z => nomatch z) h
end
end L2

namespace L2
open PySem PySem.Spec PyProof.Rows

/-! ### room -/
structure Room (k : Nat) (A : Around) : Prop where
  hd : A.handled = none
  dp : A.depth + 3 * k + 5 < recursionLimit
  un : A.units + 16 * k + 200 < cLine
theorem Room.mono {j k : Nat} {A : Around} (r : Room k A) (h : j ≤ k) : Room j A := ⟨r.hd, by have := r.dp; omega, by have := r.un; omega⟩
theorem Room.deeper {k : Nat} {A : Around} (r : Room (k + 1) A) (env : Env) : Room k (A.deeper env) :=
  ⟨r.hd, by have := r.dp; show A.depth + 1 + 3 * k + 5 < _; omega, by have := r.un; show A.units + 3 + 16 * k + 200 < _; omega⟩
theorem Room.in1 {k : Nat} {A : Around} (r : Room (k + 1) A) : Room k A.in1 :=
  ⟨r.hd, by have := r.dp; show A.depth + 3 * k + 5 < _; omega, by have := r.un; show A.units + 1 + 16 * k + 200 < _; omega⟩
theorem make_depth {A : Around} {C : Addr} {us : List Value} {kw : List (Str × Value)} : (A.under (.builtin "type.__call__" ⟨.ref C :: us, kw⟩)).depth = A.depth + 1 := by
  first | rfl | simp [Around.under, Code.weight, Code.isCreation, Code.isGuard, Code.isCaller, Code.frames, Code.isFrame, guardIds]
theorem make_units {A : Around} {C : Addr} {us : List Value} {kw : List (Str × Value)} : (A.under (.builtin "type.__call__" ⟨.ref C :: us, kw⟩)).units = A.units + 1 := by
  first | rfl | simp [Around.under, Code.cUnits, Code.frames, Code.isFrame]
theorem Room.make {k : Nat} {A : Around} (r : Room (k + 1) A) (C : Addr) (us : List Value) (kw : List (Str × Value)) : Room k (A.under (.builtin "type.__call__" ⟨.ref C :: us, kw⟩)) :=
  ⟨r.hd, by have := r.dp; rw [make_depth]; omega, by have := r.un; rw [make_units]; omega⟩
theorem Room.depth {k : Nat} {A : Around} (r : Room k A) : A.depth < recursionLimit := by have := r.dp; omega
theorem Room.units {k : Nat} {A : Around} (r : Room k A) : A.units + 64 < cLine := by have := r.un; omega
theorem Room.units0 {k : Nat} {A : Around} (r : Room k A) : A.units < cLine := by have := r.un; omega

/-! ### argument lists and displays -/
def tNil : TA := fun _ H Q => Q [] H
def tCons (ta : TE) (tr : TA) : TA := fun σ H Q => ta σ H fun x H1 => tr σ H1 fun xs H2 => Q (x :: xs) H2
section
variable {X : Cx} {e : Expr} {es : List Expr} {te : TE} {t : TA} {pos : Pos}
theorem pa_nil : PA X [] tNil := fun _ _ _ _ H Q I h => Calls.spliced_nil ⟨[], H, I, .nil, h⟩
theorem pa_cons (ha : PE X e te) (hr : PA X es t) (hs : starEach (e :: es) X.env = (false, eval e X.env) :: starEach es X.env := by rfl) : PA X (e :: es) (tCons te t) := by
  intro pos pins s σ H Q I h
  rw [hs]
  show wpAny _ _ (spliced ((false, eval e X.env) :: backTo pos (starEach es X.env))) _ _ s
  refine Calls.spliced_cons (thn (ha pins s σ H _ I h) fun u s1 ⟨x, H1, I1, r1, q1⟩ => ?_)
  exact thn (hr pos pins s1 σ H1 _ I1 q1) fun us s2 ⟨xs, H2, I2, r2, q2⟩ => ⟨x :: xs, H2, I2, .cons r1 r2, q2⟩

end

/-! ### what a def promises -/
/-- a def's promise: the bound arguments in the parameters' order, the heap, the wanted end, the wanted exception -/
abbrev Sp := List V → Hp → VK → XK → Prop
/-- how an exception lies behind a call (file 08 gives it): the callers' frames, abstract heap and state ahead of the call, the wish, the exception, the state -/
abbrev CXT := List Env → Hp → Shared → XK → Value → Shared → Prop

/-- the state at a call -/
structure Env0 (P : Program) (w : World) (K : PySem.W.Frag) (mg : Str → Option Value) (base : Heap) (A : Around) (outer : List Env) (s : Shared) (H : Hp) : Prop where
  frames : A.frames = some outer
  mod : Mod K mg base
  bs : ∀ b o, base.get? b = some o → s.heap.get? b = some o ∧ H b = none
  bsz : base.objs.size ≤ s.heap.objs.size
  funs : s.heap.FunFrames base outer
  frf : ∀ b ∈ frs outer, H b = none
  hok : HOk P w H s.heap
  bare : AllBare s.gens
/-- a call's end -/
def CE (outer : List Env) (P : Program) (w : World) (H : Hp) (s : Shared) (Q : VK) (u : Value) (s' : Shared) : Prop :=
  ∃ v H', s'.os = s.os ∧ AllBare s'.gens ∧ Un (frs outer) [] H H' s.heap s'.heap ∧ HOk P w H' s'.heap ∧ RelV v u ∧ Q v H'
def CR (CX : CXT) (outer : List Env) (P : Program) (w : World) (H : Hp) (s : Shared) (Q : VK) (E : XK) (r : Result) (s' : Shared) : Prop :=
  match r with
  | .ok (.ret u) => CE outer P w H s Q u s'
  | .ok _ => False
  | .error e => CX outer H s E e s'
structure FnOk (P : Program) (w : World) (K : PySem.W.Frag) (mg : Str → Option Value) (base : Heap) (CX : CXT) (k : Nat) (f : Addr) (fd : FuncData) (ps : List Str) (sp : Sp) : Prop where
  len : ∀ vs H Q E, sp vs H Q E → vs.length = ps.length
  run : ∀ (A : Around) (outer : List Env) (s : Shared) (H : Hp) (args : Args) (us : List Value) (vs : List V) (Q : VK) (E : XK), Room k A → Env0 P w K mg base A outer s H → BindsTo s fd args (ps.zip us) → Vals vs us → sp vs H Q E →
    codeAny (model P w) A (.call (.ref f) args) (CR CX outer P w H s Q E) s
theorem FnOk.mono {P : Program} {w : World} {K : PySem.W.Frag} {mg : Str → Option Value} {base : Heap} {CX : CXT} {j k : Nat} {f : Addr} {fd : FuncData} {ps : List Str} {sp : Sp} (F : FnOk P w K mg base CX j f fd ps sp) (h : j ≤ k) :
    FnOk P w K mg base CX k f fd ps sp := ⟨F.len, fun A outer s H args us vs Q E hr => F.run A outer s H args us vs Q E (hr.mono h)⟩
/-- a weaker promise -/
theorem FnOk.imp {P : Program} {w : World} {K : PySem.W.Frag} {mg : Str → Option Value} {base : Heap} {CX : CXT} {k : Nat} {f : Addr} {fd : FuncData} {ps : List Str} {sp sp' : Sp} (F : FnOk P w K mg base CX k f fd ps sp)
    (h : ∀ vs H Q E, sp' vs H Q E → sp vs H Q E) : FnOk P w K mg base CX k f fd ps sp' :=
  ⟨fun vs H Q E q => F.len vs H Q E (h _ _ _ _ q), fun A outer s H args us vs Q E hr he hb hv hs => F.run A outer s H args us vs Q E hr he hb hv (h _ _ _ _ hs)⟩

theorem Env0.make {P : Program} {w : World} {K : PySem.W.Frag} {mg : Str → Option Value} {base : Heap} {A : Around} {outer : List Env} {s : Shared} {H : Hp} (e : Env0 P w K mg base A outer s H) (C : Addr) (us : List Value) (kw : List (Str × Value)) :
    Env0 P w K mg base (A.under (.builtin "type.__call__" ⟨.ref C :: us, kw⟩)) outer s H := ⟨by first | exact e.frames | (simpa [Around.under, Code.envs, Code.isFrame, pushEnvs] using e.frames), e.mod, e.bs, e.bsz, e.funs, e.frf, e.hok, e.bare⟩
theorem Env0.in1 {P : Program} {w : World} {K : PySem.W.Frag} {mg : Str → Option Value} {base : Heap} {A : Around} {outer : List Env} {s : Shared} {H : Hp} (e : Env0 P w K mg base A outer s H) :
    Env0 P w K mg base A.in1 outer s H := ⟨e.frames, e.mod, e.bs, e.bsz, e.funs, e.frf, e.hok, e.bare⟩

section
variable {X : Cx} {pins : List (Addr × Obj)} {σ : St} {H : Hp} {s s' : Shared}
/-- from a body: what a callee wants -/
theorem Inv.env0 (I : Inv X pins σ H s) : Env0 X.prog X.w X.K X.mg X.base X.A X.stack s H :=
  ⟨I.ok.frames, I.ok.mod, I.bs, Nat.le_trans I.ok.bsz I.sz, I.stack, I.stkFree, I.hok, I.bare⟩
/-- behind a call -/
theorem Inv.after {Q : VK} {u : Value} (I : Inv X pins σ H s) (h : CE X.stack X.prog X.w H s Q u s') : EP X pins σ Q u s' := by
  obtain ⟨v, H', os, bare, un, hok, r, q⟩ := h
  obtain ⟨hh, g, d, t, os'⟩ := s'
  obtain rfl : os' = s.os := os
  exact ⟨v, H', I.call (h' := hh) (g' := g) (d' := d) (t' := t) (ch := []) un hok bare (fun b z => absurd z (by simp)), r, q⟩
end

/-! ### calls -/
/-- f(..): the written arguments, then the defaults dvs; E: what is wanted of an exception -/
def tCall (sp : Sp) (dvs : List V) (E : XK) (t : TA) : TE := fun σ H Q => t σ H fun vs H1 => sp (vs ++ dvs) H1 Q E
/-- o.m(..) of an instance of the class at C -/
def tMeth (C : Addr) (m : Str) (sp : Sp) (dvs : List V) (E : XK) (ta : TE) (t : TA) : TE := fun σ H Q => ta σ H fun x H1 => ∃ a dx fs, x = .ref a ∧ H1 a = some (.ins C dx fs) ∧ fs.lookup m = none ∧
  t σ H1 fun vs H2 => sp (x :: (vs ++ dvs)) H2 Q E
/-- C(..): a new instance and its dict, then __init__ -/
def tMake (C : Addr) (sp : Sp) (dvs : List V) (E : XK) (t : TA) : TE := fun σ H Q => t σ H fun vs H1 => ∀ x dx, H1 x = none → H1 dx = none → dx ≠ x →
  sp (.ref x :: (vs ++ dvs)) (upd (upd H1 dx (.own x)) x (.ins C dx [])) (fun v H2 => v = .non ∧ Q (.ref x) H2) E

/-- how the parameters are bound: us the positional arguments, kw the keywords' values by name, ds the defaults that fill up -/
def Binds (K : PySem.W.Frag) (fd : FuncData) (ps : List Str) (ds : List Value) : Prop :=
  ∀ (s : Shared) (us : List Value), K.In s.heap → (us ++ ds).length = ps.length → BindsTo s fd ⟨us, []⟩ (ps.zip (us ++ ds))
/-- every parameter is given -/
theorem Binds.all {K : PySem.W.Frag} {fd : FuncData} {ps : List Str} (h : ∀ us : List Value, us.length = ps.length → bindArgs fd ⟨us, []⟩ = pure (ps.zip us)) : Binds K fd ps [] := fun s us _ hl => by
  rw [List.append_nil] at hl ⊢
  exact .of_eq (h us hl)

/-- an exception of a callee reaches what this body wants of exceptions -/
def Passes (CX : CXT) (X : Cx) (E : XK) : Prop := ∀ (pins : List (Addr × Obj)) (σ : St) (H : Hp) (s : Shared) (e : Value) (s' : Shared), Inv X pins σ H s → CX X.stack H s E e s' → X.xe e s'

section
variable {X : Cx} {CX : CXT} {k : Nat} {f C : Addr} {fd : FuncData} {ps : List Str} {sp : Sp} {dvs : List V} {ds : List Value} {E : XK} {x m : Str} {p pos apos : Pos} {e o : Expr} {es : List Expr} {ta : TE} {t : TA}

/-- the callee runs -/
theorem run_fn {pins : List (Addr × Obj)} {σ : St} {H : Hp} {s : Shared} {Q : VK} {us : List Value} {vs : List V} (F : FnOk X.prog X.w X.K X.mg X.base CX k f fd ps sp) (hr : Room k X.A) (hb : Binds X.K fd ps ds) (hd : Vals dvs ds) (hx : Passes CX X E)
    (I : Inv X pins σ H s) (r : Vals vs us) (h : sp (vs ++ dvs) H Q E) : wpAny (model X.prog X.w) X.A (call (.ref f) us) (EP X pins σ Q) X.xe s := by
  have r2 : Vals (vs ++ dvs) (us ++ ds) := r.append hd
  have hl : (us ++ ds).length = ps.length := by rw [← r2.length]; exact F.len _ _ _ _ h
  refine wpAny_call (codeAny_mono (F.run X.A X.stack s H ⟨us, []⟩ (us ++ ds) (vs ++ dvs) Q E hr I.env0 (hb s us I.kIn hl) r2 h) fun r s' hq => ?_)
  cases r with
  | error e => exact hx pins σ H s e s' I hq
  | ok fl =>
    cases fl with
    | ret u => exact I.after hq
    | next => exact False.elim hq
    | brk => exact False.elim hq
    | cont => exact False.elim hq

theorem pe_call (F : FnOk X.prog X.w X.K X.mg X.base CX k f fd ps sp) (hr : Room k X.A) (hg : Gl X x) (hm : X.mg x = some (.ref f)) (hk : PySem.W.keepIn X.K (.ref f) = true) (hb : Binds X.K fd ps ds) (hd : Vals dvs ds) (hx : Passes CX X E)
    (ha : PA X (e :: es) t) (hdb : (x == ("__debug__" : Str)) = false := by decide) (he : starEach (e :: es) X.env = (false, eval e X.env) :: starEach es X.env := by rfl) (hpl : (backTo pos (starEach es X.env)).any (·.1) = false := by rfl) :
    PE X (.Call (.Name x p) (e :: es) [] pos) (tCall sp dvs E t) := by
  intro pins s σ H Q I h
  refine wpAny_Call_Name_kw (ld_glob I hg hm ?_ hdb)
  refine PySem.W.callWith_K (h₀ := X.base) I.ok.mod.kin hk (thn (ha pos pins s σ H _ I h) fun us s1 ⟨vs, H1, I1, r, q⟩ => ⟨I1.kIn, ?_⟩) he hpl
  exact run_fn F hr hb hd hx I1 r q
/-- o.m() -/
theorem pe_meth0 {pl : Sem Bool} (he : PE X o ta) (c : Cls X.K C) (hm : Meth X.K C m f) (F : FnOk X.prog X.w X.K X.mg X.base CX k f fd ps sp) (hr : Room k X.A) (hb : Binds X.K fd ps ds) (hd : Vals dvs ds) (hx : Passes CX X E)
    (ht : eval (.Call (.Attribute o m apos) [] [] pos) X.env = (do
      let ov ← eval o X.env
      standAt apos.atName
      let (f, first) ← holding [ov] (getMethod ov m pl)
      callWith pos f first (backTo pos (starEach [] X.env)) (backToKw pos (keywordEach [] X.env))) := by rfl) :
    PE X (.Call (.Attribute o m apos) [] [] pos) (tMeth C m sp dvs E ta tNil) := by
  intro pins s σ H Q I h
  refine PySem.W.methodCall_KW (pl := pl) (thn (he pins s σ H _ I h) fun u s1 ⟨x, H1, I1, rx, a, dx, fs, ex, ea, l, q⟩ => ?_) ht
  subst ex
  obtain rfl : u = Value.ref a := rx
  refine getmeth_ok I1 ea c hm l ?_
  exact PySem.W.callWith_K0 (first := [.ref a]) I1.kIn hm.kp (run_fn (us := [.ref a]) (vs := [.ref a]) F hr hb hd hx I1 (.cons rfl .nil) q)

/-- what a class must have to be made -/
structure Mk (K : PySem.W.Frag) (C f : Addr) : Prop where
  makes : PySem.W.makesIn K C = true
  init : PySem.W.findIn K (.ref C) "__init__" = some (some (.ref f))
  fn : PySem.W.isFn K (.ref f) = true
  kp : PySem.W.keepIn K (.ref C) = true

theorem run_make {pins : List (Addr × Obj)} {σ : St} {H : Hp} {s : Shared} {Q : VK} {us : List Value} {vs : List V} (M : Mk X.K C f) (F : FnOk X.prog X.w X.K X.mg X.base CX k f fd ps sp) (hr : Room (k + 1) X.A) (hb : Binds X.K fd ps ds) (hd : Vals dvs ds)
    (hx : Passes CX X E) (I : Inv X pins σ H s) (r : Vals vs us)
    (h : ∀ x dx, H x = none → H dx = none → dx ≠ x → sp (.ref x :: (vs ++ dvs)) (upd (upd H dx (.own x)) x (.ins C dx [])) (fun v H2 => v = .non ∧ Q (.ref x) H2) E) :
    wpAny (model X.prog X.w) X.A (call (.ref C) us) (EP X pins σ Q) X.xe s := by
  have hq := h (s.heap.objs.size + 1) s.heap.objs.size (I.hok.fresh (Nat.le_succ _)) (I.hok.fresh (Nat.le_refl _)) (Nat.ne_of_lt (Nat.lt_succ_self _))
  have I2 := Inv.made (C := C) I
  have r2 : Vals (V.ref (s.heap.objs.size + 1) :: (vs ++ dvs)) (Value.ref (s.heap.objs.size + 1) :: (us ++ ds)) := .cons rfl (r.append hd)
  have hl : (Value.ref (s.heap.objs.size + 1) :: us ++ ds).length = ps.length := by
    have e := r2.length
    rw [F.len _ _ _ _ hq] at e
    exact e.symm
  refine wpAny_call (make_map (f := f) I.kIn M.makes M.init (beq_iff_eq.mp M.fn) (codeAny_mono (F.run _ X.stack _ _ ⟨Value.ref (s.heap.objs.size + 1) :: us, []⟩ (Value.ref (s.heap.objs.size + 1) :: (us ++ ds)) _ _ E (hr.make C us [])
    (I2.env0.make C us []) (hb _ (Value.ref (s.heap.objs.size + 1) :: us) I2.kIn hl) r2 hq) fun r s' hq' => ?_))
  cases r with
  | error e => exact hx pins σ _ _ e s' I2 hq'
  | ok fl =>
    cases fl with
    | ret u =>
      obtain ⟨v, H', I3, rv, ev, q3⟩ := I2.after hq'
      subst ev
      exact ⟨rv, ⟨V.ref (s.heap.objs.size + 1), H', I3, rfl, q3⟩⟩
    | next => exact False.elim hq'
    | brk => exact False.elim hq'
    | cont => exact False.elim hq'
theorem pe_make (M : Mk X.K C f) (F : FnOk X.prog X.w X.K X.mg X.base CX k f fd ps sp) (hr : Room (k + 1) X.A) (hg : Gl X x) (hm : X.mg x = some (.ref C)) (hb : Binds X.K fd ps ds) (hd : Vals dvs ds) (hx : Passes CX X E)
    (ha : PA X (e :: es) t) (hdb : (x == ("__debug__" : Str)) = false := by decide) (he : starEach (e :: es) X.env = (false, eval e X.env) :: starEach es X.env := by rfl) (hpl : (backTo pos (starEach es X.env)).any (·.1) = false := by rfl) :
    PE X (.Call (.Name x p) (e :: es) [] pos) (tMake C sp dvs E t) := by
  intro pins s σ H Q I h
  refine wpAny_Call_Name_kw (ld_glob I hg hm ?_ hdb)
  refine PySem.W.callWith_K (h₀ := X.base) I.ok.mod.kin M.kp (thn (ha pos pins s σ H _ I h) fun us s1 ⟨vs, H1, I1, r, q⟩ => ⟨I1.kIn, ?_⟩) he hpl
  exact run_make M F hr hb hd hx I1 r q
end

/-! ### keywords -/
section
variable {X : Cx} {CX : CXT} {k : Nat} {f C : Addr} {fd : FuncData} {ps ks : List Str} {sp : Sp} {E : XK} {x m : Str} {p pos apos kpos : Pos} {e o : Expr} {es : List Expr} {kws : List Keyword} {te ta : TE} {t tk : TA} {nm : Option Str}
variable {g : List Value → List Value → List Value} {gV : List V → List V → List V}
end

/-! ### a def's body keeps its promise -/
/-- names: the parameters first -/
structure FnScope (N P : List Str) (sc : Scope) : Prop where
  kind : sc.kind = .function
  co : sc.isCoroutine = false
  gen : sc.isGenerator = false
  nd : N.Nodup
  pre : N.take P.length = P
  par : ∀ x ∈ P, sc.names.lookup x = some .local ∨ sc.names.lookup x = some .cell
  nofree : ∀ y ∈ sc.names, y.2 ≠ .free

theorem bindL_out {kindOf : Str → Option NameKind} {x : Str} : ∀ {binds : List (Str × Value)} {m : Str → Option Value}, (∀ v, (x, v) ∉ binds) → bindL kindOf binds m x = m x
  | [], _, _ => rfl
  | (n, v) :: r, m, h => by
    unfold bindL
    rw [bindL_out fun w hw => h w (List.mem_cons_of_mem _ hw)]
    split
    · have : x ≠ n := by rintro rfl; exact h v List.mem_cons_self
      simp [this]
    · rfl
theorem bindC_out {kindOf : Str → Option NameKind} {x : Str} : ∀ {binds : List (Str × Value)} {m : Str → Option Value}, (∀ v, (x, v) ∉ binds) → bindC kindOf binds m x = m x
  | [], _, _ => rfl
  | (n, v) :: r, m, h => by
    unfold bindC
    rw [bindC_out fun w hw => h w (List.mem_cons_of_mem _ hw)]
    split
    · rfl
    · have : x ≠ n := by rintro rfl; exact h v List.mem_cons_self
      simp [this]
theorem bindL_get {kindOf : Str → Option NameKind} {x : Str} {v : Value} : ∀ {P : List Str} {vs : List Value} {i : Nat} {m : Str → Option Value}, P.Nodup → P[i]? = some x → vs[i]? = some v → kindOf x = some .local →
    bindL kindOf (P.zip vs) m x = some v
  | [], _, _, _, _, h, _, _ => by simp at h
  | _ :: _, [], _, _, _, _, h, _ => by simp at h
  | p :: P, w :: vs, 0, m, nd, h1, h2, hk => by
    simp at h1 h2; subst h1; subst h2
    show bindL kindOf ((p, w) :: P.zip vs) m p = _
    unfold bindL
    rw [bindL_out fun v hv => (List.nodup_cons.mp nd).1 (List.of_mem_zip hv).1, if_pos hk]
    simp
  | p :: P, w :: vs, i + 1, m, nd, h1, h2, hk => by
    show bindL kindOf ((p, w) :: P.zip vs) m x = _
    unfold bindL
    exact bindL_get (i := i) (List.nodup_cons.mp nd).2 (by simpa using h1) (by simpa using h2) hk
theorem bindC_get {kindOf : Str → Option NameKind} {x : Str} {v : Value} : ∀ {P : List Str} {vs : List Value} {i : Nat} {m : Str → Option Value}, P.Nodup → P[i]? = some x → vs[i]? = some v → kindOf x ≠ some .local →
    bindC kindOf (P.zip vs) m x = some v
  | [], _, _, _, _, h, _, _ => by simp at h
  | _ :: _, [], _, _, _, _, h, _ => by simp at h
  | p :: P, w :: vs, 0, m, nd, h1, h2, hk => by
    simp at h1 h2; subst h1; subst h2
    show bindC kindOf ((p, w) :: P.zip vs) m p = _
    unfold bindC
    rw [bindC_out fun v hv => (List.nodup_cons.mp nd).1 (List.of_mem_zip hv).1, if_neg hk]
    simp
  | p :: P, w :: vs, i + 1, m, nd, h1, h2, hk => by
    show bindC kindOf ((p, w) :: P.zip vs) m x = _
    unfold bindC
    exact bindC_get (i := i) (List.nodup_cons.mp nd).2 (by simpa using h1) (by simpa using h2) hk

/-- the names' values at the entry -/
def start (N : List Str) (vs : List V) : St := vs.map some ++ List.replicate (N.length - vs.length) none

/-- the context of a def's body, at its entry; an exception leaves the frame, then lies as CX says -/
def cxOf (CX : CXT) (P : Program) (w : World) (K : PySem.W.Frag) (mg : Str → Option Value) (base : Heap) (N : List Str) (qual : Str) (scope : Scope) (f : Addr) (cd : Value) (A : Around) (outer : List Env) (s : Shared) (H : Hp) (E : XK) : Cx where
  prog := P
  w := w
  K := K
  mg := mg
  base := base
  A := A.deeper (envOfC qual scope s.heap.objs.size f cd)
  N := N
  s₀ := s
  H₀ := H
  env := envOfC qual scope s.heap.objs.size f cd
  outer := outer
  stack := envOfC qual scope s.heap.objs.size f cd :: outer
  ex := []
  calm := true
  fn := fun _ => true
  pn := []
  xe := fun e s' => wpAny (model P w) (A.deeper (envOfC qual scope s.heap.objs.size f cd)) (leaving (envOfC qual scope s.heap.objs.size f cd) e) (fun _ s'' => CX outer H s E e s'') (fun e' s'' => CX outer H s E e' s'') s'

theorem cell_has {sc : Scope} {n : Nat} {x : Str} (h : sc.names.lookup x = some .cell) : ∃ c, (cellsFrom n sc.names []).lookup x = some c := by
  have q := PySem.W.cellsFrom_some sc.names n [] (.inl h)
  exact Option.isSome_iff_exists.mp q

theorem inv_start {CX : CXT} {P : Program} {w : World} {K : PySem.W.Frag} {mg : Str → Option Value} {base : Heap} {N ps : List Str} {qual : Str} {scope : Scope} {f : Addr} {cd : Value} {A : Around} {outer : List Env} {s s1 : Shared} {H : Hp} {E : XK} {us : List Value} {vs : List V}
    (S : FnScope N ps scope) (hd : A.handled = none) (e0 : Env0 P w K mg base A outer s H) (hl : vs.length = ps.length) (r : Vals vs us)
    (x : InCallC s s.heap.objs.size (bindL (envOfC qual scope s.heap.objs.size f cd).kindOf (ps.zip us) fun _ => none) (cellsFrom (s.heap.objs.size + 1) scope.names []) (bindC (envOfC qual scope s.heap.objs.size f cd).kindOf (ps.zip us) fun _ => none) s1) :
    Inv (cxOf CX P w K mg base N qual scope f cd A outer s H E) [] (start N vs) H s1 := by
  have hpl : ps.length ≤ N.length := by have := congrArg List.length S.pre; rw [List.length_take] at this; omega
  obtain ⟨h1, tk, rfl, hk⟩ := x.done
  have noA : ∀ b : Addr, b ∉ (cxOf CX P w K mg base N qual scope f cd A outer s H E).ex := fun b z => absurd (show b ∈ ([] : List Addr) from z) (by simp)
  refine ⟨⟨e0.mod, S.kind, rfl, rfl, Nat.le_refl _, fun y z c h1 h2 => ?_, fun y hy => ?_, fun y c _ h => ?_, fun _ => hd, Around.frames_deeper e0.frames, .inr ⟨rfl, rfl⟩, fun b z => absurd z (noA b), e0.bs, e0.bsz, fun b _ _ => noA b, fun b z => absurd z (noA b), e0.funs, e0.frf⟩,
    rfl, e0.bare, Un.kept hk, ⟨_, x.toInCall.ns, fun i y v h1 h2 h3 => ?_⟩, fun y c h => ⟨_, x.cell y c h⟩, e0.hok.fresh (Nat.le_refl _), fun y c h => ?_, fun p hp => absurd (show p ∈ ([] : List (Addr × Obj)) from hp) (by simp), e0.hok.kept hk, ?_⟩
  · exact name_of_addr x.apart (PySem.mem_of_lookup h1) (PySem.mem_of_lookup h2)
  · have hy : scope.names.lookup y = some .cell ∨ scope.names.lookup y = some .free := hy
    rcases hy with hy | hy
    · exact cell_has hy
    · exact absurd rfl (S.nofree _ (PySem.mem_of_lookup hy))
  · exact Nat.le_of_lt (x.above y c (PySem.mem_of_lookup h))
  · have hi : i < vs.length := by
      unfold start at h2
      by_cases hi : i < vs.length
      · exact hi
      · rw [List.getElem?_append_right (by simpa using hi)] at h2
        rw [List.getElem?_replicate] at h2
        split at h2 <;> cases h2
    have ha : vs[i]? = some v := by
      unfold start at h2
      rw [List.getElem?_append_left (by simpa using hi), List.getElem?_map] at h2
      cases e : vs[i]? with
      | none => rw [e] at h2; cases h2
      | some a => rw [e] at h2; cases h2; rfl
    obtain ⟨u, hu, rv⟩ := r.get ha
    have hp : ps[i]? = some y := by
      rw [← S.pre, List.getElem?_take_of_lt (by omega)]; exact h1
    have ndP : ps.Nodup := by rw [← S.pre]; exact S.nd.sublist (List.take_sublist _ _)
    refine ⟨u, rv, ?_⟩
    rcases S.par y (List.mem_of_getElem? hp) with k | k
    · exact .inl ⟨k, bindL_get ndP hp hu k⟩
    · obtain ⟨c, e⟩ := cell_has (n := s.heap.objs.size + 1) k
      refine .inr ⟨.inl k, c, e, ?_⟩
      have q := x.cell y c e
      rw [bindC_get ndP hp hu (by show scope.names.lookup y ≠ _; rw [k]; decide)] at q
      exact q
  · exact e0.hok.fresh (Nat.le_of_lt (x.above y c (PySem.mem_of_lookup h)))
  · unfold start
    show _ = N.length
    rw [List.length_append, List.length_map, List.length_replicate]
    omega

/-- THE RULE: a def (or a method) of the text, by its body. The body's reading t is chosen for each entry; it is run at the parameters' values -/
theorem fn_of {CX : CXT} {P : Program} {w : World} {K : PySem.W.Frag} {mg : Str → Option Value} {base : Heap} {k : Nat} {f : Addr} {name qual : Str} {params : Arguments} {body : List Stmt} {scope : Scope} {dV kV doc pm cdv ct oc : Value} {an od : Option Addr}
    {osl : Array (Option Value)} {N ps : List Str} {sp : Sp} (lk : K.lookup f = some ⟨oc, od, .func (PySem.W.fnOf name qual params body scope dV kV doc pm an cdv ct), osl⟩) (hcd : PySem.W.codeIn K cdv qual = true) (S : FnScope N ps scope)
    (len : ∀ vs H Q E, sp vs H Q E → vs.length = ps.length)
    (hbody : ∀ (A : Around) (outer : List Env) (s : Shared) (H : Hp) (vs : List V) (Q : VK) (E : XK), Room k (A.deeper (envOfC qual scope s.heap.objs.size f cdv)) → sp vs H Q E →
      ∃ t, PSs (cxOf CX P w K mg base N qual scope f cdv A outer s H E) body t ∧ t { nx := fun _ H' => Q .non H', rt := Q } (start N vs) H) :
    FnOk P w K mg base CX (k + 1) f (PySem.W.fnOf name qual params body scope dV kV doc pm an cdv ct) ps sp := by
  refine ⟨len, fun A outer s H args us vs Q E hr e0 hb r hsp => ?_⟩
  have hl := len _ _ _ _ hsp
  have KX : K.In s.heap := e0.mod.kin.keeps fun b o e => (e0.bs b o e).1
  have lim : s.heap.NoLimit := e0.mod.nolimit.keeps fun b o e => (e0.bs b o e).1
  have hkind : ∀ y ∈ ps.zip us, scope.names.lookup y.1 = some .local ∨ (scope.names.lookup y.1 = some .cell ∧ ((cellsFrom (s.heap.objs.size + 1) scope.names []).lookup y.1).isSome = true) := fun ⟨n, v⟩ hy => by
    rcases S.par n (List.of_mem_zip hy).1 with q | q
    · exact .inl q
    · exact .inr ⟨q, PySem.W.cellsFrom_some _ _ _ (.inl q)⟩
  refine codeAny_call_function hr.depth (KX _ _ lk) rfl S.co S.gen rfl (PySem.W.codeRec_of KX hcd) (hb _ _ _ _ ?_)
  refine wpAny_newFunctionEnv_cells S.kind hkind fun env he s1 x => ?_
  subst he
  refine ⟨lim.keeps x.toInCall.keep, codeAny_func ?_⟩
  obtain ⟨t, ht, hq⟩ := hbody A outer s H vs Q E (hr.deeper _) hsp
  have I : Inv (cxOf CX P w K mg base N qual scope f cdv A outer s H E) [] (start N vs) H s1 := inv_start S hr.hd e0 hl r x
  refine wpAny_mono (ht [] s1 (start N vs) H _ I hq) (fun fl s' hs => ?_) fun e s' hs => hs
  have fin : ∀ {σ' : St} {H' : Hp} {v : V} {u : Value}, Inv (cxOf CX P w K mg base N qual scope f cdv A outer s H E) [] σ' H' s' → RelV v u → Q v H' → CE outer P w H s Q u s' :=
    fun {σ' H' v u} J rv q => ⟨v, H', J.os, J.bare, J.base, J.hok, rv, q⟩
  cases fl with
  | ret u =>
    obtain ⟨v, σ', H', J, rv, q⟩ := hs
    exact fin J rv q
  | next =>
    obtain ⟨σ', H', J, q⟩ := hs
    exact fin (v := V.non) (u := Value.none) J rfl q
  | brk =>
    obtain ⟨_, _, _, q⟩ := hs
    exact False.elim q
  | cont =>
    obtain ⟨_, _, _, q⟩ := hs
    exact False.elim q
end L2

namespace L2
open PySem PySem.Spec PyProof.Rows
section
variable {X : Cx} {x : Str} {p pos : Pos} {e : Expr} {es : List Expr} {t : TA} {id T : String} {r : List V → Hp → VK → Prop}

def tCB (r : List V → Hp → VK → Prop) (t : TA) : TE := fun σ H Q => t σ H fun vs H1 => r vs H1 Q
/-- f(e, ..), f a built-in function -/
theorem pe_callB (hc : CallR X (.builtin id) r) (hg : Gl X x) (hm : X.mg x = none) (hv : bootBuiltins x = some (.builtin id)) (ha : PA X (e :: es) t) (hn : x ≠ "__name__" := by decide) (hdb : (x == ("__debug__" : Str)) = false := by decide)
    (he : starEach (e :: es) X.env = (false, eval e X.env) :: starEach es X.env := by rfl) (hpl : (backTo pos (starEach es X.env)).any (·.1) = false := by rfl) : PE X (.Call (.Name x p) (e :: es) [] pos) (tCB r t) := by
  intro pins s σ H Q I h
  refine wpAny_Call_Name_kw (ld_blt I hg hm hv ?_ hn hdb)
  exact PyProof.Rows.callWith_builtin1 (thn (ha pos pins s σ H _ I h) fun us s1 ⟨vs, H1, I1, r1, q1⟩ => hc pins s1 σ H1 vs us Q I1 r1 q1) he hpl
/-- T(e, ..), T a built-in type -/
theorem pe_callTy (hc : CallR X (.type T) r) (hg : Gl X x) (hm : X.mg x = none) (hv : bootBuiltins x = some (.type T)) (ha : PA X (e :: es) t) (hn : x ≠ "__name__" := by decide) (hdb : (x == ("__debug__" : Str)) = false := by decide)
    (he : starEach (e :: es) X.env = (false, eval e X.env) :: starEach es X.env := by rfl) (hpl : (backTo pos (starEach es X.env)).any (·.1) = false := by rfl) : PE X (.Call (.Name x p) (e :: es) [] pos) (tCB r t) := by
  intro pins s σ H Q I h
  refine wpAny_Call_Name_kw (ld_blt I hg hm hv ?_ hn hdb)
  exact PyProof.Rows.callWith_type1 (thn (ha pos pins s σ H _ I h) fun us s1 ⟨vs, H1, I1, r1, q1⟩ => hc pins s1 σ H1 vs us Q I1 r1 q1) he hpl
end
end L2

namespace HT
open PySem PyProof.Rows

section
open PySem.SeqAt
open PySem.AutoSeq1 (wpAny_loadPart')
open PySem.MeetsSeq PySem.MeetsSeq2 PySem.MeetsSeq3

end

section
variable {prog : Program} {w : World} {A : Around} {E : Value → Shared → Prop} {s : Shared}

/-! ### t[a:b], not the whole -/
/-- a slice's bound as a place among n (d where it is left out) -/
def sIx (n d : Nat) : Option Int → Nat
  | none => d
  | some v => if v < 0 then (v + (n : Int)).toNat else min v.toNat n
theorem sIx_nat (n d k : Nat) : sIx n d (some (k : Int)) = min k n := by
  show (if (k : Int) < 0 then ((k : Int) + (n : Int)).toNat else min (k : Int).toNat n) = min k n
  rw [if_neg (by omega), Int.toNat_natCast]
end
end HT

namespace L2
open PySem PySem.Spec PyProof.Rows

/-! ### the parts of a slice -/
abbrev TO := St → Hp → (Option Int → Hp → Prop) → Prop
/-- a slice's part (left out, or an int) -/
def PO (X : Cx) (e : Option Expr) (t : TO) : Prop :=
  ∀ (pins : List (Addr × Obj)) (s : Shared) (σ : St) (H : Hp) (Q : Option Int → Hp → Prop), Inv X pins σ H s → t σ H Q →
    wpAny (model X.prog X.w) X.A (evalPart e X.env) (fun u s' => ∃ o H', Inv X pins σ H' s' ∧ IsPart u o ∧ Q o H') X.xe s
def tNoPart : TO := fun _ H Q => Q none H
def tPart (t : TE) : TO := fun σ H Q => t σ H fun x H1 => ∃ i, x = .int i ∧ Q (some i) H1

theorem intsAre_of {ns : List Int} : ∀ {us : List Value}, Vals (ns.map V.int) us → IntsAre us ns := by
  induction ns with
  | nil => intro us r; rw [List.map_nil] at r; cases r; exact .nil
  | cons n ns ih =>
    intro us r
    rw [List.map_cons] at r
    cases r with
    | cons r1 r2 =>
      obtain ⟨t, e⟩ := r1
      subst e
      exact .cons n t (ih r2)

section
variable {X : Cx} {e : Expr} {te : TE} {lo hi : Option Expr} {tl th : TO} {pos p2 : Pos}

theorem po_none : PO X none tNoPart := by
  intro pins s σ H Q I h
  rw [evalPart_none]
  exact wpAny_pure ⟨none, H, I, .none, h⟩
theorem po_some (h : PE X e te) : PO X (some e) (tPart te) := by
  intro pins s σ H Q I hw
  rw [evalPart_some]
  refine thn (h pins s σ H _ I hw) fun u s1 ⟨x, H1, I1, r1, q1⟩ => ?_
  obtain ⟨i, rfl, q⟩ := q1
  obtain ⟨t, rfl⟩ := r1
  exact ⟨some i, H1, I1, .int i t, q⟩

/-- what a slice of a value is, by values: the slice object stands at sl -/
def SlR (X : Cx) (r : V → Option Int → Option Int → Hp → VK → Prop) : Prop :=
  ∀ (pins : List (Addr × Obj)) (s : Shared) (σ : St) (H : Hp) (x : V) (v vl vu : Value) (lo hi : Option Int) (sl : Addr) (Q : VK), Inv X pins σ H s → RelV x v → s.heap.IsSliceOf sl vl vu .none → IsPart vl lo → IsPart vu hi → r x lo hi H Q →
    ∃ T id, typeLookup (.type T) "__getitem__" = pure (some (.builtin id)) ∧ s.TypeIs v T ∧ wpAny (model X.prog X.w) X.A (getItem v (.ref sl)) (EP X pins σ Q) X.xe s
theorem SlR.or {r r' : V → Option Int → Option Int → Hp → VK → Prop} (h : SlR X r) (h' : SlR X r') : SlR X (fun x lo hi H Q => r x lo hi H Q ∨ r' x lo hi H Q) := by
  intro pins s σ H x v vl vu lo hi sl Q I rx hs pl pu q
  rcases q with q | q
  · exact h pins s σ H x v vl vu lo hi sl Q I rx hs pl pu q
  · exact h' pins s σ H x v vl vu lo hi sl Q I rx hs pl pu q
def tSl (r : V → Option Int → Option Int → Hp → VK → Prop) (te : TE) (tl th : TO) : TE := fun σ H Q => te σ H fun x H1 => tl σ H1 fun l H2 => th σ H2 fun u H3 => r x l u H3 Q
/-- a[lo:hi], any a -/
theorem pe_slice {r : V → Option Int → Option Int → Hp → VK → Prop} (hr : SlR X r) (he : PE X e te) (hl : PO X lo tl) (hu : PO X hi th) : PE X (.Subscript e (.Slice lo hi none p2) pos) (tSl r te tl th) := by
  intro pins s σ H Q I h
  refine Subscript_ (thn (he pins s σ H _ I h) fun v s1 ⟨x, H1, I1, r1, q1⟩ => ?_)
  refine wpAny_Slice (thn (hl pins s1 σ H1 _ I1 q1) fun vl s2 ⟨l, H2, I2, pl, q2⟩ => thn (hu pins s2 σ H2 _ I2 q2) fun vu s3 ⟨u, H3, I3, pu, q3⟩ => ?_)
  rw [evalPart_none]
  refine wpAny_pure ?_
  have I4 : Inv X pins σ H3 { s3 with heap := s3.heap.push { cls := .type "slice", data := .fields #[vl, vu, .none] } } := I3.kept (t' := s3.toks) fun b ob q => Heap.get?_push_of_some _ q
  obtain ⟨T, id, hT, ht, hg⟩ := hr pins { s3 with heap := s3.heap.push { cls := .type "slice", data := .fields #[vl, vu, .none] } } σ H3 x v vl vu l u s3.heap.objs.size Q I4 r1 (Heap.IsSliceOf.new ..) pl pu q3
  show wpAny (model X.prog X.w) X.A (subscriptTail e (.Slice lo hi none p2) v (.ref s3.heap.objs.size)) (EP X pins σ Q) X.xe { s3 with heap := s3.heap.push { cls := .type "slice", data := .fields #[vl, vu, .none] } }
  exact tail_any (ops := [.ref s3.heap.objs.size, v]) ht hT hg (by with_unfolding_all rfl)

/-- the items of xs[lo:hi] -/
def cutV (xs : List V) (lo hi : Option Int) : List V := (xs.drop (HT.sIx xs.length 0 lo)).take (HT.sIx xs.length xs.length hi - HT.sIx xs.length 0 lo)
theorem cutV_length (xs : List V) (lo hi : Option Int) : (cutV xs lo hi).length ≤ xs.length := by
  unfold cutV
  rw [List.length_take, List.length_drop]
  omega
/-! ### t < u, t + u -/
end
end L2

namespace L2
open PySem PySem.Spec PyProof.Rows

/-! ### places -/
/-- the place that an index of any sign means -/
def ixN (n : Nat) (i : Int) : Option Nat := if 0 ≤ i then (if i < n then some i.toNat else none) else if -(n : Int) ≤ i then some (i + n).toNat else none
def atI {α : Type} (xs : List α) (i : Int) : Option α := (ixN xs.length i).bind fun j => xs[j]?
theorem ixN_seq {n : Nat} {i : Int} {j : Nat} (h : ixN n i = some j) : seqIndex? i n = some j ∧ j < n ∧ -(n : Int) ≤ i ∧ i < n := by
  unfold ixN at h
  by_cases h0 : 0 ≤ i
  · rw [if_pos h0] at h
    by_cases h1 : i < n
    · rw [if_pos h1] at h
      have e : i.toNat = j := Option.some.inj h
      exact ⟨by rw [seqIndex_of h0 h1, e], by omega, by omega, h1⟩
    · rw [if_neg h1] at h; cases h
  · rw [if_neg h0] at h
    by_cases h1 : -(n : Int) ≤ i
    · rw [if_pos h1] at h
      have e : (i + n).toNat = j := Option.some.inj h
      exact ⟨by rw [seqIndex_neg (by omega) h1, e], by omega, h1, by omega⟩
    · rw [if_neg h1] at h; cases h
theorem atI_get {α : Type} {xs : List α} {i : Int} {v : α} (h : atI xs i = some v) : ∃ j, seqIndex? i xs.length = some j ∧ xs[j]? = some v ∧ j < xs.length ∧ -(xs.length : Int) ≤ i ∧ i < xs.length := by
  unfold atI at h
  cases e : ixN xs.length i with
  | none => rw [e] at h; cases h
  | some j =>
    rw [e] at h
    obtain ⟨h1, h2, h3, h4⟩ := ixN_seq e
    exact ⟨j, h1, h, h2, h3, h4⟩
theorem atI_nat {α : Type} {xs : List α} {j : Nat} {v : α} (h : xs[j]? = some v) : atI xs (j : Int) = some v := by
  have hj : j < xs.length := (List.getElem?_eq_some_iff.mp h).1
  have e : ixN xs.length (j : Int) = some j := by
    unfold ixN
    rw [if_pos (by omega), if_pos (by omega)]; simp
  unfold atI; rw [e]; exact h
/-! ### what may be subscripted -/
/-- what stands as an index of a plain subscript -/
def PlainIx (b : Expr) : Prop := ∀ o i, subscripted b false o i = operate [o, i] (getItem o i)
/-- a subscript by values -/
def IxR (X : Cx) (r : R2) : Prop :=
  ∀ (value slice : Expr) (pins : List (Addr × Obj)) (s : Shared) (σ : St) (H : Hp) (x y : V) (v u : Value) (Q : VK), Inv X pins σ H s → RelV x v → RelV y u → r x y H Q →
    subscripted slice false v u = operate [v, u] (getItem v u) → wpAny (model X.prog X.w) X.A (subscriptTail value slice v u) (EP X pins σ Q) X.xe s
/-- a call of a builtin's method by values: the receiver, the arguments -/
def MtR (X : Cx) (id : String) (r : V → List V → Hp → VK → Prop) : Prop :=
  ∀ (pins : List (Addr × Obj)) (s : Shared) (σ : St) (H : Hp) (x : V) (xs : List V) (v : Value) (us : List Value) (Q : VK), Inv X pins σ H s → RelV x v → Vals xs us → r x xs H Q →
    wpAny (model X.prog X.w) X.A (call (.builtin id) (v :: us)) (EP X pins σ Q) X.xe s
section
variable {X : Cx} {a b : Expr} {ta tb : TE} {pos : Pos}
theorem IxR.or {r r' : R2} (h : IxR X r) (h' : IxR X r') : IxR X (fun x y H Q => r x y H Q ∨ r' x y H Q) := by
  intro value slice pins s σ H x y v u Q I rx ry q hs
  rcases q with q | q
  · exact h value slice pins s σ H x y v u Q I rx ry q hs
  · exact h' value slice pins s σ H x y v u Q I rx ry q hs
theorem MtR.or {id : String} {r r' : V → List V → Hp → VK → Prop} (h : MtR X id r) (h' : MtR X id r') : MtR X id (fun x xs H Q => r x xs H Q ∨ r' x xs H Q) := by
  intro pins s σ H x xs v us Q I rx rs q
  rcases q with q | q
  · exact h pins s σ H x xs v us Q I rx rs q
  · exact h' pins s σ H x xs v us Q I rx rs q
/-- a[b] -/
theorem pe_ix {r : R2} (hr : IxR X r) (ha : PE X a ta) (hb : PE X b tb) (hs : PlainIx b) : PE X (.Subscript a b pos) (tOp r ta tb) := by
  intro pins s σ H Q I h
  exact Subscript_ (binT ha hb I h fun v u s2 x y H2 I2 rx ry q => hr a b pins s2 σ H2 x y v u Q I2 rx ry q (hs _ _))

def rIxL (K : PySem.W.Frag) : R2 := fun x y H Q => ∃ p xs i v, x = .ref p ∧ y = .int i ∧ SqL K H p xs ∧ atI xs i = some v ∧ Q v H
def rIxT (K : PySem.W.Frag) : R2 := fun x y H Q => ∃ p xs i v, x = .ref p ∧ y = .int i ∧ SqT K H p xs ∧ atI xs i = some v ∧ Q v H
def rIxS : R2 := fun x y H Q => ∃ z i c, x = .str z ∧ y = .int i ∧ z.length ≤ sizeLine ∧ atI z.cps.toList i = some c ∧ Q (.str ⟨#[c]⟩) H
theorem ix_list : IxR X (rIxL X.K) := by
  intro value slice pins s σ H x y v u Q I rx ry h hs
  obtain ⟨p, xs, i, z, rfl, rfl, hq, he, q⟩ := h
  cases rx
  obtain ⟨t, rfl⟩ := ry
  obtain ⟨its, r, pl, hz⟩ := I.list hq
  obtain ⟨j, h1, h2, h3, h4, h5⟩ := atI_get he
  obtain ⟨w, ew, rw'⟩ := r.get h2
  have hl := r.length
  have hn := line63
  have fin : EP X pins σ Q w s := ⟨z, H, I, rw', q⟩
  by_cases h0 : 0 ≤ i
  · have hj : i.toNat = j := by
      rw [seqIndex_of h0 h5] at h1
      exact Option.some.inj h1
    exact item_listR pl.isList h0 (by omega) (by rw [hj]; simpa using ew) fin hs
  · have hj : (i + (its.toArray.size : Int)).toNat = j := by
      rw [seqIndex_neg (by omega) h4] at h1
      rw [List.size_toArray, ← hl]
      exact Option.some.inj h1
    exact subscriptTail_builtinR (x := w) pl.isList.typeIs slot_list_getitem.lookup
      (wpAny_getItem_list_neg (Q := fun r s' => r = w ∧ EP X pins σ Q r s') pl.isList (by omega) (by rw [List.size_toArray] <;> omega) (by omega) (by rw [hj]; simpa using ew) ⟨rfl, fin⟩) hs
theorem ix_tup : IxR X (rIxT X.K) := by
  intro value slice pins s σ H x y v u Q I rx ry h hs
  obtain ⟨p, xs, i, z, rfl, rfl, hq, he, q⟩ := h
  cases rx
  obtain ⟨t, rfl⟩ := ry
  obtain ⟨its, r, pl, hz⟩ := I.tuple hq
  obtain ⟨j, h1, h2, h3, h4, h5⟩ := atI_get he
  obtain ⟨w, ew, rw'⟩ := r.get h2
  have hl := r.length
  have hn := line63
  have fin : EP X pins σ Q w s := ⟨z, H, I, rw', q⟩
  exact subscriptTail_builtinR (x := w) pl.typeIs slot_tuple_getitem.lookup
    (getItem_tuple (j := j) (Q := fun r s' => r = w ∧ EP X pins σ Q r s') pl (by omega) (by omega) (by rw [List.size_toArray, ← hl]; exact h1) (by simpa using ew) ⟨rfl, fin⟩) hs
theorem ix_str : IxR X rIxS := by
  intro value slice pins s σ H x y v u Q I rx ry h hs
  obtain ⟨z, i, c, rfl, rfl, hz, he, q⟩ := h
  obtain ⟨t, rfl⟩ := rx
  obtain ⟨t', rfl⟩ := ry
  obtain ⟨j, h1, h2, h3, h4, h5⟩ := atI_get he
  have hl : z.cps.toList.length = z.length := by simp [Str.length]
  rw [hl] at h1 h4 h5
  have hn := line63
  exact tail_any (typeIs_str s z t) slot_str_getitem.lookup (getItem_str (c := c) (by
    have e1 : decide (i < -(2 ^ 63 : Int)) = false := decide_eq_false (by omega)
    have e2 : decide (i ≥ 2 ^ 63) = false := decide_eq_false (by omega)
    rw [e1, e2, Bool.or_false]) (by rw [h1]; simpa using h2) ⟨.str ⟨#[c]⟩, H, I.tok _, ⟨_, rfl⟩, q⟩) hs
/-- list, tuple or str -/
def rIx (K : PySem.W.Frag) : R2 := fun x y H Q => rIxL K x y H Q ∨ rIxT K x y H Q ∨ rIxS x y H Q
theorem ix_seq : IxR X (rIx X.K) := ix_list.or (ix_tup.or ix_str)

/-! ### xs[i] = v, any sign -/
/-- the list's object behind a store -/
theorem mapSeq_set (its : List Value) (n j : Nat) (u : Value) : Obj.mapSeq (·.setIfInBounds j u) { cls := .type "list", data := .seq its.toArray n } = { cls := .type "list", data := .seq (its.set j u).toArray n } := by
  simp [Obj.mapSeq]
theorem Inv.lst {pins : List (Addr × Obj)} {σ : St} {H : Hp} {s : Shared} {p : Addr} {xs : List V} (I : Inv X pins σ H s) (h : H p = some (.lst xs)) :
    ∃ (its : List Value) (n : Nat), Vals xs its ∧ s.heap.get? p = some { cls := .type "list", data := .seq its.toArray n } ∧ xs.length ≤ sizeLine := by
  obtain ⟨z, its, n, r, e⟩ := I.hok p _ h
  exact ⟨its, n, r, e, z⟩
/-- the list at p is written by an update of its object -/
theorem Inv.lstUpd {pins : List (Addr × Obj)} {σ : St} {H : Hp} {s : Shared} {p : Addr} {xs ys : List V} {its its' : List Value} {n n' : Nat} {f : Obj → Obj} (I : Inv X pins σ H s) (h : H p = some (.lst xs))
    (ho : s.heap.get? p = some { cls := .type "list", data := .seq its.toArray n }) (hf : f { cls := .type "list", data := .seq its.toArray n } = { cls := .type "list", data := .seq its'.toArray n' }) (r : Vals ys its') (hz : ys.length ≤ sizeLine) (t : Nat) :
    Inv X pins σ (upd H p (.lst ys)) { s with heap := s.heap.update p f, toks := t } := by
  have e : (s.heap.update p f).get? p = some { cls := .type "list", data := .seq its'.toArray n' } := by
    rw [Heap.get?_update_self f ho (by rw [hf] <;> rfl), hf]
  refine I.write (x := p) (e := p) (by rw [h]; trivial) (.inl rfl) (fun b u hb q => (Heap.get?_update_other _ _ (Ne.symm hb)).trans q) ⟨_, e⟩ ?_
  exact ⟨hz, its', n', r, e⟩
def rSetL : V → V → V → Hp → (Hp → Prop) → Prop := fun o i v H Q => ∃ p xs k j, o = .ref p ∧ i = .int k ∧ H p = some (.lst xs) ∧ ixN xs.length k = some j ∧ Q (upd H p (.lst (xs.set j v)))
theorem set_list : PSet X rSetL := by
  intro pins s σ H o i v ov iv u Q I ro ri rv h
  obtain ⟨p, xs, k, j, rfl, rfl, hp, hj, q⟩ := h
  cases ro
  obtain ⟨t, rfl⟩ := ri
  obtain ⟨its, n, r, ho, hz⟩ := I.lst hp
  obtain ⟨h1, h2, h3, h4⟩ := ixN_seq hj
  have hl := r.length
  have hn := line63
  have I' : Inv X pins σ (upd H p (.lst (xs.set j v))) { s with heap := s.heap.update p (Obj.mapSeq (·.setIfInBounds j u)) } :=
    I.lstUpd hp ho (mapSeq_set its n j u) (r.set rv j) (by rw [List.length_set]; exact hz) s.toks
  by_cases h0 : 0 ≤ k
  · have hk : k.toNat = j := by
      rw [seqIndex_of h0 h4] at h1
      exact Option.some.inj h1
    exact PySem.W.ki_setAt ho h0 (by omega) (by rw [List.size_toArray, ← hl]; exact h4) (by rw [hk]; exact ⟨_, I', q⟩)
  · have hk : (k + (its.toArray.size : Int)).toNat = j := by
      rw [seqIndex_neg (by omega) h3] at h1
      rw [List.size_toArray, ← hl]
      exact Option.some.inj h1
    exact PySem.W.ki_setBack ho (by omega) (by rw [List.size_toArray, ← hl]; exact h3) (by omega) (by rw [hk]; exact ⟨_, I', q⟩)

/-! ### slices -/
theorem slice_bounds (lo hi : Option Int) (n : Nat) : (sliceBounds lo hi none n).1 = ((HT.sIx n 0 lo : Nat) : Int) ∧ (sliceBounds lo hi none n).2.1 = ((HT.sIx n n hi : Nat) : Int) ∧ (sliceBounds lo hi none n).2.2 = 1 := by
  refine ⟨?_, ?_, rfl⟩
  · cases lo with
    | none => simp [sliceBounds, HT.sIx]
    | some i =>
      simp only [sliceBounds, HT.sIx, Option.getD_none, show (1 : Int) > 0 by decide, if_true]
      by_cases h : i < 0
      · simp only [h, if_true] <;> omega
      · simp only [h, if_false] <;> omega
  · cases hi with
    | none => simp [sliceBounds, HT.sIx]
    | some i =>
      simp only [sliceBounds, HT.sIx, Option.getD_none, show (1 : Int) > 0 by decide, if_true]
      by_cases h : i < 0
      · simp only [h, if_true] <;> omega
      · simp only [h, if_false] <;> omega
theorem slicePick_cut (its : List Value) (lo hi : Option Int) : slicePick its.toArray lo hi none = ((its.drop (HT.sIx its.length 0 lo)).take (HT.sIx its.length its.length hi - HT.sIx its.length 0 lo)).toArray := by
  obtain ⟨h1, h2, h3⟩ := slice_bounds lo hi its.toArray.size
  unfold slicePick
  rw [h1, h2, h3]
  simp only [sliceRange_one, pick_run, List.size_toArray] <;> rfl
/-- xs[lo:hi] of a list: a new list -/
def rSlL (K : PySem.W.Frag) : V → Option Int → Option Int → Hp → VK → Prop := fun x lo hi H Q => ∃ a xs, x = .ref a ∧ SqL K H a xs ∧ ∀ p, H p = none → Q (.ref p) (upd H p (.lst (cutV xs lo hi)))
theorem sl_list : SlR X (rSlL X.K) := by
  intro pins s σ H x v vl vu lo hi sl Q I rx hs pl pu h
  obtain ⟨a, xs, rfl, hx, q⟩ := h
  cases rx
  obtain ⟨its, r, ht, hz⟩ := I.list hx
  have hlen := r.length
  refine ⟨"list", _, slot_list_getitem.lookup, ht.isList.typeIs, ?_⟩
  refine wpAny_getItem_list_slice ht.isList hs pl pu .none (by simp) ?_ (by rw [List.size_toArray] <;> omega)
  rw [slicePick_cut, ← hlen]
  refine ⟨.ref s.heap.objs.size, _, I.laid (t' := s.toks) (o := .lst (cutV xs lo hi)) (fun b ob q => Heap.get?_push_of_some _ q) (Nat.le_refl _) ?_, rfl, q _ (I.hok.fresh (Nat.le_refl _))⟩
  exact ⟨Nat.le_trans (cutV_length xs lo hi) hz, _, 0, (r.drop (HT.sIx xs.length 0 lo)).take (HT.sIx xs.length xs.length hi - HT.sIx xs.length 0 lo), Heap.get?_push_size _ rfl⟩

/-! ### in, not in: flat items -/
def flatV : V → Bool
  | .non => true
  | .bl _ => true
  | .int _ => true
  | .str _ => true
  | _ => false
/-- == of flat values -/
def eqV : V → V → Bool
  | .non, .non => true
  | .bl a, .bl b => a == b
  | .bl a, .int b => (if a then 1 else 0) == b
  | .int a, .bl b => a == (if b then 1 else 0)
  | .int a, .int b => a == b
  | .str a, .str b => a == b
  | _, _ => false
theorem eqAt_V {A : Around} {s : Shared} {y x : V} {u v : Value} (ry : RelV y u) (rx : RelV x v) (fy : flatV y = true) (fx : flatV x = true) : SeqAt.EqAt A s u v (eqV y x) := by
  cases y with
  | non =>
    cases ry
    cases x with
    | non => cases rx; exact SeqAt.EqAt.same _
    | bl b => cases rx; exact SeqAt.EqAt.none_bool b
    | int b => obtain ⟨t, rfl⟩ := rx; exact SeqAt.EqAt.none_int b t
    | str b => obtain ⟨t, rfl⟩ := rx; exact SeqAt.EqAt.none_str b t
    | _ => exact absurd (show false = true from fx) Bool.false_ne_true
  | bl a =>
    cases ry
    cases x with
    | non => cases rx; exact SeqAt.EqAt.bool_none a
    | bl b => cases rx; exact SeqAt.EqAt.bool_bool a b
    | int b => obtain ⟨t, rfl⟩ := rx; exact SeqAt.EqAt.bool_int a b t
    | str b => obtain ⟨t, rfl⟩ := rx; exact SeqAt.EqAt.bool_str a b t
    | _ => exact absurd (show false = true from fx) Bool.false_ne_true
  | int a =>
    obtain ⟨t', rfl⟩ := ry
    cases x with
    | non => cases rx; exact SeqAt.EqAt.int_none a t'
    | bl b => cases rx; exact SeqAt.EqAt.int_bool a t' b
    | int b => obtain ⟨t, rfl⟩ := rx; exact SeqAt.EqAt.int_int a t' b t
    | str b => obtain ⟨t, rfl⟩ := rx; exact SeqAt.EqAt.int_str a t' b t
    | _ => exact absurd (show false = true from fx) Bool.false_ne_true
  | str a =>
    obtain ⟨t', rfl⟩ := ry
    cases x with
    | non => cases rx; exact SeqAt.EqAt.str_none a t'
    | bl b => cases rx; exact SeqAt.EqAt.str_bool a t' b
    | int b => obtain ⟨t, rfl⟩ := rx; exact SeqAt.EqAt.str_int a t' b t
    | str b => obtain ⟨t, rfl⟩ := rx; exact SeqAt.EqAt.str_str a t' b t
    | _ => exact absurd (show false = true from fx) Bool.false_ne_true
  | _ => exact absurd (show false = true from fy) Bool.false_ne_true
/-- the items' answers, read off the values (a value's own answer does not lean on its token) -/
def eqU (x : V) (u : Value) : Bool := match u with
  | .none => eqV .non x
  | .bool b => eqV (.bl b) x
  | .int i _ => eqV (.int i) x
  | .str z _ => eqV (.str z) x
  | _ => false
theorem eqU_of {x y : V} {u : Value} (r : RelV y u) (f : flatV y = true) : eqU x u = eqV y x := by
  cases y with
  | non => cases r; rfl
  | bl b => cases r; rfl
  | int i => obtain ⟨t, rfl⟩ := r; rfl
  | str z => obtain ⟨t, rfl⟩ := r; rfl
  | _ => exact absurd (show false = true from f) Bool.false_ne_true
theorem any_eqU {x : V} : ∀ {xs : List V} {us : List Value}, Vals xs us → xs.all flatV = true → us.any (eqU x) = xs.any fun y => eqV y x
  | _, _, .nil, _ => rfl
  | y :: xs, u :: us, .cons r t, f => by
    rw [List.all_cons, Bool.and_eq_true] at f
    rw [List.any_cons, List.any_cons, eqU_of r f.1, any_eqU t f.2]
theorem mem_eqAt {A : Around} {s : Shared} {x : V} {v : Value} (rx : RelV x v) (fx : flatV x = true) : ∀ {xs : List V} {us : List Value}, Vals xs us → xs.all flatV = true → ∀ u ∈ us, SeqAt.EqAt A s u v (eqU x u)
  | _, _, .nil, _ => fun u hu => by cases hu
  | y :: xs, u :: us, .cons r t, f => fun u' hu => by
    rw [List.all_cons, Bool.and_eq_true] at f
    rcases List.mem_cons.mp hu with rfl | hu
    · rw [eqU_of r f.1]; exact eqAt_V r rx f.1 fx
    · exact mem_eqAt rx fx t f.2 u' hu
def inV (x : V) (xs : List V) : Bool := xs.any fun y => eqV y x
/-- x in a list or tuple of flat items -/
def rIn (K : PySem.W.Frag) (neg : Bool) : R2 := fun x y H Q => ∃ p xs, y = .ref p ∧ (SqL K H p xs ∨ SqT K H p xs) ∧ flatV x = true ∧ xs.all flatV = true ∧ Q (.bl (if neg then !inV x xs else inV x xs)) H
theorem op_notIn_seq : OpR X (compareOp .NotIn) (rIn X.K true) := by
  intro pins s σ H x y v u Q I rx ry h
  obtain ⟨p, xs, rfl, hq, fx, fs, q⟩ := h
  cases ry
  rcases hq with hq | hq
  · obtain ⟨its, r, pl, hz⟩ := I.list hq
    refine SeqAt.notIn_listAt (eqU x) pl.isList (fun w hw => mem_eqAt rx fx r fs w (by simpa using hw)) ⟨.bl _, H, I, rfl, ?_⟩
    rw [show its.toArray.any (eqU x) = its.any (eqU x) by simp, any_eqU r fs]
    exact q
  · obtain ⟨its, r, pl, hz⟩ := I.tuple hq
    refine SeqAt.notIn_tupleAt (eqU x) pl (fun w hw => mem_eqAt rx fx r fs w (by simpa using hw)) ⟨.bl _, H, I, rfl, ?_⟩
    rw [show its.toArray.any (eqU x) = its.any (eqU x) by simp, any_eqU r fs]
    exact q
/-! ### len, list(x), tuple(x) of any list or tuple that is read -/
theorem call_len_seq : CallR X (.builtin "len") (fun xs H Q => ∃ p ys, xs = [.ref p] ∧ (SqL X.K H p ys ∨ SqT X.K H p ys) ∧ Q (.int ys.length) H) := by
  intro pins s σ H xs us Q I r h
  obtain ⟨p, ys, rfl, hq, q⟩ := h
  obtain ⟨u, rfl, rx⟩ := vals1 r
  cases rx
  have hn := line63
  rcases hq with hq | hq
  · obtain ⟨its, r', pl, hz⟩ := I.list hq
    have hlen := r'.length
    exact Calls.call_len_list pl.isList (by simp only [List.size_toArray] <;> omega) ⟨.int ys.length, H, I.tok _, ⟨s.toks + 1, by rw [List.size_toArray, hlen]⟩, q⟩
  · obtain ⟨its, r', pl, hz⟩ := I.tuple hq
    have hlen := r'.length
    exact len_tuple pl (by simp only [List.size_toArray] <;> omega) ⟨.int ys.length, H, I.tok _, ⟨s.toks + 1, by rw [List.size_toArray, hlen]⟩, q⟩
theorem CallR.or {f : Value} {r r' : List V → Hp → VK → Prop} (h : CallR X f r) (h' : CallR X f r') : CallR X f (fun xs H Q => r xs H Q ∨ r' xs H Q) := by
  intro pins s σ H xs us Q I rs q
  rcases q with q | q
  · exact h pins s σ H xs us Q I rs q
  · exact h' pins s σ H xs us Q I rs q
theorem call_list_of : CallR X (.type "list") (fun xs H Q => ∃ p ys, xs = [.ref p] ∧ (SqL X.K H p ys ∨ SqT X.K H p ys) ∧ ∀ l, H l = none → Q (.ref l) (upd H l (.lst ys))) := by
  intro pins s σ H xs us Q I r h
  obtain ⟨p, ys, rfl, hq, q⟩ := h
  obtain ⟨u, rfl, rx⟩ := vals1 r
  cases rx
  have fin : ∀ (its : List Value), Vals ys its → ys.length ≤ sizeLine → ∀ (h' : Heap) (c' : Nat), (∀ b o', s.heap.get? b = some o' → h'.get? b = some o') →
      h'.get? s.heap.objs.size = some { cls := .type "list", dict := none, data := .seq its.toArray c', slots := #[] } → EP X pins σ Q (.ref s.heap.objs.size) { s with heap := h' } := fun its r' hz h' c' kp e =>
    ⟨.ref s.heap.objs.size, _, I.laid (t' := s.toks) kp (Nat.le_refl _) (show ObjOk X.prog X.w _ h' _ (.lst ys) from ⟨hz, its, c', r', e⟩), rfl, q _ (I.hok.fresh (Nat.le_refl _))⟩
  rcases hq with hq | hq
  · obtain ⟨its, r', pl, hz⟩ := I.list hq
    have hlen := r'.length
    obtain ⟨o, ho, hc, n, hd⟩ := pl.isList
    exact call_list_seq p (.inl rfl) ho hc hd (fun h' c' kp e => fin its r' hz h' c' kp e) (by simp only [List.size_toArray] <;> omega)
  · obtain ⟨its, r', pl, hz⟩ := I.tuple hq
    have hlen := r'.length
    obtain ⟨o, ho, hc, n, hd⟩ := pl
    exact call_list_seq p (.inr rfl) ho hc hd (fun h' c' kp e => fin its r' hz h' c' kp e) (by simp only [List.size_toArray] <;> omega)
/-! ### the call of a builtin's method: o.m(..) -/
/-- the value is of that builtin type -/
def tyV (K : PySem.W.Frag) (T : String) (x : V) (H : Hp) : Prop := match x with
  | .str _ => T = "str"
  | .int _ => T = "int"
  | .ref p => (T = "list" ∧ ∃ xs, SqL K H p xs) ∨ (T = "tuple" ∧ ∃ o, K.lookup p = some o ∧ o.cls = .type "tuple" ∧ o.dict = none) ∨
      (T = "dict" ∧ ((∃ kvs, H p = some (.dK kvs)) ∨ ∃ kvs, H p = some (.dT kvs))) ∨ (T = "set" ∧ ∃ S n, H p = some (.set S n))
  | _ => False
theorem tyV_is {pins : List (Addr × Obj)} {σ : St} {H : Hp} {s : Shared} {T : String} {x : V} {v : Value} (I : Inv X pins σ H s) (r : RelV x v) (ty : tyV X.K T x H) :
    s.TypeIs v T ∧ ∀ a, v = .ref a → ∃ ob, s.heap.get? a = some ob ∧ ob.dict = none := by
  cases x with
  | str z =>
    obtain ⟨t, rfl⟩ := r
    cases (show T = "str" from ty)
    exact ⟨typeIs_str s z t, fun _ e => nomatch e⟩
  | int i =>
    obtain ⟨t, rfl⟩ := r
    cases (show T = "int" from ty)
    exact ⟨typeIs_int s i t, fun _ e => nomatch e⟩
  | ref p =>
    cases r
    rcases ty with ⟨rfl, xs, hq⟩ | ⟨rfl, o, hk, hc, hd⟩ | ⟨rfl, hk⟩ | ⟨rfl, S, n, hk⟩
    · obtain ⟨its, _, pl, _⟩ := I.list hq
      refine ⟨pl.isList.typeIs, fun a e => ?_⟩
      cases e
      obtain ⟨o, n, e, c, hd, _⟩ := pl
      exact ⟨o, e, hd⟩
    · refine ⟨⟨o, I.kIn p o hk, hc⟩, fun a e => ?_⟩
      cases e
      exact ⟨o, I.kIn _ o hk, hd⟩
    · have z : ∃ o, s.heap.get? p = some o ∧ o.ExactDict := by
        rcases hk with ⟨kvs, hk⟩ | ⟨kvs, hk⟩
        · obtain ⟨_, _, _, _, o, _, _, e, ex, _⟩ := I.hok p _ hk
          exact ⟨o, e, ex⟩
        · obtain ⟨_, _, _, _, o, _, _, e, ex, _⟩ := I.hok p _ hk
          exact ⟨o, e, ex⟩
      obtain ⟨o, e, ex⟩ := z
      refine ⟨⟨o, e, ex.1⟩, fun a e2 => ?_⟩
      cases e2
      exact ⟨o, e, ex.2.1⟩
    · obtain ⟨o, _, _, _, e, ex, _⟩ := I.hok p _ hk
      refine ⟨⟨o, e, ex.1⟩, fun a e2 => ?_⟩
      cases e2
      exact ⟨o, e, ex.2.1⟩
  | _ => exact False.elim ty
def tBM (K : PySem.W.Frag) (T : String) (r : V → List V → Hp → VK → Prop) (to : TE) (t : TA) : TE := fun σ H Q => to σ H fun x H1 => tyV K T x H1 ∧ t σ H1 fun xs H2 => r x xs H2 Q
variable {o e : Expr} {es : List Expr} {to : TE} {t : TA} {name : Str} {apos cpos : Pos} {T id : String} {r : V → List V → Hp → VK → Prop}
theorem pe_bm (pa : PlainAttrs T) (slot : Slot T name id) (hty : typeOf (.builtin id) = pure (.type "method_descriptor")) (hm : MtR X id r) (ho : PE X o to) (ha : PA X (e :: es) t)
    (hbase : attributeBase o name X.env (eval o X.env) = eval o X.env := by rfl)
    (hfew : ((backTo cpos (starEach (e :: es) X.env)).all (fun x => !x.1) && (backToKw cpos (keywordEach [] X.env)).all (fun x => x.1.isSome)
      && decide ((e :: es).length + ([] : List Keyword).length + (if ([] : List Keyword).isEmpty then 0 else 1) < 30)) = true := by rfl)
    (hline : (apos.endLine == cpos.line) = true := by rfl) (hs : starEach (e :: es) X.env = (false, eval e X.env) :: starEach es X.env := by rfl) (hplain : (backTo cpos (starEach es X.env)).any (·.1) = false := by rfl) :
    PE X (.Call (.Attribute o name apos) (e :: es) [] cpos) (tBM X.K T r to t) := by
  intro pins s σ H Q I h
  refine wpAny_Call_method_late hbase hfew hline rfl (thn (ho pins s σ H _ I h) fun v s1 ⟨x, H1, I1, r1, ty, q1⟩ => ?_)
  obtain ⟨h1, h2⟩ := tyV_is I1 r1 ty
  refine ⟨T, id, pa, slot, hty, h1, h2, ?_⟩
  have hA := ha cpos pins s1 σ H1 _ I1 q1
  rw [hs] at hA ⊢
  refine Calls.callWith_builtin (by show (false || (backTo cpos (starEach es X.env)).any (·.1)) = false; rw [hplain] <;> rfl) (Calls.evalArgs_plain ?_)
  exact thn hA fun us s2 ⟨vs, H2, I2, r2, q2⟩ => hm pins s2 σ H2 x vs v us Q I2 r1 r2 q2
/- xs.append(e), list.index on a module's tuple .. are MtR facts of 06m -/
end
end L2

namespace L2
open PySem PySem.Spec PyProof.Rows

def MtM (X : Cx) (id : String) (r : V → List V → Hp → VK → Prop) : Prop :=
  ∀ (pins : List (Addr × Obj)) (s : Shared) (σ : St) (H : Hp) (x : V) (xs : List V) (v : Value) (us : List Value) (Q : VK), Inv X pins σ H s → RelV x v → Vals xs us → r x xs H Q →
    wpAny (model X.prog X.w) X.A (call (.builtin id) (v :: us)) (EP X pins σ Q) X.xe s

/-! ### lists of values -/
theorem Vals.one : ∀ {x : V} {us : List Value}, Vals [x] us → ∃ u, us = [u] ∧ RelV x u
  | _, _, .cons r .nil => ⟨_, rfl, r⟩
theorem Vals.two : ∀ {x y : V} {us : List Value}, Vals [x, y] us → ∃ u v, us = [u, v] ∧ RelV x u ∧ RelV y v
  | _, _, _, .cons r (.cons q .nil) => ⟨_, _, rfl, r, q⟩
theorem Vals.zero : ∀ {us : List Value}, Vals [] us → us = []
  | _, .nil => rfl
theorem Vals.reverse {xs : List V} {us : List Value} (h : Vals xs us) : Vals xs.reverse us.reverse := by
  induction h with
  | nil => exact .nil
  | cons r t ih => rw [List.reverse_cons, List.reverse_cons]; exact Vals.append ih (.cons r .nil)
theorem Vals.rep {xs : List V} {us : List Value} (h : Vals xs us) : ∀ k : Nat, Vals (List.replicate k xs).flatten (List.replicate k us).flatten
  | 0 => .nil
  | k + 1 => by
    rw [List.replicate_succ, List.replicate_succ, List.flatten_cons, List.flatten_cons]
    exact Vals.append h (Vals.rep h k)
theorem foldl_rep (its : List Value) : ∀ (k : Nat) (acc : List Value),
    List.foldl (fun x1 x2 => x1 ++ x2) acc.toArray (List.replicate k its.toArray) = (acc ++ (List.replicate k its).flatten).toArray
  | 0, acc => by simp
  | k + 1, acc => by
    have e : acc.toArray ++ its.toArray = (acc ++ its).toArray := by simp
    have e2 : (acc ++ its) ++ (List.replicate k its).flatten = acc ++ (List.replicate (k + 1) its).flatten := by
      rw [List.replicate_succ, List.flatten_cons, List.append_assoc]
    rw [← e2, ← foldl_rep its k (acc ++ its), ← e, List.replicate_succ, List.foldl_cons]

section
variable {X : Cx} {pins : List (Addr × Obj)} {σ : St} {H : Hp} {s : Shared} {l b : Addr} {xs ys zs : List V}

/-! ### the two steps: a tracked list is rewritten, a new list is laid -/
theorem Inv.lset {its its' : List Value} {n : Nat} {f : Array Value → Array Value} {t' : Nat} (I : Inv X pins σ H s) (hH : H l = some (.lst xs))
    (e : s.heap.get? l = some { cls := .type "list", data := .seq its.toArray n }) (hf : f its.toArray = its'.toArray) (hv : Vals ys its') (hz : ys.length ≤ sizeLine) :
    Inv X pins σ (upd H l (.lst ys)) { s with heap := s.heap.update l (Obj.mapSeq f), toks := t' } := by
  have q := PySem.IsL.update e f
  rw [hf] at q
  refine I.write (x := l) (e := l) (by rw [hH]; exact trivial) (.inl rfl) (fun b' u hb hu => (Heap.get?_update_other s.heap (Obj.mapSeq f) (Ne.symm hb)).trans hu) ⟨_, q⟩ ?_
  exact ⟨hz, its', _, hv, q⟩
theorem Inv.lnew {its : List Value} {t' : Nat} (I : Inv X pins σ H s) (hv : Vals ys its) (hz : ys.length ≤ sizeLine) :
    Inv X pins σ (upd H s.heap.objs.size (.lst ys)) { s with heap := s.heap.push { cls := .type "list", data := .seq its.toArray }, toks := t' } :=
  I.laid (fun _ _ q => Heap.get?_push_of_some _ q) (Nat.le_refl _) ⟨hz, its, 0, hv, Heap.get?_push_size _ rfl⟩
theorem Inv.fresh (I : Inv X pins σ H s) : H s.heap.objs.size = none := I.hok.fresh (Nat.le_refl _)
theorem Inv.lstM (I : Inv X pins σ H s) (hH : H l = some (.lst xs)) : xs.length ≤ sizeLine ∧ ∃ (its : List Value) (n : Nat), Vals xs its ∧ xs.length = its.length ∧ s.heap.get? l = some { cls := .type "list", data := .seq its.toArray n } := by
  obtain ⟨z, its, n, r, e⟩ := I.hok l _ hH
  exact ⟨z, its, n, r, r.length, e⟩

theorem notLongL {n : Nat} (h : n ≤ sizeLine) : Builtin.List.listTooLong n = false := by
  unfold Builtin.List.listTooLong
  exact decide_eq_false (by omega)
end

section
variable {X : Cx}

/-! ### methods -/
def rAppend : V → List V → Hp → VK → Prop := fun x vs H Q => ∃ l xs y, x = .ref l ∧ vs = [y] ∧ H l = some (.lst xs) ∧ xs.length < sizeLine ∧ Q .non (upd H l (.lst (xs ++ [y])))
theorem mt_append : MtM X "list.append" rAppend := by
  intro pins s σ H x vs v us Q I rx rv h
  obtain ⟨l, xs, y, rfl, rfl, hH, hz, q⟩ := h
  cases rx
  obtain ⟨u, rfl, ru⟩ := rv.one
  obtain ⟨z, its, n, r, hl, e⟩ := I.lstM hH
  refine call_meets F.slot_list_append ⟨_, e, rfl⟩ F.entry_list_append (F.args_list_append_2 _ _) (PySem.list_append l its.toArray n u (by rw [List.size_toArray]; omega)) ⟨e, ?_⟩
  refine ⟨.non, _, I.lset (its' := its ++ [u]) hH e (by simp) (r.append (.cons ru .nil)) ?_, rfl, q⟩
  rw [List.length_append, List.length_singleton]
  omega

/-! ### list + list, list += list, list * int -/
def rCat : R2 := fun x y H Q => ∃ l b xs zs, x = .ref l ∧ y = .ref b ∧ H l = some (.lst xs) ∧ H b = some (.lst zs) ∧ xs.length + zs.length ≤ sizeLine ∧ ∀ p, H p = none → Q (.ref p) (upd H p (.lst (xs ++ zs)))
theorem op_cat : OpR X (binaryOp .Add) rCat := by
  intro pins s σ H x y v u Q I rx ry h
  obtain ⟨l, b, xs, zs, rfl, rfl, hH, hB, hz, q⟩ := h
  cases rx
  cases ry
  obtain ⟨z, its, n, r, hl, e⟩ := I.lstM hH
  obtain ⟨z2, its2, n2, r2, hl2, e2⟩ := I.lstM hB
  refine PySem.P.add_list e e2 ?_ (by rw [List.size_toArray, List.size_toArray]; omega)
  have ea : its.toArray ++ its2.toArray = (its ++ its2).toArray := by simp
  rw [ea]
  exact ⟨.ref _, _, I.lnew (t' := s.toks) (r.append r2) (by rw [List.length_append]; omega), rfl, q _ I.fresh⟩
/-- a list times an int (a negative one is nothing) -/
def rRep : R2 := fun x y H Q => ∃ l k xs, x = .ref l ∧ y = .int k ∧ H l = some (.lst xs) ∧ -(2 ^ 63) ≤ k ∧ k < 2 ^ 63 ∧ xs.length * k.toNat ≤ sizeLine ∧
  ∀ p, H p = none → Q (.ref p) (upd H p (.lst (List.replicate k.toNat xs).flatten))
theorem len_rep {α : Type} (xs : List α) (k : Nat) : (List.replicate k xs).flatten.length = k * xs.length := by
  induction k with
  | zero => simp
  | succ k ih => rw [List.replicate_succ, List.flatten_cons, List.length_append, ih, Nat.succ_mul, Nat.add_comm]
theorem op_rep : OpR X (binaryOp .Mult) rRep := by
  intro pins s σ H x y v u Q I rx ry h
  obtain ⟨l, k, xs, rfl, rfl, hH, h1, h2, hz, q⟩ := h
  cases rx
  obtain ⟨t, rfl⟩ := ry
  obtain ⟨z, its, n, r, hl, e⟩ := I.lstM hH
  have hlen : its.toArray.size * k.toNat ≤ sizeLine := by rw [List.size_toArray, ← hl]; exact hz
  have hcap : ¬ its.toArray.size * k.toNat > (2 ^ 63 - 1) / 8 := by
    have : (sizeLine : Nat) ≤ (2 ^ 63 - 1) / 8 := by decide
    omega
  have hfit : ¬ (!Builtin.List.listFitsIndex k) = true := by
    rw [fitsIndex_both h1 h2]
    exact Bool.false_ne_true
  have hlong : ¬ Builtin.List.listTooLong (its.toArray.size * k.toNat) = true := by
    rw [notLongL hlen]
    exact Bool.false_ne_true
  have hnew : List.foldl (fun x1 x2 => x1 ++ x2) #[] (List.replicate (if its.toArray.isEmpty = true then 0 else k.toNat) its.toArray) = (List.replicate k.toNat its).flatten.toArray := by
    have f0 : ∀ m : Nat, List.foldl (fun x1 x2 => x1 ++ x2) #[] (List.replicate m its.toArray) = (List.replicate m its).flatten.toArray := fun m => by
      have := foldl_rep its m []
      rw [List.nil_append] at this
      exact this
    rw [f0]
    cases its with
    | nil => simp
    | cons a r' => rw [if_neg (by simp)]
  refine wpAny_binaryOp_repeat_ref (T := "list") (U := "int") (by decide) ⟨_, e, rfl⟩ (fun s' => typeIs_int s' k t) noFill_list_mul F.fills_int_mul F.slot_int_rmul repeat_list F.slot_int_index.lookup
    (call_meets F.slot_int_rmul (typeIs_int s k t) F.entry_int_rmul (F.args_int_rmul_2 _ _) (int___rmul___int_list k t l its.toArray n)
      ⟨e, rfl, ⟨_, e, rfl⟩, call_meets F.slot_list_mul ⟨_, e, rfl⟩ F.entry_list_mul (F.args_list_mul_2 _ _) (AutoListH.list___mul___list_int_3 l its.toArray n k t hfit hcap hlong) ⟨e, ?_⟩⟩)
  rw [hnew]
  exact ⟨.ref _, _, I.lnew (t' := s.toks) (r.rep k.toNat) (by rw [len_rep, Nat.mul_comm]; exact hz), rfl, q _ I.fresh⟩

/-! ### del xs[i] -/
end

/-! ### xs[a:b] = ys -/
section
variable {prog : Program} {w : World} {A : Around} {E : Value → Shared → Prop} {s : Shared}
theorem bounds_run {a c n : Nat} (hac : a ≤ c) (hc : c ≤ n) : sliceBounds (some (a : Int)) (some (c : Int)) none n = ((a : Int), (c : Int), 1) := by
  simp only [sliceBounds, Option.getD_none]
  have h1 : ¬ ((a : Int) < 0) := by omega
  have h2 : ¬ ((c : Int) < 0) := by omega
  simp only [h1, h2, if_false, show (1 : Int) > 0 by decide, if_true]
  congr 1
  · omega
  · congr 1; omega
set_option maxRecDepth 100000 in
/-- list.__setitem__ with a slice of step one and another list -/
theorem setItem_slice {l b sl : Addr} {items new : Array Value} {n n2 : Nat} {vl vu : Value} {a c : Nat} {Q : Unit → Shared → Prop}
    (e : s.heap.get? l = some { cls := .type "list", data := .seq items n }) (e2 : s.heap.get? b = some { cls := .type "list", data := .seq new n2 }) (hne : l ≠ b)
    (hs : s.heap.IsSliceOf sl vl vu .none) (pl : IsPart vl (some (a : Int))) (pu : IsPart vu (some (c : Int))) (hac : a ≤ c) (hc : c ≤ items.size)
    (hsz : items.size + new.size ≤ sizeLine) (h : Q () { s with heap := s.heap.update l (Obj.mapSeq fun xs => xs.extract 0 a ++ new ++ xs.extract c xs.size) }) :
    wpAny (model prog w) A (setItem (.ref l) (.ref sl) (.ref b)) Q E s := by
  have hl : s.heap.IsList l items := PySem.IsL.isList e
  have hb : s.heap.IsList b new := PySem.IsL.isList e2
  obtain ⟨os, hos, hcs, hds⟩ := id hs
  have hTs : s.TypeIs (.ref sl) "slice" := ⟨os, hos, hcs⟩
  have hstep : ¬ ((rawPart none == rawInt 0) = true) := Bool.false_ne_true
  have hsame : Builtin.List.listSameRef (.ref l) (.ref b) = false := by
    unfold Builtin.List.listSameRef
    exact beq_eq_false_iff_ne.mpr hne
  have hmax : (max (a : Int) (c : Int)).toNat = c := by omega
  have hz' : ((fun xs : Array Value => xs.extract 0 a ++ new ++ xs.extract c xs.size) items).size ≤ sizeLine + 1 := by
    simp only [Array.size_append, Array.size_extract]
    omega
  unfold setItem
  try with_reducible refine wpAny_holding ?_
  first | refine wpAny_bind (wpAny_pure ?_) | skip
  refine wpAny_bind (wpAny_sequenceKey hl.typeIs (by decide) ?_)
  refine wpAny_bind (wpAny_callSpecial?_slot (name := Str.ofString "__setitem__") hl.typeIs slot_list_setitem
    (wpAny_call_entry slot_list_setitem hl.typeIs entry_list_setitem ?_ (args_list_setitem _ _ _)))
  show wpAny _ _ (Builtin.List.listSubscript? (.ref sl) >>= _) _ _ s
  refine wpAny_bind ?_
  unfold Builtin.List.listSubscript?
  refine wpAny_bind (wpAny_specialOf hTs slice_no_index ?_)
  simp only [Option.isNone_none, if_true]
  refine wpAny_pure ?_
  show wpAny _ _ (typeOf (.ref sl) >>= _) _ _ s
  refine wpAny_bind (wpAny_typeOf hTs ?_)
  first
    | rw [if_neg (by decide)]
    | refine PySem.W.KFB.if_not (by decide) ?_
  rw [listSliceParts_eq]
  refine wpAny_bind (wpAny_bind (wpAny_field hos hds (x := .none) rfl (wpAny_bind (wpAny_listPart .none ?_))))
  rw [if_neg hstep]
  refine wpAny_bind (wpAny_field hos hds (x := vl) rfl (wpAny_bind (wpAny_listPart pl ?_)))
  refine wpAny_bind (wpAny_field hos hds (x := vu) rfl (wpAny_bind (wpAny_listPart pu (wpAny_pure ?_))))
  first
    | simp only [hsame, Bool.false_eq_true, if_false]
    | refine PySem.W.KFB.if_not hsame ?_
    | (dsimp only
       rw [if_neg (by rw [hsame]; exact Bool.false_ne_true)])
  refine wpAny_bind (m := Builtin.List.listAllItems (.ref b) "must assign iterable to extended slice") ?_
  unfold Builtin.List.listAllItems
  refine wpAny_bind (wpAny_typeOf hb.typeIs ?_)
  first
    | refine PySem.W.KFB.if_so (by decide) ?_
    | rw [if_pos (by decide)]
    | simp only [beq_self_eq_true, Bool.true_or, if_true]
  unfold Builtin.List.listItems
  refine wpAny_bind (wpAny_seqItems e2 rfl (wpAny_pure ?_))
  refine wpAny_bind (wpAny_bind (wpAny_seqItems e rfl (wpAny_pure ?_)))
  refine wpAny_bind (wpAny_of_eq ((sliceIndices_raw (some (a : Int)) (some (c : Int)) none items.size (by simp)).trans (congrArg (pure : Int × Int × Int → Sem (Int × Int × Int)) (bounds_run hac hc))) ?_)
  show wpAny _ _ (if ((1 : Int) == 1) = true then _ else _) _ _ s
  rw [if_pos (by decide)]
  refine wpAny_bind (wpAny_rule ?_)
  first
    | simp only [notLongL hsz, Bool.false_eq_true, if_false]
    | refine PySem.W.KFB.if_not (notLongL hsz) ?_
  first | refine wpAny_bind (wpAny_pure ?_) | skip
  show wpAny _ _ (updateSeq l (fun xs => xs.extract 0 ((a : Int)).toNat ++ new ++ xs.extract (max (a : Int) (c : Int)).toNat xs.size) >>= _) _ _ s
  rw [hmax, Int.toNat_natCast]
  refine wpAny_bind (wpAny_updateSeq (hz := Nat.le_trans (Nat.le_add_right _ _) hsz) (_hz' := hz') e rfl ?_)
  refine wpAny_bind (wpAny_letGo ?_)
  first
    | exact wpAny_bind (wpAny_pure (wpAny_pure ⟨.none, rfl, wpAny_pure h⟩))
    | exact wpAny_pure ⟨.none, rfl, wpAny_pure h⟩
end

section
variable {X : Cx}
end
end L2

namespace Att
open PySem PySem.W PySem.Calls PyProof.Rows

/-! ### the script -/
theorem ints_of_wellAll {P : Params} {h : Heap} : ∀ (ns : List Int) (vs : List Value), WellAll P h vs (ns.map WData.int) → IntsAre vs ns := by
  intro ns
  induction ns with
  | nil =>
    intro vs w
    rw [List.map_nil] at w
    cases w
    exact .nil
  | cons n ns ih =>
    intro vs w
    rw [List.map_cons] at w
    cases w with
    | cons a b =>
      cases a
      exact .cons _ _ (ih _ b)

theorem script_of {l : OpenLaw} {n : Nat} (hn : l.most = some n) {P : Params} {h : Heap} {args : List WData} {vals : List Value}
    (hpre : l.row.toRowW.claim.pre args = true) (hwl : WellAll P h vals args) :
    ∃ a vs ns, vals = [Value.ref a] ∧ args = [WData.list (ns.map WData.int)] ∧ h.get? a = some { cls := .type "list", data := .seq vs.toArray } ∧ IntsAre vs ns ∧ ns.length ≤ n := by
  have hsh : WShape.hasAll [] args [.list .int] = true := (pre_splitW hpre).1
  have hc : l.pre.holds [] { args := args } = true := (pre_splitW hpre).2
  obtain ⟨d, r, rfl, h1, h2⟩ := hasAllW_cons hsh
  obtain rfl := hasAllW_nil h2
  obtain ⟨xs, rfl, h3⟩ := hasW_list h1
  obtain ⟨ns, rfl⟩ := items_int h3
  have hlen : ns.length ≤ n := by
    unfold OpenLaw.pre at hc
    have h4 : (WTm.not (.lt (.lit (.int (n : Int))) (.len (.arg 0)))).holds [] { args := [.list (ns.map .int)] } = true := by
      have h4 := (holds_andW hc).1
      rw [hn] at h4
      exact h4
    have h5 := condW_of h4 (w_not (w_lt w_lit (w_len_list (w_arg rfl))))
    rw [List.length_map] at h5
    refine Nat.le_of_not_lt fun q => ?_
    have q' : (n : Int) < ((ns.length : Nat) : Int) := by omega
    first
      | (rw [decide_eq_true q'] at h5; exact absurd h5 (by decide))
      | (simp at h5; omega)
  cases hwl with
  | cons w1 w2 =>
    cases w2
    cases w1 with
    | list ho hall => exact ⟨_, _, ns, rfl, rfl, ho, ints_of_wellAll ns _ hall, hlen⟩

theorem post_true (l : OpenLaw) (args : List WData) : l.row.toRowW.claim.post args (.bool true) args = true :=
  postW_of (r := l.row.toRowW) (X := (true == true))
    (show WShape.has [] (.bool true) .bool = true by first | rfl | decide | simp [WShape.has, WShape.arms, WShape.armsAll])
    (show (WTm.eq .res (.lit (.bool true))).value [] { args := args, res := some (.bool true), after := args } = some (.bool (true == true)) from w_eq_bool (w_res rfl) w_lit) rfl

/-! ### the attachment: holds_open's last premise (the goal 'hc' behind k_head) from a wpAny of the law's body -/
/-- the same from a codeAny of the CALL (for a layer whose function contracts speak of calls) -/
theorem attach_call {l : OpenLaw} {n : Nat} {q : Program} {loose : List Str} {XP : (Str → Option Value) → Heap → Prop} {YP : World → Heap → Prop} {d : DefRec}
    (hn : l.most = some n) (hdf : d.params.defaults = [])
    (call : ∀ (w : World) (s₀ s₁ : Shared) (mg mb : Str → Option Value) (fa : Addr) (o : Obj) (pm cd doc : Value) (a : Addr) (vs : List Value) (ns : List Int),
      Ground q loose [] XP w s₀ mg mb s₁.heap → YP w s₁.heap →
      s₁.heap.get? fa = some o → o.data = .func (docDef d.name d.params d.body d.scope pm cd doc) → s₁.heap.CodeRec cd d.name → mg d.name = some (.ref fa) →
      s₁.heap.get? a = some { cls := .type "list", data := .seq vs.toArray } → IntsAre vs ns → ns.length ≤ n → s₁.gens = #[] →
      codeAny (model l.prog w) callerA (.call (.ref fa) ⟨[.ref a], []⟩) (fun r s' => r = .ok (.ret (.bool true)) ∧ OldK s₁.heap s'.heap ∧ s'.os = s₁.os ∧ AllBare s'.gens) s₁) :
    WalkO q loose XP YP l.row.toRowW d [] (fun f vs => PySem.call f vs) := by
  intro w s₀ s₁ mg mb G Y fa o pm cd doc dV kV ho hd hcd hD hmg hg args vals as hpre hlay hrd hwl hlo
  obtain rfl : dV = .none := Dflts.none hD hdf
  obtain rfl : kV = .none := Dflts.noKw hD
  obtain ⟨a, vs, ns, rfl, rfl, hobj, hints, hlen⟩ := script_of hn hpre hwl
  refine enter_call (codeAny_mono (call w s₀ s₁ mg mb fa o pm cd doc a vs ns G Y ho (fd_plain hd) hcd hmg hobj hints hlen hg) fun r s' hq => ?_)
  obtain ⟨rfl, h2, h3, h4⟩ := hq
  exact ⟨.inl ⟨.bool true, .bool true, [], rfl, fun _ => rfl, .bool true, post_true l _, fun _ => ⟨List.Pairwise.nil, fun _ hm => (nomatch hm)⟩⟩, h2, h3, h4⟩

/-! ### rules over ANY heap (no ledger) from facts about the written part K: the library's own take a ledger (News) for what they write -/
section
variable {prog : Program} {w : World} {A : Around} {E : Value → Shared → Prop} {s : Shared} {K : Frag}

/-! the whole heap as the ledger: makes every rule that writes through a ledger a rule over any heap -/
def ledger (h : Heap) (L d : Addr) : List (Addr × Obj) := (List.range h.objs.size).filterMap fun a => if a = L ∨ a = d then none else (h.get? a).map fun o => (a, o)
end
end Att

namespace L2
open PySem PySem.Spec PyProof.Rows

theorem vals_ints : ∀ {vs : List Value} {ns : List Int}, IntsAre vs ns → Vals (ns.map V.int) vs
  | _, _, .nil => .nil
  | _, _, .cons n t h => .cons ⟨t, rfl⟩ (vals_ints h)

/-- nothing is tracked but the script, known to the object (or it is an object of the module) -/
def Only (H : Hp) : Prop := ∀ b, H b = none ∨ ∃ o xs, H b = some (.frz o (.lst xs))

/-- THE HEAD: the law's promise, at the heap behind the top. F, the promise of the law's def, may use that base is part of the heap (so K.In base, base.Ns mainGlobals mg stand in Mod) -/
theorem law_call {P : Program} {w : World} {K : PySem.W.Frag} {mg mb : Str → Option Value} {CX : CXT} {k : Nat} {fa a : Addr} {fd : FuncData} {x : Str} {sp : Sp} {s₁ : Shared} {vs : List Value} {ns : List Int}
    (KX : K.In s₁.heap) (hns : s₁.heap.Ns mainGlobals mg) (hb : s₁.heap.Ns builtinsNs mb) (hbb : ∀ x : Str, x ≠ "__name__" → mb x = bootBuiltins x) (hlim : s₁.heap.NoLimit) (hg : s₁.gens = #[])
    (ha : s₁.heap.get? a = some { cls := .type "list", data := .seq vs.toArray }) (hi : IntsAre vs ns) (hl : ns.length ≤ sizeLine) (hr : Room k callerA)
    (F : ∀ base : Heap, K.In base → base.Ns mainGlobals mg → FnOk P w K mg base CX k fa fd [x] sp) (hbind : ∀ (s : Shared) (u : Value), BindsTo s fd ⟨[u], []⟩ [(x, u)])
    (hsp : ∀ H : Hp, Only H → SqL K H a (ns.map V.int) → sp [.ref a] H (fun v _ => v = .bl true) fun _ _ _ => False)
    (hCX : ∀ H e s', CX [] H s₁ (fun _ _ _ => False) e s' → False) :
    codeAny (model P w) callerA (.call (.ref fa) ⟨[.ref a], []⟩) (fun r s' => r = .ok (.ret (.bool true)) ∧ OldK s₁.heap s'.heap ∧ s'.os = s₁.os ∧ AllBare s'.gens) s₁ := by
  have rv := vals_ints hi
  have lenV := hi.length
  -- from an abstract heap in which nothing but the script may be tracked
  have core : ∀ H : Hp, Only H → SqL K H a (ns.map V.int) → HOk P w H s₁.heap → (∀ b, H b ≠ none → b = a) → (H a ≠ none → K.lookup a = none) →
      codeAny (model P w) callerA (.call (.ref fa) ⟨[.ref a], []⟩) (fun r s' => r = .ok (.ret (.bool true)) ∧ OldK s₁.heap s'.heap ∧ s'.os = s₁.os ∧ AllBare s'.gens) s₁ := by
    intro H hO hS hok hA hK
    have base_of : ∀ {b : Addr} {o : Obj}, s₁.heap.get? b = some o → H b = none → (hidT s₁.heap H).get? b = some o := fun e n => hidT_get e n
    have noA : ∀ {b : Addr} {o : Obj} {es : Array DictEntry} {ep : Nat}, s₁.heap.get? b = some o → o.data = .dict es ep → H b = none := fun {b o es ep} e d => by
      cases q : H b with
      | none => rfl
      | some u =>
        have e' : b = a := hA b (by rw [q]; simp)
        subst e'
        rw [ha] at e; cases e
        have d' : Data.seq vs.toArray _ = Data.dict es ep := d
        cases d'
    have nsK : ∀ {b : Addr} {m : Str → Option Value}, s₁.heap.Ns b m → (hidT s₁.heap H).Ns b m := fun {b m} ⟨o, es, ep, e, d, r⟩ => ⟨o, es, ep, base_of e (noA e d), d, r⟩
    have hKb : K.In (hidT s₁.heap H) := fun b o e => base_of (KX b o e) (by
      cases q : H b with
      | none => rfl
      | some u =>
        have e' : b = a := hA b (by rw [q]; simp)
        subst e'
        rw [hK (by rw [q]; simp)] at e; cases e)
    have hM : Mod K mg (hidT s₁.heap H) := ⟨hKb, nsK hns, ⟨mb, nsK hb, hbb⟩, let ⟨mc, h1, h2⟩ := hlim; ⟨mc, nsK h1, h2⟩⟩
    have e0 : Env0 P w K mg (hidT s₁.heap H) callerA [] s₁ H := ⟨rfl, hM, fun b o e => of_hidT e, Nat.le_of_eq (hidT_size _ _), trivial, fun b hb => absurd (show b ∈ ([] : List Addr) from hb) (by simp), hok, .of_eq hg⟩
    refine codeAny_mono ((F _ hKb (nsK hns)).run callerA [] s₁ H ⟨[.ref a], []⟩ [.ref a] [.ref a] _ _ hr e0 (hbind s₁ (.ref a)) (.cons rfl .nil) (hsp H hO hS)) fun r s' h => ?_
    cases r with
    | error e => exact (hCX H e s' h).elim
    | ok fl =>
      cases fl with
      | next => exact False.elim h
      | brk => exact False.elim h
      | cont => exact False.elim h
      | ret u =>
        obtain ⟨v, H', os, bare, un, hok', r', q⟩ := h
        have q' : v = .bl true := q
        subst q'
        obtain rfl : u = Value.bool true := r'
        refine ⟨rfl, OldK.of_keep fun b o e => ?_, os, bare⟩
        cases q : H b with
        | none => exact un.keep b o e q (by intro z; exact absurd (show b ∈ ([] : List Addr) from z) (by simp)) (by simp)
        | some u =>
          rcases hO b with z | ⟨ob, xs, z⟩
          · rw [q] at z; cases z
          · have z2 := un.frzs b ob _ z
            obtain ⟨e1, _⟩ := hok b _ z
            obtain ⟨e2, _⟩ := hok' b _ z2
            rw [e] at e1; cases e1
            exact e2
  cases hk : K.lookup a with
  | some o =>
    -- the script is one of the module's own objects
    have e := KX a o hk
    rw [ha] at e
    cases e
    refine core (fun _ => none) (fun _ => .inl rfl) (.inr ⟨_, vs.toArray, _, hk, rfl, rfl, rfl, by rw [List.size_toArray, lenV]; exact hl, by simpa using rv⟩) (fun b u z => by have z' : (none : Option HO) = some u := z; cases z') (fun b z => absurd rfl z) fun z => absurd rfl z
  | none =>
    refine core (fun b => if b = a then some (.frz { cls := .type "list", data := .seq vs.toArray } (.lst (ns.map V.int))) else none) (fun b => ?_) (.inl (.inr ⟨{ cls := .type "list", data := .seq vs.toArray }, if_pos rfl⟩)) (fun b u z => ?_) (fun b z => ?_) fun _ => hk
    · by_cases hb : b = a
      · exact .inr ⟨_, _, if_pos hb⟩
      · exact .inl (if_neg hb)
    · by_cases hb : b = a
      · have z' := (if_pos hb).symm.trans z
        cases z'
        subst hb
        exact ⟨ha, by rw [List.length_map]; exact hl, vs, _, rv, ha⟩
      · have z' := (if_neg hb).symm.trans z
        cases z'
    · by_cases hb : b = a
      · exact hb
      · exact absurd (if_neg hb) z
end L2

namespace L2
open PySem PySem.Spec PyProof.Rows

abbrev KOf {K : PySem.W.Frag} {h : Heap} (_ : K.In h) : PySem.W.Frag := K

/-- the goal that k_head leaves (case hc), from the law's promise. F gives the function object fd (K's own) once, then the promise over every base -/
theorem walk_of {l : PySem.W.OpenLaw} {n k : Nat} {q : Program} {loose : List Str} {XP : (Str → Option Value) → Heap → Prop} {YP : World → Heap → Prop} {d : DefRec} {K : Params → PySem.W.Frag} {CX : World → CXT} {sp : World → Sp} {x : Str}
    (hn : l.most = some n) (hn2 : n ≤ sizeLine) (hdf : d.params.defaults = []) (hr : Room k callerA)
    (hY : ∀ (w : World) (h : Heap), YP w h → (K w.params).In h)
    (F : ∀ (w : World) (mg : Str → Option Value) (fa : Addr) (h : Heap), (K w.params).In h → h.Ns mainGlobals mg → mg d.name = some (.ref fa) →
      ∃ fd : FuncData, (∀ (s : Shared) (u : Value), BindsTo s fd ⟨[u], []⟩ [(x, u)]) ∧
        ∀ base : Heap, (K w.params).In base → base.Ns mainGlobals mg → FnOk l.prog w (K w.params) mg base (CX w) k fa fd [x] (sp w))
    (hsp : ∀ (w : World) (H : Hp) (a : Addr) (ns : List Int), ns.length ≤ n → Only H → SqL (K w.params) H a (ns.map V.int) → sp w [.ref a] H (fun v _ => v = .bl true) fun _ _ _ => False)
    (hCX : ∀ (w : World) (H : Hp) (s : Shared) (e : Value) (s' : Shared), CX w [] H s (fun _ _ _ => False) e s' → False) :
    PySem.W.WalkO q loose XP YP l.row.toRowW d [] (fun f vs => PySem.call f vs) := by
  refine Att.attach_call hn hdf fun w s₀ s₁ mg mb fa o pm cd doc a vs ns G Y ho hd hcd hmg hobj hints hlen hg => ?_
  have KX := hY w _ Y
  obtain ⟨fd, hb, hF⟩ := F w mg fa _ KX G.T.g hmg
  exact law_call KX G.T.g G.T.b G.T.builtins G.T.nolimit hg hobj hints (Nat.le_trans hlen hn2) hr hF hb (fun H hO hS => hsp w H a ns hlen hO hS) fun H e s' => hCX w H s₁ e s'
end L2

/- THE LAST THEOREM (shape; LID, My.* are yours):
   My.Adr: a structure of the addresses that your layer names (classes, functions); My.Txt K t: a structure (Prop) of the equations over K;
   My.txt_mk : {K} {implicit addresses ..} (e1 : nsIn K mainGlobals "law" = some (some (.ref f))) (e2 : K.lookup f = some ⟨oc, od, .func (fnOf "law" "law" params body scope dV kV doc pm an cdv ct), sl⟩) (e3 : codeIn K cdv "law" = true) .. : ∃ t, My.Txt K t

set_option maxRecDepth 100000 in
set_option maxHeartbeats 0 in
theorem PySem.Challenge.cw_LID_holds : PySem.Challenge.rw_LID.Holds := by
  w_on; o_law; k_head; (case hw => w_witness2)
  k_fill
  refine L2.walk_of (l := PySem.Challenge.rw_LID) (n := 63) (k := 40) (x := "script") (CX := fun w => ..) (sp := fun _ => My.sp_law) rfl (by decide) rfl ⟨rfl, by decide, by decide⟩ (fun w h Y => PySem.W.kIn_of Y) ?F ?S ?C
  case F =>
    intro w mg fa h KX G hmg
    have T : ∃ t, My.Txt (L2.KOf KX) t := by
      dsimp only [L2.KOf]                          -- K must stand as «<heap const> w.params» for k_is
      refine' My.txt_mk ?e1 ?e2 ?e3 ..
      (case e1 => PySem.W.k_is)                    -- in the order: a name -> its address -> its object -> its parts
      (case e2 => PySem.W.k_is)
      ..
    obtain ⟨t, T⟩ := T
    have e0 := hmg.symm.trans (PySem.W.mg_of KX G T.law)
    cases e0                                       -- fa is the law's own address
    exact ⟨_, fun s u => .of_eq rfl, fun base kb nb => My.law_fn T kb nb⟩     -- if «.of_eq rfl» comes too early: refine' ⟨_, ?b, fun base kb nb => My.law_fn T kb nb⟩; exact fun s u => .of_eq rfl
  case S => exact fun w H a ns hl hO hS => ..
  case C => exact ..
(the tactic k_is has no namespace: write k_is) -/

/-! SHORT WORDS over the layer: a def of the text, its body, what a loop and a test want. -/
namespace L2
open PySem PySem.Spec PyProof.Rows

/-! ### the text by places -/
/-- the j-th statement of a class's body -/
def inClass (s : Stmt) (j : Nat) : Stmt := match s with
  | .ClassDef _ _ _ body _ _ _ _ _ _ _ => body.getD j (.Pass ⟨0, 0, 0, 0⟩)
  | _ => .Pass ⟨0, 0, 0, 0⟩
def defArgs (s : Stmt) : Arguments := match s with
  | .FunctionDef _ a _ _ _ _ _ _ _ _ => a
  | _ => { posonlyargs := [], args := [], vararg := none, kwonlyargs := [], kw_defaults := [], kwarg := none, defaults := [] }
def defBody (s : Stmt) : List Stmt := match s with
  | .FunctionDef _ _ b _ _ _ _ _ _ _ => b
  | _ => []
def defScope (s : Stmt) : Scope := match s with
  | .FunctionDef _ _ _ _ _ _ sc _ _ _ => sc
  | _ => { kind := .function, names := [], isGenerator := false, isCoroutine := false }

/-! ### no exception leaves a def -/
abbrev CX0 : CXT := fun _ _ _ _ _ _ => False
abbrev E0 : XK := fun _ _ _ => False
theorem pass0 {X : Cx} : Passes CX0 X E0 := fun _ _ _ _ _ _ _ h => h.elim

/-! ### a def (or method) of the text as it stands behind the top -/
structure Fun (K : PySem.W.Frag) (x qual : Str) (st : Stmt) (f : Addr) (fd : FuncData) : Prop where
  ex : ∃ (oc : Value) (od : Option Addr) (kV doc pm : Value) (an : Option Addr) (cdv ct : Value) (osl : Array (Option Value)),
    fd = PySem.W.fnOf x qual (defArgs st) (defBody st) (defScope st) .none kV doc pm an cdv ct ∧ K.lookup f = some ⟨oc, od, .func fd, osl⟩ ∧ PySem.W.codeIn K cdv qual = true
  kp : PySem.W.keepIn K (.ref f) = true
section
variable {P : Program} {w : World} {K : PySem.W.Frag} {mg : Str → Option Value} {base : Heap}
/-- THE RULE for a def: its body as a term of rules, and the reading of that term -/
theorem Fun.ok {x qual : Str} {st : Stmt} {f : Addr} {fd : FuncData} {N ps : List Str} {k : Nat} {sp : Sp} (F : Fun K x qual st f fd) (S : FnScope N ps (defScope st)) (len : ∀ vs H Q E, sp vs H Q E → vs.length = ps.length)
    (hbody : ∀ (cdv : Value) (A : Around) (outer : List Env) (s : Shared) (H : Hp) (vs : List V) (Q : VK) (E : XK), Room k (A.deeper (envOfC qual (defScope st) s.heap.objs.size f cdv)) → sp vs H Q E →
      ∃ t, PSs (cxOf CX0 P w K mg base N qual (defScope st) f cdv A outer s H E).nox (defBody st) t ∧ t { nx := fun _ H' => Q .non H', rt := Q } (start N vs) H) : FnOk P w K mg base CX0 (k + 1) f fd ps sp := by
  obtain ⟨oc, od, kV, doc, pm, an, cdv, ct, osl, rfl, lk, hcd⟩ := F.ex
  refine fn_of lk hcd S len fun A outer s H vs Q E hr hsp => ?_
  obtain ⟨t, h, q⟩ := hbody cdv A outer s H vs Q E hr hsp
  exact ⟨t, h.nox, q⟩
/-- how its arguments bind (no defaults): h is «fun _ _ _ _ _ _ us hl => match us, hl with | [_, _], _ => rfl», one _ a parameter -/
theorem Fun.binds {x qual : Str} {st : Stmt} {f : Addr} {fd : FuncData} {ps : List Str} (F : Fun K x qual st f fd)
    (h : ∀ (kV doc pm : Value) (an : Option Addr) (cdv ct : Value) (us : List Value), us.length = ps.length → bindArgs (PySem.W.fnOf x qual (defArgs st) (defBody st) (defScope st) .none kV doc pm an cdv ct) ⟨us, []⟩ = pure (ps.zip us)) : Binds K fd ps [] := by
  obtain ⟨oc, od, kV, doc, pm, an, cdv, ct, osl, rfl, lk, hcd⟩ := F.ex
  exact .all (h kV doc pm an cdv ct)
theorem fun_mk {x qual : Str} {st : Stmt} {f : Addr} {oc : Value} {od an : Option Addr} {osl : Array (Option Value)} {kV doc pm cdv ct : Value} (l : K.lookup f = some ⟨oc, od, .func (PySem.W.fnOf x qual (defArgs st) (defBody st) (defScope st) .none kV doc pm an cdv ct), osl⟩)
    (c : PySem.W.codeIn K cdv qual = true) (k : PySem.W.keepIn K (.ref f) = true) : Fun K x qual st f (PySem.W.fnOf x qual (defArgs st) (defBody st) (defScope st) .none kV doc pm an cdv ct) := ⟨⟨oc, od, kV, doc, pm, an, cdv, ct, osl, rfl, l, c⟩, k⟩
end
theorem small1000 {n : Nat} (h : n ≤ 1000) : n < sizeLine := Nat.lt_of_le_of_lt h (by decide)

/-! ### expressions in short: the name that stands in the i-th slot -/
section
variable {X : Cx}
theorem pv (i : Nat) {x : Str} {pos : Pos} (hN : X.N[i]? = some x := by rfl) (hv : Vis X.env.scope x := by first | exact Or.inl rfl | exact Or.inr (Or.inl rfl) | exact Or.inr (Or.inr rfl)) (hd : (x == ("__debug__" : Str)) = false := by decide)
    (hcd : (x == ("__classdict__" : Str)) = false := by decide) : PE X (.Name x pos) (tVar i) := pe_var hN hv hd hcd
end

/-! ### tests -/
theorem iteF {A B : Prop} (h : B) : if false = true then A else B := by
  rw [if_neg Bool.false_ne_true]
  exact h
theorem iteT {A B : Prop} (h : A) : if true = true then A else B := by
  rw [if_pos rfl]
  exact h
theorem ite2 {c A B : Prop} [Decidable c] (h1 : c → A) (h2 : ¬ c → B) : if c then A else B := by
  by_cases h : c
  · rw [if_pos h]
    exact h1 h
  · rw [if_neg h]
    exact h2 h
/-! ### heaps -/
/-- all that was tracked is as it was -/
def Same (H H' : Hp) : Prop := ∀ b o, H b = some o → H' b = some o
theorem Same.refl (H : Hp) : Same H H := fun _ _ h => h
theorem Same.trans {H H1 H2 : Hp} (a : Same H H1) (b : Same H1 H2) : Same H H2 := fun c o h => b c o (a c o h)
theorem Same.free {H H' : Hp} (e : Same H H') {l : Addr} (h : H' l = Option.none) : H l = Option.none := by
  cases q : H l with
  | none => rfl
  | some o =>
    rw [e l o q] at h
    cases h
theorem Same.seq {K : PySem.W.Frag} {H H' : Hp} {a : Addr} {xs : List V} (e : Same H H') (h : SqL K H a xs) : SqL K H' a xs := by
  rcases h with (h | ⟨o, h⟩) | h
  · exact .inl (.inl (e _ _ h))
  · exact .inl (.inr ⟨o, e _ _ h⟩)
  · exact .inr h

end L2

set_option Elab.async false
set_option linter.all false
set_option maxRecDepth 100000
set_option maxHeartbeats 4000000
/-! Words of our own over the hand layer: list comprehensions, wider arithmetic, defs in short. -/
namespace L2
open PySem PySem.Spec PyProof.Rows

/-! ### one turn of a list comprehension, whatever its target -/
section
variable {prog : Program} {w : World} {A : Around} {E : Value → Shared → Prop} {R : Result → Shared → Prop} {s : Shared}
theorem compLoop_any {elt target iter : Expr} {ifs : List Expr} {scope : Scope} {pos : Pos} {it acc : Value} {env : Env} (I : Nat → Shared → Prop)
    (turn : ∀ n s, I n s → wpAny (model prog w) A (pyNext it) (fun r s1 => match r with
      | none => R (.ok .next) s1
      | some v => wpAny (model prog w) A (letOwnedTupleGo target it v) (fun _ s1' => wpAny (model prog w) A (assign target env v) (fun _ s2 =>
          wpAny (model prog w) A (forIn ifs true fun c r => if r = true then do let ok ← isTrue c env (eval c env); pure (ForInStep.yield ok) else pure (ForInStep.yield r)) (fun ok s3 =>
            if ok = true then wpAny (model prog w) A (eval elt env) (fun x s4 =>
              wpAny (model prog w) A (call (.builtin "list.append") [acc, x]) (fun _ s5 => ∃ m, m < n ∧ I m s5) (fun _ _ => False) s4) (fun _ _ => False) s3
            else ∃ m, m < n ∧ I m s3) (fun _ _ => False) s2) (fun _ _ => False) s1') (fun _ _ => False) s1) (fun _ _ => False) s)
    (n : Nat) (h : I n s) :
    codeAny (model prog w) A (.compLoop (.ListComp elt [⟨target, iter, ifs, 0⟩] scope pos) 0 it acc env) R s := by
  refine codeAny_loop rfl I (fun n s hI => ?_) n h
  show wpAny _ A ((compTurn (.ListComp elt [⟨target, iter, ifs, 0⟩] scope pos) 0 it acc env).onRaise (fun x => do noteFrame x env; theTreesLotGoes x)) _ _ s
  refine wpAny_noted ?_
  rw [compTurn_list]
  refine wpAny_bind (wpAny_standAt (wpAny_bind (wpAny_mono (turn n s hI) (fun r s1 h1 => ?_) fun _ _ h' => h'.elim)))
  cases r with
  | none => exact wpAny_pure h1
  | some v =>
    refine wpAny_bind (wpAny_mono h1 (fun _ s1' h1' => ?_) fun _ _ h' => h'.elim)
    refine wpAny_bind (wpAny_mono h1' (fun _ s2 h2 => wpAny_bind (wpAny_mono h2 (fun ok s3 h3 => ?_) fun _ _ h' => h'.elim)) fun _ _ h' => h'.elim)
    cases ok with
    | false => exact wpAny_pure ⟨rfl, h3⟩
    | true =>
      exact wpAny_bind (wpAny_bind (wpAny_mono h3 (fun x s4 h4 => wpAny_bind (wpAny_mono h4 (fun _ s5 h5 => wpAny_pure (wpAny_pure ⟨rfl, h5⟩)) fun _ _ h' => h'.elim)) fun _ _ h' => h'.elim))
end

/-! ### the closure of a comprehension -/
def clOf (cells : List (Str × Addr)) : List (Str × NameKind) → List (Str × Addr) → List (Str × Addr)
  | [], acc => acc
  | (n, k) :: r, acc => if k == .free then clOf cells r ((n, (cells.lookup n).getD 0) :: acc) else clOf cells r acc
theorem closureFor_clOf {scope : Scope} {env : Env} (h : ∀ y ∈ scope.names, y.2 = .free → ∃ c, env.cells.lookup y.1 = some c) : closureFor scope env = pure (clOf env.cells scope.names []) := by
  simp only [closureFor]
  generalize ([] : List (Str × Addr)) = acc
  revert h
  generalize scope.names = l
  intro h
  induction l generalizing acc with
  | nil => rfl
  | cons x r ih =>
    obtain ⟨n, k⟩ := x
    have hr := ih (acc := acc) fun y hy => h y (List.mem_cons_of_mem _ hy)
    cases e : (k == NameKind.free) with
    | false =>
      simp only [List.forIn_cons, clOf, e, Bool.false_eq_true, if_false]
      exact hr
    | true =>
      obtain ⟨c, hc⟩ := h (n, k) List.mem_cons_self (by simpa using e)
      have hr' := ih (acc := (n, c) :: acc) fun y hy => h y (List.mem_cons_of_mem _ hy)
      have hc' : env.cells.lookup n = some c := hc
      simp only [List.forIn_cons, clOf, e, if_true, cellOf, hc', Option.getD_some]
      exact hr'
theorem clOf_get {cells : List (Str × Addr)} : ∀ (l : List (Str × NameKind)) (acc : List (Str × Addr)) {x : Str} {c : Addr}, (∀ y ∈ l, y.2 = .free → ∃ c, cells.lookup y.1 = some c) → (clOf cells l acc).lookup x = some c → acc.lookup x = some c ∨ cells.lookup x = some c
  | [], acc, x, c, _, h => .inl h
  | (n, k) :: r, acc, x, c, hy, h => by
    have hr : ∀ y ∈ r, y.2 = .free → ∃ c, cells.lookup y.1 = some c := fun y m => hy y (List.mem_cons_of_mem _ m)
    unfold clOf at h
    cases e : (k == NameKind.free) with
    | false =>
      rw [e] at h
      exact clOf_get r acc hr h
    | true =>
      rw [e] at h
      rcases clOf_get r _ hr h with q | q
      · rw [List.lookup_cons] at q
        obtain ⟨c', hc'⟩ := hy (n, k) List.mem_cons_self (by simpa using e)
        have hc'' : cells.lookup n = some c' := hc'
        cases en : (x == n) with
        | true =>
          rw [en] at q
          have : x = n := by simpa using en
          subst this
          rw [hc''] at q
          exact .inr (hc''.trans q)
        | false =>
          rw [en] at q
          exact .inl q
      · exact .inr q
theorem clOf_has {cells : List (Str × Addr)} : ∀ (l : List (Str × NameKind)) (acc : List (Str × Addr)) {x : Str}, ((x, NameKind.free) ∈ l ∨ (acc.lookup x).isSome = true) → ((clOf cells l acc).lookup x).isSome = true
  | [], acc, x, h => by
    rcases h with h | h
    · cases h
    · exact h
  | (n, k) :: r, acc, x, h => by
    unfold clOf
    cases e : (k == NameKind.free) with
    | false =>
      simp only [Bool.false_eq_true, if_false]
      refine clOf_has r acc ?_
      rcases h with h | h
      · rcases List.mem_cons.mp h with h | h
        · injection h with h1 h2
          subst h2
          simp at e
        · exact .inl h
      · exact .inr h
    | true =>
      simp only [if_true]
      refine clOf_has r _ ?_
      cases en : (x == n) with
      | true => exact .inr (by rw [List.lookup_cons, en]; rfl)
      | false =>
        rcases h with h | h
        · rcases List.mem_cons.mp h with h | h
          · injection h with h1 h2
            subst h1
            simp at en
          · exact .inl h
        · exact .inr (by rw [List.lookup_cons, en]; exact h)
theorem mem_of_lookup {β : Type} : ∀ {l : List (Str × β)} {x : Str} {b : β}, l.lookup x = some b → (x, b) ∈ l
  | [], _, _, h => by simp at h
  | (n, k) :: r, x, b, h => by
    rw [List.lookup_cons] at h
    cases en : (x == n) with
    | true =>
      rw [en] at h
      have : x = n := by simpa using en
      subst this
      have h' : k = b := Option.some.inj h
      subst h'
      exact List.mem_cons_self
    | false =>
      rw [en] at h
      exact List.mem_cons_of_mem _ (mem_of_lookup h)

/-- a kind looked up that is free: what relabel makes of it -/
theorem relabel_free {env : Env} : ∀ {names : List (Str × NameKind)} {x : Str}, names.lookup x = some .free →
    (names.map fun (n, k) => if (k == NameKind.free && env.scope.kind == .function && env.kindOf n == some .cell) then (n, NameKind.cell) else (n, k)).lookup x = some .cell ∨
    (names.map fun (n, k) => if (k == NameKind.free && env.scope.kind == .function && env.kindOf n == some .cell) then (n, NameKind.cell) else (n, k)).lookup x = some .free
  | [], _, h => by simp at h
  | (n, k) :: r, x, h => by
    have ih := @relabel_free env r x
    cases hx : x == n with
    | true =>
      simp only [List.lookup_cons, hx] at h
      cases h
      by_cases hc : (NameKind.free == NameKind.free && env.scope.kind == .function && env.kindOf n == some .cell) = true
      · left
        show List.lookup x ((if (NameKind.free == NameKind.free && env.scope.kind == .function && env.kindOf n == some .cell) = true then (n, NameKind.cell) else (n, NameKind.free)) :: _) = _
        rw [if_pos hc]
        simp only [List.lookup_cons, hx]
      · right
        show List.lookup x ((if (NameKind.free == NameKind.free && env.scope.kind == .function && env.kindOf n == some .cell) = true then (n, NameKind.cell) else (n, NameKind.free)) :: _) = _
        rw [if_neg hc]
        simp only [List.lookup_cons, hx]
    | false =>
      simp only [List.lookup_cons, hx] at h
      have q := ih h
      by_cases hc : (k == NameKind.free && env.scope.kind == .function && env.kindOf n == some .cell) = true
      · show List.lookup x ((if (k == NameKind.free && env.scope.kind == .function && env.kindOf n == some .cell) = true then (n, NameKind.cell) else (n, k)) :: _) = _ ∨ List.lookup x ((if (k == NameKind.free && env.scope.kind == .function && env.kindOf n == some .cell) = true then (n, NameKind.cell) else (n, k)) :: _) = _
        rw [if_pos hc]; simp only [List.lookup_cons, hx]; exact q
      · show List.lookup x ((if (k == NameKind.free && env.scope.kind == .function && env.kindOf n == some .cell) = true then (n, NameKind.cell) else (n, k)) :: _) = _ ∨ List.lookup x ((if (k == NameKind.free && env.scope.kind == .function && env.kindOf n == some .cell) = true then (n, NameKind.cell) else (n, k)) :: _) = _
        rw [if_neg hc]; simp only [List.lookup_cons, hx]; exact q
/-- a kind behind relabel that is a cell's or free was free (no cell of its own) -/
theorem relabel_back {env : Env} : ∀ {names : List (Str × NameKind)} {x : Str} {k' : NameKind}, (∀ y ∈ names, y.2 ≠ .cell) →
    (names.map fun (n, k) => if (k == NameKind.free && env.scope.kind == .function && env.kindOf n == some .cell) then (n, NameKind.cell) else (n, k)).lookup x = some k' → (k' = .cell ∨ k' = .free) → (x, NameKind.free) ∈ names
  | [], _, _, _, h, _ => by simp at h
  | (n, k) :: r, x, k', hn, h, hk => by
    have ih := @relabel_back env r x k' (fun y hy => hn y (List.mem_cons_of_mem _ hy))
    have hnk : k ≠ .cell := hn (n, k) List.mem_cons_self
    replace h : List.lookup x ((if (k == NameKind.free && env.scope.kind == .function && env.kindOf n == some .cell) = true then (n, NameKind.cell) else (n, k)) :: (r.map fun (n, k) => if (k == NameKind.free && env.scope.kind == .function && env.kindOf n == some .cell) then (n, NameKind.cell) else (n, k))) = some k' := h
    by_cases hc : (k == NameKind.free && env.scope.kind == .function && env.kindOf n == some .cell) = true
    · rw [if_pos hc] at h
      have hkf : k = .free := by
        have := (Bool.and_eq_true_iff.mp (Bool.and_eq_true_iff.mp hc).1).1
        simpa using this
      cases hx : x == n with
      | true =>
        have : x = n := by simpa using hx
        subst this
        rw [hkf]
        exact List.mem_cons_self
      | false =>
        simp only [List.lookup_cons, hx] at h
        exact List.mem_cons_of_mem _ (ih h hk)
    · rw [if_neg hc] at h
      cases hx : x == n with
      | true =>
        have : x = n := by simpa using hx
        subst this
        simp only [List.lookup_cons, hx] at h
        cases h
        rcases hk with z | z
        · exact absurd z hnk
        · rw [z]
          exact List.mem_cons_self
      | false =>
        simp only [List.lookup_cons, hx] at h
        exact List.mem_cons_of_mem _ (ih h hk)

/-! ### a comprehension's block -/
def compCx (X : Cx) (scope : Scope) (C : Addr) (s0 : Shared) (H0 : Hp) (fp : List Addr) (Nc : List Str) : Cx where
  prog := X.prog
  w := X.w
  K := X.K
  mg := X.mg
  base := X.base
  A := X.A
  N := Nc
  s₀ := s0
  H₀ := H0
  env := compEnvC scope (clOf X.env.cells scope.names []) C X.env
  outer := X.stack
  stack := X.stack
  ex := fp
  fn := fun _ => false
  calm := true
  pn := []
  xe := fun _ _ => False
/-- what the names of a comprehension must be, by those of the def around it -/
def compOk (sc out : Scope) : Bool :=
  (match sc.kind with | .function => true | _ => false) && sc.names.all fun y => match y.2 with
    | .cell => false
    | .free => (match out.names.lookup y.1 with | some .cell => true | some .free => true | _ => false)
    | .local => (match sc.names.lookup y.1 with | some .local => true | _ => false)
    | _ => true
/-- the block's names: none: its own; some i: the i-th of the def around it -/
def ixOk (sc : Scope) (N : List Str) : List Str → List (Option Nat) → Bool
  | [], [] => true
  | _ :: xs, none :: r => ixOk sc N xs r
  | x :: xs, some i :: r => (match N[i]? with | some y => decide (y = x) | none => false) && (match sc.names.lookup x with | some .free => true | _ => false) && ixOk sc N xs r
  | _, _ => false
def cSt (σ : St) : List (Option Nat) → St
  | [] => []
  | none :: r => none :: cSt σ r
  | some i :: r => (match σ[i]? with | some v => v | none => none) :: cSt σ r
theorem ixOk_len {sc : Scope} {N : List Str} : ∀ {xs : List Str} {ix : List (Option Nat)}, ixOk sc N xs ix = true → ix.length = xs.length
  | [], [], _ => rfl
  | [], _ :: _, h => by cases h
  | _ :: _, [], h => by cases h
  | _ :: xs, none :: r, h => by
    have h' : ixOk sc N xs r = true := h
    simp [ixOk_len h']
  | x :: xs, some i :: r, h => by
    have h' : ((match N[i]? with | some y => decide (y = x) | none => false) && (match sc.names.lookup x with | some .free => true | _ => false) && ixOk sc N xs r) = true := h
    simp [ixOk_len (Bool.and_eq_true_iff.mp h').2]
theorem cSt_len {σ : St} : ∀ (ix : List (Option Nat)), (cSt σ ix).length = ix.length
  | [] => rfl
  | none :: r => by simp [cSt, cSt_len r]
  | some i :: r => by simp [cSt, cSt_len r]
theorem cSt_get {sc : Scope} {N : List Str} {σ : St} : ∀ {xs : List Str} {ix : List (Option Nat)} {j : Nat} {x : Str} {v : V}, ixOk sc N xs ix = true → xs[j]? = some x → (cSt σ ix)[j]? = some (some v) →
    ∃ i : Nat, N[i]? = some x ∧ σ[i]? = some (some v) ∧ sc.names.lookup x = some .free
  | [], _, j, x, v, _, h, _ => by simp at h
  | _ :: _, [], j, x, v, h, _, _ => by cases h
  | _ :: xs, none :: r, 0, x, v, _, _, e => by simp [cSt] at e
  | _ :: xs, none :: r, j + 1, x, v, h, h1, e => by
    have h' : ixOk sc N xs r = true := h
    exact cSt_get (j := j) h' (by simpa using h1) (by simpa [cSt] using e)
  | y :: xs, some i :: r, 0, x, v, h, h1, e => by
    have h' : ((match N[i]? with | some z => decide (z = y) | none => false) && (match sc.names.lookup y with | some .free => true | _ => false) && ixOk sc N xs r) = true := h
    have h1' : y = x := by simpa using h1
    subst h1'
    obtain ⟨h2, _⟩ := Bool.and_eq_true_iff.mp h'
    obtain ⟨h3, h4⟩ := Bool.and_eq_true_iff.mp h2
    refine ⟨i, ?_, ?_, ?_⟩
    · cases q : N[i]? with
      | none => rw [q] at h3; cases h3
      | some z => rw [q] at h3; simp at h3; rw [h3]
    · cases q : σ[i]? with
      | none => simp [cSt, q] at e
      | some z => simp [cSt, q] at e; rw [e]
    · cases q : sc.names.lookup y with
      | none => rw [q] at h4; cases h4
      | some k => rw [q] at h4; cases k <;> first | rfl | cases h4
  | y :: xs, some i :: r, j + 1, x, v, h, h1, e => by
    have h' : ((match N[i]? with | some z => decide (z = y) | none => false) && (match sc.names.lookup y with | some .free => true | _ => false) && ixOk sc N xs r) = true := h
    exact cSt_get (j := j) (Bool.and_eq_true_iff.mp h').2 (by simpa using h1) (by simpa [cSt] using e)

/-- the tests of a comprehension -/
def PIfs (X : Cx) (ifs : List Expr) (t : TT) : Prop :=
  ∀ (pins : List (Addr × Obj)) (s : Shared) (σ : St) (H : Hp) (Q : Bool → Hp → Prop), Inv X pins σ H s → t σ H Q →
    wpAny (model X.prog X.w) X.A (forIn ifs true fun c r => if r = true then do let ok ← isTrue c X.env (eval c X.env); pure (ForInStep.yield ok) else pure (ForInStep.yield r)) (TP X pins σ Q) X.xe s
def tYes : TT := fun _ H Q => Q true H
theorem pifs_nil {X : Cx} : PIfs X [] tYes := fun _ _ _ H _ I h => wpAny_tests_nil ⟨H, I, h⟩
theorem pifs_one {X : Cx} {c : Expr} {t : TT} (h : PT X c t) : PIfs X [c] t := fun pins s σ H Q I q => wpAny_tests_one (h pins s σ H Q I q)

/-- what is known of the names stays known -/
def Agree (σ σ' : St) : Prop := σ'.length = σ.length ∧ ∀ (j : Nat) v, σ[j]? = some (some v) → σ'[j]? = some (some v)
theorem Agree.one (o o' : Option V) (σ : St) (h : o = none) : Agree (o :: σ) (o' :: σ) := ⟨rfl, fun j v e => by
  cases j with
  | zero => subst h; simp at e
  | succ j => simpa using e⟩
theorem Agree.two (a b : Option V) (σ : St) : Agree (none :: none :: σ) (a :: b :: σ) := ⟨rfl, fun j v e => by
  cases j with
  | zero => simp at e
  | succ j =>
    cases j with
    | zero => simp at e
    | succ j => simpa using e⟩
def CompW (J : It) (D : Addr) (g : TG) (tt : TT) (te : TE) (σ0 : St) (H0 : Hp) (Q : VK) : Prop :=
  ∃ W : Nat → Nat → List V → Hp → Prop, (∃ m, W 0 m [] H0) ∧ ∀ i m ys H2, W i m ys H2 → H2 D = some (.lst ys) ∧
    ((J.stop i H2 ∧ Q (.ref D) H2) ∨ (J.go i H2 ∧ ys.length < sizeLine ∧ ∃ (N : V → Hp → Prop) (N' : Hp → Prop),
      (∀ y H6, N y H6 → H6 D = some (.lst ys) ∧ ∃ m', m' < m ∧ W (i + 1) m' (ys ++ [y]) (upd H6 D (.lst (ys ++ [y])))) ∧ (∀ H5, N' H5 → ∃ m', m' < m ∧ W (i + 1) m' ys H5) ∧
      ∀ x H3, J.yld i H2 x H3 → g x σ0 H3 fun σ4 H4 => Agree σ0 σ4 ∧ tt σ4 H4 fun b H5 => if b = true then te σ4 H5 N else N' H5))
def tComp (ix : List (Option Nat)) (wi : TI) (g : TG) (tt : TT) (te : TE) : TE := fun σ H Q => wi σ H fun J H1 => ∀ D, H1 D = none → CompW J D g tt te (cSt σ ix) (upd H1 D (.lst [])) Q

section
variable {X : Cx} {tg iter elt : Expr} {ifs : List Expr} {scope : Scope} {pos : Pos} {pins : List (Addr × Obj)} {σ : St} {H : Hp} {s : Shared}
theorem compOk_kind (ok : compOk scope X.env.scope = true) : scope.kind = .function := by
  have h := (Bool.and_eq_true_iff.mp ok).1
  cases e : scope.kind <;> rw [e] at h <;> first | rfl | cases h
theorem compOk_all (ok : compOk scope X.env.scope = true) : ∀ y ∈ scope.names, (match y.2 with
    | .cell => false
    | .free => (match X.env.scope.names.lookup y.1 with | some .cell => true | some .free => true | _ => false)
    | .local => (match scope.names.lookup y.1 with | some .local => true | _ => false)
    | _ => true) = true := List.all_eq_true.mp (Bool.and_eq_true_iff.mp ok).2
theorem compOk_cell (ok : compOk scope X.env.scope = true) : ∀ y ∈ scope.names, y.2 ≠ .cell := fun y hy e => by
  have h := compOk_all ok y hy
  rw [e] at h
  cases h
theorem compOk_local (ok : compOk scope X.env.scope = true) : ∀ y ∈ scope.names, y.2 = .local → scope.names.lookup y.1 = some .local := fun y hy e => by
  have h := compOk_all ok y hy
  rw [e] at h
  dsimp only at h
  cases q : scope.names.lookup y.1 with
  | none => rw [q] at h; cases h
  | some k => rw [q] at h; cases k <;> first | rfl | cases h
theorem compOk_free (ok : compOk scope X.env.scope = true) : ∀ y ∈ scope.names, y.2 = .free → X.env.kindOf y.1 = some .cell ∨ X.env.kindOf y.1 = some .free := fun y hy e => by
  have h := compOk_all ok y hy
  rw [e] at h
  dsimp only at h
  show X.env.scope.names.lookup y.1 = _ ∨ X.env.scope.names.lookup y.1 = _
  cases q : X.env.scope.names.lookup y.1 with
  | none => rw [q] at h; cases h
  | some k => rw [q] at h; cases k <;> first | exact .inl rfl | exact .inr rfl | cases h
theorem comp_cells (I : Inv X pins σ H s) (ok : compOk scope X.env.scope = true) : ∀ y ∈ scope.names, y.2 = .free → ∃ c, X.env.cells.lookup y.1 = some c := fun y hy e => I.ok.has y.1 (compOk_free ok y hy e)
theorem comp_cl (I : Inv X pins σ H s) (ok : compOk scope X.env.scope = true) {x : Str} {c : Addr} (h : (clOf X.env.cells scope.names []).lookup x = some c) : X.env.cells.lookup x = some c := by
  rcases clOf_get _ _ (comp_cells I ok) h with q | q
  · simp at q
  · exact q

/-- the block's entry -/
theorem comp_inv {C : Addr} {fp : List Addr} {Nc : List Str} {ix : List (Option Nat)} {h1 : Heap} {tk : Nat} {m : Str → Option Value} (I : Inv X pins σ H s) (hc : X.calm = true) (ok : compOk scope X.env.scope = true) (hix : ixOk scope X.N Nc ix = true)
    (hfp : ∀ b ∈ fp, FpOk X pins H b ∧ b < s.heap.objs.size) (hC : C = s.heap.objs.size) (hns : h1.Ns C m) (hk : ∀ b o, s.heap.get? b = some o → h1.get? b = some o) :
    Inv (compCx X scope C s H fp Nc) [] (cSt σ ix) H { s with heap := h1, toks := tk } := by
  have lt : ∀ b o, s.heap.get? b = some o → b ≠ C := fun b o e => by rw [hC]; exact Nat.ne_of_lt (Heap.lt_size e)
  have nfs : ∀ b ∈ fp, b ∉ frs X.stack := fun b hb z => by
    obtain ⟨f1, f2, f3, _⟩ := (hfp b hb).1
    rcases List.mem_cons.mp (I.stkSub b z) with q | q
    · exact f2 q
    · exact f3 q
  refine ⟨⟨I.ok.mod, (compOk_kind (X := X) (scope := scope) ok), I.ok.glob, I.ok.blt, Nat.le_of_eq hC.symm, fun x y c e1 e2 => I.ok.inj x y c (comp_cl I ok e1) (comp_cl I ok e2), fun x hx => ?_, (fun _ _ z => nomatch z), fun _ => I.ok.hd hc, I.ok.frames, .inl rfl, fun b hb => ⟨?_, fun x c e => ?_⟩, I.bs, Nat.le_trans I.ok.bsz I.sz, fun b o e hb => ?_, nfs, I.stack, I.stkFree⟩,
    rfl, I.bare, Un.kept hk, ⟨m, hns, fun i x v e1 e2 e3 => ?_⟩, fun x c e => ?_, ?_, fun x c e => I.freeC x c (comp_cl I ok e), (fun p hp => by cases hp), I.hok.kept hk, ?_⟩
  · -- has
    have hmem : (x, NameKind.free) ∈ scope.names := by
      rcases hx with hx | hx
      · exact relabel_back (env := X.env) (compOk_cell ok) hx (.inl rfl)
      · exact relabel_back (env := X.env) (compOk_cell ok) hx (.inr rfl)
    have q := clOf_has (cells := X.env.cells) scope.names [] (x := x) (.inl hmem)
    exact Option.isSome_iff_exists.mp q
  · rw [show (compCx X scope C s H fp Nc).env.locals = C from rfl, hC]
    exact Nat.ne_of_lt (hfp b hb).2
  · exact (hfp b hb).1.2.2.2.2.1 x c (comp_cl I ok e)
  · obtain ⟨_, _, _, f4, _⟩ := (hfp b hb).1
    rcases f4 with z | z
    · exact I.ok.noex b o e z
    · exact absurd (Nat.lt_of_lt_of_le (Heap.lt_size e) (Nat.le_trans I.ok.bsz z)) (Nat.lt_irrefl _)
  · obtain ⟨j, n1, n2, n3⟩ := cSt_get hix e1 e2
    have hmem : (x, NameKind.free) ∈ scope.names := mem_of_lookup n3
    have hkind := compOk_free ok (x, .free) hmem rfl
    obtain ⟨mX, _, hl⟩ := I.loc
    have hvis : Vis X.env.scope x := .inr hkind
    obtain ⟨u, r, l⟩ := hl j x v n1 n2 hvis
    refine ⟨u, r, ?_⟩
    rcases l with ⟨k1, _⟩ | ⟨_, c, e, z⟩
    · rcases hkind with q | q
      · rw [q] at k1; cases k1
      · rw [q] at k1; cases k1
    · refine .inr ⟨relabel_free n3, c, ?_, ?_⟩
      · have q := clOf_has (cells := X.env.cells) scope.names [] (x := x) (.inl hmem)
        obtain ⟨c', hc'⟩ := Option.isSome_iff_exists.mp q
        have := comp_cl I ok hc'
        rw [e] at this
        cases this
        exact hc'
      · obtain ⟨o, ho, hd⟩ := z
        exact ⟨o, hk c o ho, hd⟩
  · obtain ⟨v, o, ho, hd⟩ := I.cell x c (comp_cl I ok e)
    exact ⟨v, o, hk c o ho, hd⟩
  · rw [show (compCx X scope C s H fp Nc).env.locals = C from rfl, hC]
    exact I.hok.fresh (Nat.le_refl _)
  · rw [cSt_len, ixOk_len hix]
    rfl

theorem comp_run {g : TG} {tt : TT} {te : TE} {Nc : List Str} {ix : List (Option Nat)} {it : Addr} {fp : List Addr} {tn : Nat → Heap → Prop} {J : It} {Q : VK} {E : Value → Shared → Prop} {RR : Value → Addr → Result → Shared → Prop}
    (I : Inv X pins σ H s) (hc : X.calm = true) (ok : compOk scope X.env.scope = true) (hix : ixOk scope X.N Nc ix = true)
    (hg : ∀ C s0 H0 fp, PG (compCx X scope C s0 H0 fp Nc) tg g) (ht : ∀ C s0 H0 fp, PIfs (compCx X scope C s0 H0 fp Nc) ifs tt) (he : ∀ C s0 H0 fp, PE (compCx X scope C s0 H0 fp Nc) elt te)
    (T : Turn X.prog X.w X.K tg J fp it tn) (t0 : tn 0 s.heap) (f0 : ∀ b ∈ fp, FpOk X pins H b)
    (h : ∀ D, H D = none → CompW J D g tt te (cSt σ ix) (upd H D (.lst [])) Q)
    (hRR : ∀ D C s' H' m, Inv X pins σ H' s' → s'.heap.Ns C m → H' C = none → X.s₀.heap.objs.size ≤ C → C ≠ X.env.locals → (∀ x c, X.env.cells.lookup x = some c → c ≠ C) → (∀ p ∈ X.pn ++ pins, p.1 ≠ C) → Q (.ref D) H' → RR (.ref D) C (.ok .next) s') :
    wpAny (model X.prog X.w) X.A (newList []) (fun acc s3 => wpAny (model X.prog X.w) X.A (newFunctionEnv scope X.env.globals (clOf X.env.cells scope.names []) [] X.env.qual none .none (some X.env)) (fun cenv s4 =>
      codeAny (model X.prog X.w) X.A (.compStart (.ListComp elt [⟨tg, iter, ifs, 0⟩] scope pos) 0 (.ref it) acc { cenv with scope := relabel scope X.env }) (RR acc cenv.locals) s4) E s3) E s := by
  have hD : H s.heap.objs.size = none := I.fresh
  obtain ⟨W, ⟨m0, w0⟩, turn⟩ := h _ hD
  refine wpAny_newList ?_
  have I0 := I.lnew (its := []) (ys := []) (t' := s.toks) .nil (Nat.zero_le _)
  have hold : ∀ b o, s.heap.get? b = some o → (s.heap.push { cls := .type "list", data := .seq ([] : List Value).toArray }).get? b = some o := fun b o e => Heap.get?_push_of_some _ e
  have f0' : ∀ b ∈ fp, FpOk X pins (upd H s.heap.objs.size (.lst [])) b ∧ b < (s.heap.push { cls := .type "list", data := .seq ([] : List Value).toArray }).objs.size := fun b hb => by
    obtain ⟨o, ho, _⟩ := T.obj _ _ t0 b hb
    have hlt := Heap.lt_size ho
    refine ⟨⟨?_, (f0 b hb).2⟩, Heap.lt_size (hold b o ho)⟩
    rw [upd_ne (Nat.ne_of_lt hlt)]
    exact (f0 b hb).1
  have t0' : tn 0 (s.heap.push { cls := .type "list", data := .seq ([] : List Value).toArray }) := T.keep _ _ _ t0 fun b hb o e => hold b o e
  clear f0 t0 I
  generalize hs0 : ({ s with heap := s.heap.push { cls := .type "list", data := .seq ([] : List Value).toArray }, toks := s.toks } : Shared) = s0 at I0
  have es0 : s0.heap = s.heap.push { cls := .type "list", data := .seq ([] : List Value).toArray } := by rw [← hs0]
  rw [← es0] at f0' t0'
  generalize s.heap.objs.size = D at *
  generalize upd H D (.lst []) = H0 at *
  refine wpAny_newFunctionEnv (compOk_cell ok) (by intro y hy; simp at hy) (fun h1 hns1 hsb1 => ?_) (compOk_kind ok)
  generalize hCe : s0.heap.objs.size = C at hns1 hsb1
  have hk1 : ∀ b o, s0.heap.get? b = some o → h1.get? b = some o := fun b o e => hsb1.extBut b o (by rw [← hCe]; exact Nat.ne_of_lt (Heap.lt_size e)) (Heap.get?_push_of_some _ e)
  have IC := comp_inv (C := C) (fp := fp) (Nc := Nc) (ix := ix) (h1 := h1) (tk := s0.toks + ([] : List (Str × Value)).length) I0 hc ok hix f0' hCe.symm hns1 hk1
  have t1 : tn 0 h1 := T.keep _ _ _ t0' fun b hb o e => hk1 b o e
  have fpx : ∀ {H' : Hp} {pl : List (Addr × Obj)}, (∀ p ∈ pl, p.1 ∉ fp) → (∀ b ∈ fp, H' b = none) → ∀ b ∈ fp, FpOk (compCx X scope C s0 H0 fp Nc) pl H' b := fun {H' pl} hpl hn b hb =>
    ⟨hn b hb, (IC.ok.exf b hb).1, IC.ok.exfs b hb, .inl hb, (IC.ok.exf b hb).2, fun p hp e => hpl p (by simpa [compCx] using hp) (e ▸ hb)⟩
  have loop : ∀ s1 : Shared, s1 = { s0 with heap := h1, toks := s0.toks + ([] : List (Str × Value)).length } →
      codeAny (model X.prog X.w) X.A (.compLoop (.ListComp elt [⟨tg, iter, ifs, 0⟩] scope pos) 0 (.ref it) (.ref D) (compCx X scope C s0 H0 fp Nc).env) (RR (.ref D) C) s1 := by
    rintro s1 rfl
    refine compLoop_any (fun n s' => ∃ i ys H', Inv (compCx X scope C s0 H0 fp Nc) [] (cSt σ ix) H' s' ∧ tn i s'.heap ∧ (∀ b ∈ fp, H' b = none) ∧ W i n ys H') ?_ m0 ⟨0, [], _, IC, t1, fun b hb => (f0' b hb).1.1, w0⟩
    rintro n s3 ⟨i, ys, H3, I3, st3, fr3, w3⟩
    obtain ⟨hD3, alt⟩ := turn i n ys H3 w3
    rcases alt with ⟨stop, qn⟩ | ⟨go, hlen, N, N', hN, hN', step⟩
    · refine thn (T.done (compCx X scope C s0 H0 fp Nc) rfl rfl rfl rfl i [] s3 _ H3 (fun _ _ => False) I3 (fpx (fun p hp => by cases hp) fr3) st3 stop) fun r s4 ⟨hr, I4⟩ => ?_
      subst hr
      have J4 : Inv X pins σ H3 s4 := I0.call' (s' := s4) (ch := fp) I4.os I4.base I4.hok I4.bare fun b hb => ⟨(f0' b hb).1.2.2.2.1, (f0' b hb).1.2.1, (f0' b hb).1.2.2.2.2.1, (f0' b hb).1.2.2.2.2.2⟩
      obtain ⟨m4, hn4, _⟩ := I4.loc
      exact hRR D C s4 H3 m4 J4 hn4 I4.free (by rw [← hCe]; exact I0.sz) (by rw [← hCe]; exact (Nat.ne_of_lt I0.lt).symm)
        (fun x c e z => by
          obtain ⟨_, o, ho, _⟩ := I0.cell x c e
          have := Heap.lt_size ho
          rw [z, ← hCe] at this
          exact Nat.lt_irrefl _ this)
        (fun p hp z => by
          have := Heap.lt_size (I0.pin p hp).1
          rw [z, ← hCe] at this
          exact Nat.lt_irrefl _ this) qn
    · refine thn (T.item (compCx X scope C s0 H0 fp Nc) rfl rfl rfl rfl i [] s3 _ H3 (fun _ _ => False) I3 (fpx (fun p hp => by cases hp) fr3) st3 go) fun r s4 ⟨u, hr, h4⟩ => ?_
      subst hr
      refine thn h4 fun _ s5 ⟨x, H5, I5, r5, y5, st5, fr5⟩ => ?_
      have I5' := I5.pinned (fpx (fun p hp => by cases hp) fr5) (T.obj _ _ st5)
      refine thn (hg C s0 H0 fp _ s5 _ H5 x u _ I5' r5 (step x H5 y5)) fun _ s6 ⟨σ6, H6, I6, hag, q6⟩ => ?_
      refine thn (ht C s0 H0 fp _ s6 σ6 H6 _ I6 q6) fun ok7 s7 ⟨H7, I7, q7⟩ => ?_
      have again : ∀ {H8 : Hp} {s8 : Shared} {zs : List V} {m' : Nat}, Inv (compCx X scope C s0 H0 fp Nc) ([] ++ pinsAt fp s5.heap) σ6 H8 s8 → m' < n → W (i + 1) m' zs H8 →
          ∃ m, m < n ∧ ∃ i ys H', Inv (compCx X scope C s0 H0 fp Nc) [] (cSt σ ix) H' s8 ∧ tn i s8.heap ∧ (∀ b ∈ fp, H' b = none) ∧ W i m ys H' := fun {H8 s8 zs m'} I8 hm w8 => by
        refine ⟨m', hm, i + 1, zs, H8, I8.unpinned.weak hag.1.symm hag.2, T.keep _ _ _ st5 fun b hb o e => (I8.pin (b, o) (List.mem_append_right _ (List.mem_append_right _ (mem_pinsAt hb e)))).1, fun b hb => ?_, w8⟩
        obtain ⟨o, e, d⟩ := T.obj _ _ st5 b hb
        exact (I8.pin (b, o) (List.mem_append_right _ (List.mem_append_right _ (mem_pinsAt hb e)))).2.1
      cases ok7 with
      | false =>
        rw [if_neg Bool.false_ne_true] at q7 ⊢
        obtain ⟨m', hm, w7⟩ := hN' _ q7
        exact again I7 hm w7
      | true =>
        rw [if_pos rfl] at q7 ⊢
        refine thn (he C s0 H0 fp _ s7 σ6 H7 _ I7 q7) fun y s8 ⟨yv, H8, I8, r8, q8⟩ => ?_
        obtain ⟨hD8, m', hm, w8⟩ := hN _ _ q8
        refine thn (mt_append (X := compCx X scope C s0 H0 fp Nc) _ s8 σ6 H8 (.ref D) [yv] (.ref D) [y] (fun v H9 => v = .non ∧ H9 = upd H8 D (.lst (ys ++ [yv]))) I8 rfl (.cons r8 .nil) ⟨D, ys, yv, rfl, rfl, hD8, hlen, rfl, rfl⟩) fun _ s9 ⟨v9, H9, I9, _, _, e9⟩ => ?_
        subst e9
        exact again I9 hm w8
  exact codeAny_compStart_list (loop _ rfl) (T.self X.A 0 _ _ _ t1 (loop _ rfl))

/-- [e for t in it if c] as a value -/
theorem pe_comp {wi : TI} {g : TG} {tt : TT} {te : TE} (Nc : List Str) (ix : List (Option Nat)) (hc : X.calm = true) (ok : compOk scope X.env.scope = true) (hix : ixOk scope X.N Nc ix = true)
    (hi : PI X tg iter wi) (hg : ∀ C s0 H0 fp, PG (compCx X scope C s0 H0 fp Nc) tg g) (ht : ∀ C s0 H0 fp, PIfs (compCx X scope C s0 H0 fp Nc) ifs tt) (he : ∀ C s0 H0 fp, PE (compCx X scope C s0 H0 fp Nc) elt te)
    (hs : ∀ x, foldedSetIterable iter X.env x = pure x := by intro _; rfl) : PE X (.ListComp elt [⟨tg, iter, ifs, 0⟩] scope pos) (tComp ix wi g tt te) := by
  intro pins s σ H Q I h
  rw [eval_ListComp]
  refine wpAny_comprehension_free (use := none) rfl hs (closureFor_clOf (comp_cells I ok)) (compOk_kind ok) (compOk_local ok) (thn (hi pins s σ H _ I h) fun xv s1 h1 => thn h1 fun itv s2 h2 => ?_)
  obtain ⟨it, fp, tn, J, H2, rfl, I2, T, st2, f2, q2⟩ := h2
  exact comp_run (RR := fun acc C => compPost (model X.prog X.w) X.A X.xe none (EP X pins σ Q) acc C) I2 hc ok hix hg ht he T st2 f2 q2
    (fun D C s' H' m J' hn hC h1 h2 h3 h4 q => ⟨m, hn, fun h' hs' => ⟨.ref D, H', J'.turned (t' := s'.toks) (fun b o nb e => hs'.extBut b o nb e) hC h2 (.inr h1) h3 h4, rfl, q⟩⟩)
/-- x = [e for t in it if c], x a plain local: the value is stored ahead of the block's end -/
theorem ps_setC {wi : TI} {g : TG} {tt : TT} {te : TE} {i : Nat} {y : Str} {py spos : Pos} (hN : X.N.Nodup) (hy : X.N[i]? = some y) (hx : Loc X.env.scope y) (Nc : List Str) (ix : List (Option Nat)) (hc : X.calm = true) (ok : compOk scope X.env.scope = true) (hix : ixOk scope X.N Nc ix = true)
    (hi : PI X tg iter wi) (hg : ∀ C s0 H0 fp, PG (compCx X scope C s0 H0 fp Nc) tg g) (ht : ∀ C s0 H0 fp, PIfs (compCx X scope C s0 H0 fp Nc) ifs tt) (he : ∀ C s0 H0 fp, PE (compCx X scope C s0 H0 fp Nc) elt te)
    (hs : ∀ x, foldedSetIterable iter X.env x = pure x := by intro _; rfl)
    (hsw : swapsWith (.ListComp elt [⟨tg, iter, ifs, 0⟩] scope pos) (some (.Name y py)) spos.line X.env = pure true := by rfl) (hf : X.fn y = true ∨ X.env.scope.names.lookup y = some .local := by first | exact .inl rfl | exact .inr rfl | assumption) :
    PS X (.Assign [.Name y py] (.ListComp elt [⟨tg, iter, ifs, 0⟩] scope pos) spos) (tAsg (tComp ix wi g tt te) (gName i)) := by
  intro pins s σ H Dn I h
  rw [exec_Assign_Name_used _ _ _ _ hsw]
  refine wpAny_bind (wpAny_standAt (wpAny_bind ?_))
  show wpAny _ X.A (do let _ ← comprehension (.ListComp elt [⟨tg, iter, ifs, 0⟩] scope pos) scope X.env _ (newList []) false (eval iter X.env) (some (assign (.Name y py) X.env))) _ _ s
  refine wpAny_bind (wpAny_mono (wpAny_comprehension_free (use := some (assign (.Name y py) X.env)) (Q := fun _ s' => SP X pins Dn .next s') rfl hs (closureFor_clOf (comp_cells I ok)) (compOk_kind ok) (compOk_local ok)
    (thn (hi pins s σ H _ I h) fun xv s1 h1 => thn h1 fun itv s2 h2 => ?_)) (fun _ s' hq => wpAny_pure (wpAny_pure hq)) fun _ _ e => e)
  obtain ⟨it, fp, tn, J, H2, rfl, I2, T, st2, f2, q2⟩ := h2
  refine comp_run (RR := fun acc C => compPost (model X.prog X.w) X.A X.xe (some (assign (.Name y py) X.env)) (fun _ s' => SP X pins Dn .next s') acc C) I2 hc ok hix hg ht he T st2 f2 q2
    (fun D C s' H' m J' hn hC h1 h2 h3 h4 q => ?_)
  show wpAny _ X.A (assign (.Name y py) X.env (.ref D)) _ _ _
  refine wpAny_assign_Name (store_ok2 J' hN hy hx (v := .ref D) rfl (fun s'' J'' ⟨a, hsb, ha⟩ => ⟨m, hn.sameBut hsb ?_, fun h' hs' => ⟨_, H', J''.turned (t' := s''.toks) (fun b o nb e => hs'.extBut b o nb e) hC h2 (.inr h1) h3 h4, q⟩⟩) hf)
  rcases ha with ha | ha
  · rw [ha]
    exact h2
  · exact (h3 _ _ ha).symm
end

/-! ### the forms one uses -/
/-- all but D is as it was -/
def Keep (D : Addr) (H H' : Hp) : Prop := ∀ b o, b ≠ D → H b = some o → H' b = some o
theorem Same.keep {H H' : Hp} (h : Same H H') (D : Addr) : Keep D H H' := fun b o _ e => h b o e
theorem Keep.upd {H : Hp} {D : Addr} {o : HO} : Keep D H (upd H D o) := fun b u n e => by rw [upd_ne n]; exact e
theorem Same.upd {H : Hp} {D : Addr} {o : HO} (h : H D = none) : Same H (upd H D o) := fun b u e => by rw [upd_ne (ne_of_none e h)]; exact e
theorem Same.updT {H H' : Hp} {D : Addr} {o : HO} (s : Same H H') (h : H D = none) : Same H (L2.upd H' D o) := fun b u e => by rw [upd_ne (ne_of_none e h)]; exact s b u e
/-- without a test, one name: the turn's value is xv i; what the element gives at turn i is told by R -/
theorem comp1 {J : It} {D : Addr} {te : TE} {σf : St} {H1 : Hp} {Q : VK} (n : Nat) (xv : Nat → V) (R : Nat → V → Hp → Prop) (hn : n < sizeLine) (hD1 : H1 D = none)
    (hgo : ∀ i H, i < n → Same H1 H → J.go i H) (hst : ∀ H, Same H1 H → J.stop n H) (hy : ∀ i H x H', i < n → Same H1 H → J.yld i H x H' → x = xv i ∧ H' = H)
    (mono : ∀ i y H H', Keep D H H' → R i y H → R i y H')
    (hs : ∀ i H ys (N : VK), i < n → Same H1 H → H D = some (.lst ys) → (∀ y H', Same H H' → R i y H' → N y H') → te (some (xv i) :: σf) H N)
    (hd : ∀ ys H, Same H1 H → H D = some (.lst ys) → ys.length = n → (∀ (i : Nat) y, ys[i]? = some y → R i y H) → Q (.ref D) H) : CompW J D (gName 0) tYes te (none :: σf) (upd H1 D (.lst [])) Q := by
  refine ⟨fun i m ys H => i ≤ n ∧ m = n - i ∧ Same H1 H ∧ H D = some (.lst ys) ∧ ys.length = i ∧ ∀ j y, ys[j]? = some y → R j y H, ⟨n, Nat.zero_le _, rfl, Same.upd hD1, upd_same, rfl, fun j y e => by simp at e⟩, ?_⟩
  rintro i m ys H ⟨hi, rfl, s1, d1, l1, r1⟩
  refine ⟨d1, ?_⟩
  by_cases hlt : i < n
  · refine .inr ⟨hgo i H hlt s1, by rw [l1]; exact Nat.lt_trans hlt hn, fun y H' => Same H H' ∧ R i y H', fun _ => False, fun y H6 q => ?_, fun _ z => z.elim, fun x H' y => ?_⟩
    · obtain ⟨s6, r6⟩ := q
      refine ⟨s6 _ _ d1, n - (i + 1), by omega, hlt, rfl, (s1.trans s6).updT hD1, upd_same, by simp [l1], fun j z e => ?_⟩
      by_cases hj : j < ys.length
      · rw [List.getElem?_append_left hj] at e
        exact mono _ _ _ _ Keep.upd (mono _ _ _ _ (s6.keep D) (r1 j z e))
      · have hj' : j = ys.length := by
          have := (List.getElem?_eq_some_iff.mp e).1
          simp at this
          omega
        subst hj'
        simp at e
        subst e
        rw [l1]
        exact mono _ _ _ _ Keep.upd r6
    · obtain ⟨rfl, rfl⟩ := hy i H x H' hlt s1 y
      refine ⟨Agree.one _ _ _ rfl, ?_⟩
      show if true = true then te (some (xv i) :: σf) H' (fun y H'' => Same H' H'' ∧ R i y H'') else False
      rw [if_pos rfl]
      exact hs i H' ys _ hlt s1 d1 fun y H6 a b => ⟨a, b⟩
  · obtain rfl : i = n := Nat.le_antisymm hi (Nat.not_lt.mp hlt)
    exact .inl ⟨hst H s1, hd ys H s1 d1 l1 r1⟩
/-- over a list -/
theorem comp_list {K : PySem.W.Frag} {a D : Addr} {xs : List V} {te : TE} {σf : St} {H1 : Hp} {Q : VK} (R : Nat → V → Hp → Prop) (hS : SqL K H1 a xs) (hz : xs.length < sizeLine) (hD1 : H1 D = none)
    (mono : ∀ i y H H', Keep D H H' → R i y H → R i y H')
    (hs : ∀ i x H ys (N : VK), xs[i]? = some x → Same H1 H → H D = some (.lst ys) → (∀ y H', Same H H' → R i y H' → N y H') → te (some x :: σf) H N)
    (hd : ∀ ys H, Same H1 H → H D = some (.lst ys) → ys.length = xs.length → (∀ (i : Nat) y, ys[i]? = some y → R i y H) → Q (.ref D) H) : CompW (Itl K a) D (gName 0) tYes te (none :: σf) (upd H1 D (.lst [])) Q := by
  refine comp1 xs.length (fun i => (xs[i]?).getD .non) R hz hD1 (fun i H hi s => ⟨xs, xs[i], s.seq hS, by simp [hi]⟩) (fun H s => ⟨xs, s.seq hS, Nat.le_refl _⟩) (fun i H x H' hi s y => ?_) mono (fun i H ys N hi s d hN => ?_) hd
  · obtain ⟨rfl, y⟩ := y
    have := y xs (s.seq hS)
    exact ⟨by simp [this], rfl⟩
  · have e : xs[i]? = some xs[i] := by simp [hi]
    have q := hs i xs[i] H ys N e s d hN
    rw [e]
    exact q
/-- over a range -/
theorem comp_range {lo : Int} {n : Nat} {D : Addr} {te : TE} {σf : St} {H1 : Hp} {Q : VK} (R : Nat → V → Hp → Prop) (hz : n < sizeLine) (hD1 : H1 D = none)
    (mono : ∀ i y H H', Keep D H H' → R i y H → R i y H')
    (hs : ∀ (i : Nat) H ys (N : VK), i < n → Same H1 H → H D = some (.lst ys) → (∀ y H', Same H H' → R i y H' → N y H') → te (some (.int (lo + i)) :: σf) H N)
    (hd : ∀ ys H, Same H1 H → H D = some (.lst ys) → ys.length = n → (∀ (i : Nat) y, ys[i]? = some y → R i y H) → Q (.ref D) H) : CompW (Itr lo n) D (gName 0) tYes te (none :: σf) (upd H1 D (.lst [])) Q :=
  comp1 n (fun i => .int (lo + i)) R hz hD1 (fun i H hi _ => hi) (fun H _ => Nat.le_refl _) (fun i H x H' hi s y => ⟨y.2, y.1⟩) mono hs hd
end L2

set_option Elab.async false
set_option linter.all false
set_option maxRecDepth 100000
set_option maxHeartbeats 4000000
namespace L2
open PySem PySem.Spec PyProof.Rows

/-! ### wider arithmetic -/
def CBig (i j : Int) : Prop := (-(10 ^ 200) < i ∧ i < 10 ^ 200) ∧ (-(10 ^ 200) < j ∧ j < 10 ^ 200)
def CDivB (i j : Int) : Prop := 0 < j ∧ j < 10 ^ 200
theorem big_pow : (10 : Nat) ^ 200 ≤ 2 ^ 700 := by decide +kernel
theorem big_abs {i : Int} (h : -(10 ^ 200) < i ∧ i < 10 ^ 200) : i.natAbs < 2 ^ 700 := by
  have h1 : i.natAbs < 10 ^ 200 := by
    have e : ((10 ^ 200 : Nat) : Int) = (10 : Int) ^ 200 := by simp
    have : (i.natAbs : Int) < ((10 ^ 200 : Nat) : Int) := by rw [e]; omega
    exact Int.ofNat_lt.mp this
  exact Nat.lt_of_lt_of_le h1 big_pow
theorem CBig.ok {i j : Int} (h : CBig i j) : IntMulOk i j := IntMulOk.of_le (m := 700) (n := 700) (intBits_le_iff.mpr (big_abs h.1)) (intBits_le_iff.mpr (big_abs h.2)) (by decide)
section
variable {X : Cx}
theorem op_mulW : OpR X (binaryOp .Mult) (rI CBig fun i j => .int (i * j)) := opI fun _ _ _ _ _ _ _ hc q => mul_int q hc.ok
theorem op_fdivW : OpR X (binaryOp .FloorDiv) (rI CDivB fun i j => .int (i / j)) := opI fun i j _ _ _ _ _ hc q => by
  have h1 : (0 : Int) < j := hc.1
  have h2 : j.natAbs < 2 ^ 700 := big_abs ⟨by have := hc.2; omega, hc.2⟩
  refine floordiv_int (by omega) (by rw [Int.fdiv_eq_ediv_of_nonneg i (by omega)]; exact q) (.inl (PyProof.noPylong_of_log2 ?_))
  have h3 : j.natAbs.log2 < 700 := (Nat.log2_lt (by omega)).mpr h2
  omega
end

/-! ### defs in short -/
structure Src (K : PySem.W.Frag) (mg : Str → Option Value) (x qual : Str) (st : Stmt) : Prop where
  ex : ∃ f fd, Fun K x qual st f fd ∧ mg x = some (.ref f)
theorem src_mk {K : PySem.W.Frag} {h : Heap} {mg : Str → Option Value} {x qual : Str} {st : Stmt} {f : Addr} {oc : Value} {od an : Option Addr} {osl : Array (Option Value)} {kV doc pm cdv ct : Value} (X : K.In h) (G : h.Ns mainGlobals mg)
    (a : PySem.W.nsIn K mainGlobals x = some (some (.ref f))) (l : K.lookup f = some ⟨oc, od, .func (PySem.W.fnOf x qual (defArgs st) (defBody st) (defScope st) .none kV doc pm an cdv ct), osl⟩)
    (c : PySem.W.codeIn K cdv qual = true) (k : PySem.W.keepIn K (.ref f) = true) : Src K mg x qual st := ⟨f, _, fun_mk l c k, PySem.W.mg_of X G a⟩
structure Def (P : Program) (w : World) (K : PySem.W.Frag) (mg : Str → Option Value) (base : Heap) (k : Nat) (x : Str) (ps : List Str) (sp : Sp) : Prop where
  ex : ∃ f fd, mg x = some (.ref f) ∧ PySem.W.keepIn K (.ref f) = true ∧ Binds K fd ps [] ∧ FnOk P w K mg base CX0 k f fd ps sp ∧ ∃ oc od osl, K.lookup f = some ⟨oc, od, .func fd, osl⟩
section
variable {P : Program} {w : World} {K : PySem.W.Frag} {mg : Str → Option Value} {base : Heap}
theorem Src.mk' {x qual : Str} {st : Stmt} {N ps : List Str} {k : Nat} {sp : Sp} (S : Src K mg x qual st) (Sc : FnScope N ps (defScope st)) (len : ∀ vs H Q E, sp vs H Q E → vs.length = ps.length)
    (hb : ∀ (kV doc pm : Value) (an : Option Addr) (cdv ct : Value) (us : List Value), us.length = ps.length → bindArgs (PySem.W.fnOf x qual (defArgs st) (defBody st) (defScope st) .none kV doc pm an cdv ct) ⟨us, []⟩ = pure (ps.zip us))
    (hbody : ∀ (f : Addr) (cdv : Value) (A : Around) (outer : List Env) (s : Shared) (H : Hp) (vs : List V) (Q : VK) (E : XK), Room k (A.deeper (envOfC qual (defScope st) s.heap.objs.size f cdv)) → sp vs H Q E →
      ∃ t, PSs (cxOf CX0 P w K mg base N qual (defScope st) f cdv A outer s H E).nox (defBody st) t ∧ t { nx := fun _ H' => Q .non H', rt := Q } (start N vs) H) : Def P w K mg base (k + 1) x ps sp := by
  obtain ⟨f, fd, F, hm⟩ := S.ex
  obtain ⟨oc, od, _, _, _, _, _, _, osl, _, lk, _⟩ := F.ex
  exact ⟨f, fd, hm, F.kp, F.binds hb, F.ok Sc len (hbody f), oc, od, osl, lk⟩
theorem Def.mono {j k : Nat} {x : Str} {ps : List Str} {sp : Sp} (D : Def P w K mg base j x ps sp) (h : j ≤ k) : Def P w K mg base k x ps sp := by
  obtain ⟨f, fd, a, b, c, d, e⟩ := D.ex
  exact ⟨f, fd, a, b, c, d.mono h, e⟩
end
section
variable {X : Cx} {k : Nat} {x : Str} {ps : List Str} {sp : Sp} {p pos : Pos} {e : Expr} {es : List Expr} {t : TA}
theorem pe_def (D : Def X.prog X.w X.K X.mg X.base k x ps sp) (hr : Room k X.A) (hg : Gl X x) (ha : PA X (e :: es) t) (hdb : (x == ("__debug__" : Str)) = false := by decide) (he : starEach (e :: es) X.env = (false, eval e X.env) :: starEach es X.env := by rfl)
    (hpl : (backTo pos (starEach es X.env)).any (·.1) = false := by rfl) : PE X (.Call (.Name x p) (e :: es) [] pos) (tCall sp [] E0 t) := by
  obtain ⟨f, fd, hm, hk, hb, F, _⟩ := D.ex
  exact pe_call F hr hg hm hk hb .nil pass0 ha hdb he hpl
end

/-! ### isinstance of a built-in type -/
section
variable {X : Cx}
def rIs (K : PySem.W.Frag) : List V → Hp → VK → Prop := fun xs H Q => ∃ x n t b, xs = [x, .ty n] ∧ TyOf K H x t ∧ PySem.W.kitOne K t (.type n) = some b ∧ Q (.bl b) H
theorem call_isinst : CallR X (.builtin "isinstance") (rIs X.K) := by
  intro pins s σ H xs us Q I r h
  obtain ⟨x, n, t, b, rfl, ty, e, q⟩ := h
  obtain ⟨u, u2, rfl, ru, r2⟩ := vals2 r
  have e2 : u2 = Value.type n := r2
  subst e2
  exact isinst_ok I ru ty e fun tk => ⟨.bl b, H, I.tok tk, rfl, q⟩
theorem boot_len' : bootBuiltins "len" = some (.builtin "len") := by decide +kernel
theorem boot_isinstance' : bootBuiltins "isinstance" = some (.builtin "isinstance") := by decide +kernel
theorem boot_sum' : bootBuiltins "sum" = some (.builtin "sum") := by decide +kernel
theorem boot_min' : bootBuiltins "min" = some (.builtin "min") := by decide +kernel
theorem boot_max' : bootBuiltins "max" = some (.builtin "max") := by decide +kernel
theorem boot_all' : bootBuiltins "all" = some (.builtin "all") := by decide +kernel
theorem boot_any' : bootBuiltins "any" = some (.builtin "any") := by decide +kernel
theorem boot_bool' : bootBuiltins "bool" = some (.type "bool") := by decide +kernel
theorem boot_int' : bootBuiltins "int" = some (.type "int") := by decide +kernel
theorem boot_list' : bootBuiltins "list" = some (.type "list") := by decide +kernel
theorem boot_enumerate' : bootBuiltins "enumerate" = some (.type "enumerate") := by decide +kernel
theorem kit_same (K : PySem.W.Frag) (n : String) : PySem.W.kitOne K (.type n) (.type n) = some true := by
  unfold PySem.W.kitOne
  rw [if_pos (beq_self_eq_true _)]
end

/-! ### enumerate over a list -/
def Ite (K : PySem.W.Frag) (a : Addr) : It :=
  ⟨fun i H => ∃ xs x, SqL K H a xs ∧ xs[i]? = some x, fun i H x H' => ∃ T, H T = none ∧ x = .ref T ∧ ∀ xs, SqL K H a xs → ∃ v, xs[i]? = some v ∧ H' = upd H T (.tup [.int i, v]), fun i H => ∃ xs, SqL K H a xs ∧ xs.length ≤ i⟩
theorem Inv.turnNew {X : Cx} {pins : List (Addr × Obj)} {σ : St} {H : Hp} {s : Shared} {e it T : Addr} {h' : Heap} {xs : List V} {t' : Nat} (I : Inv X pins σ H s) (k : ∀ b o, b ≠ e → b ≠ it → s.heap.get? b = some o → h'.get? b = some o) (fe : FpOk X pins H e) (fi : FpOk X pins H it)
    (hT : T = s.heap.objs.size) (new : ObjOk X.prog X.w (upd H T (.tup xs)) h' T (.tup xs)) : Inv X pins σ (upd H T (.tup xs)) { s with heap := h', toks := t' } := by
  have hn : H T = none := by rw [hT]; exact I.fresh
  have nT : ∀ b o, s.heap.get? b = some o → b ≠ T := fun b o e => by rw [hT]; exact Nat.ne_of_lt (Heap.lt_size e)
  have nch : ∀ b, b ∉ [e, it] → b ≠ e ∧ b ≠ it := fun b h => ⟨fun z => h (by simp [z]), fun z => h (by simp [z])⟩
  refine I.step (g' := s.gens) (d' := s.drawn) (ch := [e, it]) (fun b hb => ?_) (fun b o _ _ hc q _ => k b o (nch b hc).1 (nch b hc).2 q) (fun b o _ _ hc q _ => ⟨o.slots, k b o (nch b hc).1 (nch b hc).2 q⟩) (fun b o _ q n => by rw [upd_ne (nT b o q)]; exact n)
    (fun b o hc q => ⟨o, k b o (nch b hc).1 (nch b hc).2 q⟩) (fun b ys q => by rw [upd_ne (ne_of_none q hn)]; exact q) (fun b o u q => by rw [upd_ne (ne_of_none q hn)]; exact q) (fun b ps q => ⟨#[], by rw [upd_ne (ne_of_none q hn), q]; simp⟩) (fun m hm => ?_) (fun b u q => ?_) I.bare
  · rcases List.mem_cons.mp hb with z | hb
    · subst z
      exact ⟨fe.2.2.2.1, fe.2.1, fe.2.2.2.2.1, fe.2.2.2.2.2⟩
    · have z : b = it := by simpa using hb
      subst z
      exact ⟨fi.2.2.2.1, fi.2.1, fi.2.2.2.2.1, fi.2.2.2.2.2⟩
  · obtain ⟨o, es, ep, ho, r⟩ := hm
    exact ⟨o, es, ep, k _ o (Ne.symm fe.2.1) (Ne.symm fi.2.1) ho, r⟩
  · by_cases hb : b = T
    · subst hb
      rw [upd_same] at q
      cases q
      exact new
    · rw [upd_ne hb] at q
      have ne : ∀ c u, H c = some u → c ≠ e ∧ c ≠ it := fun c u z => ⟨fun w => (by rw [w, fe.1] at z; cases z), fun w => (by rw [w, fi.1] at z; cases z)⟩
      refine (I.hok b u q).stay (fun c v hc z => ?_) (fun c z => by rw [upd_ne (ne_of_none z hn)]; exact z) fun c ys z => by rw [upd_ne (ne_of_none z hn)]; exact z
      rcases hc with w | w
      · rw [w] at z ⊢
        exact k b v (ne b u q).1 (ne b u q).2 z
      · exact k c v (ne c _ w).1 (ne c _ w).2 z
theorem turn_enum {P : Program} {w : World} {K : PySem.W.Frag} {elts : List Expr} {tk : Nat} {tp : Pos} (a e it : Addr) (hne : e ≠ it) :
    Turn P w K (.Tuple elts tk tp) (Ite K a) [e, it] e (fun i h => (∃ old, IsEnum h e it (i : Nat) old) ∧ h.IsListIter it a i) where
  mem := by simp
  obj := fun i h st b hb => by
    obtain ⟨⟨old, he⟩, hit⟩ := st
    rcases List.mem_cons.mp hb with z | hb
    · subst z
      exact ⟨_, he, fun v z => by
        have z' : Data.fields _ = Data.cell v := z
        cases z'⟩
    · have z : b = it := by simpa using hb
      subst z
      obtain ⟨o, e, c, d⟩ := hit
      exact ⟨o, e, fun v z => by rw [d] at z; cases z⟩
  keep := fun i h h' st k => by
    obtain ⟨⟨old, he⟩, hit⟩ := st
    exact ⟨⟨old, k e (by simp) _ he⟩, hit.at fun o x => k it (by simp) o x⟩
  item := by
    intro X hP hw hK hc i pins s σ H E I hf st hg
    subst hP hw hK
    obtain ⟨⟨old, he⟩, hit⟩ := st
    obtain ⟨xs, x, hq, hx⟩ := hg
    obtain ⟨its, rv, p, hz⟩ := I.list hq
    obtain ⟨u, hu, ru⟩ := rv.get hx
    refine wpAny_pyNext_enum_item he hit p.isList (x := u) (by simpa using hu) hne fun h' heo hit' hT hsz hk => ?_
    refine ⟨_, rfl, wpAny_letOwnedTupleGo_enum heo fun h2 he2 hs2 => ?_⟩
    have helt : e < s.heap.objs.size := Heap.lt_size he
    have hT2 : h2.get? s.heap.objs.size = some { cls := .type "tuple", data := .seq #[.int i s.toks, u] } := (hs2.2 _ (Nat.ne_of_gt helt)).trans hT
    have I2 : Inv X pins σ (upd H s.heap.objs.size (.tup [.int i, x])) { s with heap := h2, toks := s.toks + 1 } :=
      I.turnNew (e := e) (it := it) (fun b o h1 h3 q => (hs2.2 b h1).trans (hk b o h1 h3 q)) (hf e (by simp)) (hf it (by simp)) rfl
        ⟨by show 2 ≤ sizeLine; rw [sizeLine_eq]; decide, [.int i s.toks, u], .cons ⟨_, rfl⟩ (.cons ru .nil), ⟨_, hT2, rfl, _, rfl⟩⟩
    refine ⟨.ref s.heap.objs.size, _, I2, rfl, ⟨_, I.fresh, rfl, fun ys hy => ⟨x, by rw [I.list_inj hy hq]; exact hx, rfl⟩⟩, ⟨⟨u, ?_⟩, hit'.at fun o q => (hs2.2 it hne.symm).trans q⟩, fun b hb => ?_⟩
    · have e1 : ((i + 1 : Nat) : Int) = (i : Int) + 1 := by simp
      rw [e1]
      exact he2
    · obtain ⟨o, ho, _⟩ : ∃ o, s.heap.get? b = some o ∧ True := by
        rcases List.mem_cons.mp hb with z | hb
        · subst z
          exact ⟨_, he, trivial⟩
        · have z : b = it := by simpa using hb
          subst z
          obtain ⟨o, q, _⟩ := hit
          exact ⟨o, q, trivial⟩
      rw [upd_ne (Nat.ne_of_lt (Heap.lt_size ho))]
      exact (hf b hb).1
  done := by
    intro X hP hw hK hc i pins s σ H E I hf st hg
    subst hP hw hK
    obtain ⟨⟨old, he⟩, hit⟩ := st
    obtain ⟨xs, hq, hx⟩ := hg
    obtain ⟨its, rv, p, hz⟩ := I.list hq
    obtain ⟨f0, f1, f2, f3, f4, f5⟩ := hf it (by simp)
    have hl := rv.length
    exact wpAny_pyNext_enum_end (I.ok.hd hc) he hit p.isList (by simp; omega) fun h' eb => ⟨rfl, I.turned (t' := s.toks) (fun b o hb e => eb b o hb e) f0 f1 f3 f4 f5⟩
  self := fun A i s Q E st h => by
    obtain ⟨⟨old, he⟩, _⟩ := st
    exact wpAny_pyIter_enum he h
section
variable {X : Cx}
def iEnum (K : PySem.W.Frag) (ta : TA) : TI := fun σ H R => ta σ H fun vs H1 => ∃ a, vs = [.ref a] ∧ (∃ xs, SqL K H1 a xs) ∧ R (Ite K a) H1
theorem pi_enum {l : Expr} {ta : TA} {p pos tp : Pos} {elts : List Expr} {tk : Nat} (hg : Gl X "enumerate") (hm : X.mg "enumerate" = none) (ha : PA X [l] ta) (hs : starEach [l] X.env = [(false, eval l X.env)] := by rfl) :
    PI X (.Tuple elts tk tp) (.Call (.Name "enumerate" p) [l] [] pos) (iEnum X.K ta) := by
  intro pins s σ H R I h
  refine Call_ (ld_blt I hg hm boot_enumerate' (PyProof.Rows.callWith_type1 (thn (ha pos pins s σ H _ I h) fun us s1 ⟨vs, H1, I1, r1, q1⟩ => ?_) hs rfl))
  obtain ⟨a, e, ⟨xs, hq⟩, q⟩ := q1
  subst e
  cases r1 with
  | cons r rr =>
    cases rr
    obtain rfl := r
    obtain ⟨its, rv, pl, hz⟩ := I1.list hq
    refine call_enumerate_list pl.isList fun h' he hit hsz hk => ?_
    refine wpAny_pyIter_enum he ?_
    refine ⟨s1.heap.objs.size + 1, [s1.heap.objs.size + 1, s1.heap.objs.size], _, _, H1, rfl, I1.kept (t' := s1.toks) hk, turn_enum a _ _ (Nat.succ_ne_self _), ⟨⟨_, he⟩, hit⟩, fun b hb => ?_, q⟩
    have hle : s1.heap.objs.size ≤ b := by
      rcases List.mem_cons.mp hb with z | hb
      · rw [z]; exact Nat.le_succ _
      · have z : b = s1.heap.objs.size := by simpa using hb
        rw [z]
        exact Nat.le_refl _
    exact I1.fpOk hle (I1.hok.fresh hle)
end
/-- for i, x in enumerate(list): the body leaves the list -/
theorem for_enum {K : PySem.W.Frag} {a : Addr} {xs : List V} {g : TG} {tb : TS} {D : Ends} {σ : St} {H : Hp} (Pv : Nat → St → Hp → Prop) (h0 : Pv 0 σ H) (hl : ∀ i σ H, i ≤ xs.length → Pv i σ H → SqL K H a xs)
    (hs : ∀ i x σ H T, xs[i]? = some x → Pv i σ H → H T = none → g (.ref T) σ (upd H T (.tup [.int i, x])) fun σ2 H2 => tb { D with nx := Pv (i + 1), ct := Pv (i + 1), bk := D.nx } σ2 H2) (hd : ∀ σ H, Pv xs.length σ H → D.nx σ H) :
    ∃ W : Nat → Nat → St → Hp → Prop, (∃ m, W 0 m σ H) ∧ ∀ i m σ H, W i m σ H →
      ((Ite K a).stop i H ∧ D.nx σ H) ∨ ((Ite K a).go i H ∧ ∃ N : St → Hp → Prop, (∀ σ' H', N σ' H' → ∃ m', m' < m ∧ W (i + 1) m' σ' H') ∧ ∀ x H', (Ite K a).yld i H x H' → g x σ H' fun σ2 H2 => tb { D with nx := N, ct := N, bk := D.nx } σ2 H2) := by
  refine ⟨fun i m σ H => m = xs.length - i ∧ i ≤ xs.length ∧ Pv i σ H, ⟨xs.length, by simp, Nat.zero_le _, h0⟩, ?_⟩
  rintro i m σ H ⟨rfl, hi, p⟩
  have q := hl i σ H hi p
  by_cases hlt : i < xs.length
  · refine .inr ⟨⟨xs, xs[i], q, by simp [hlt]⟩, Pv (i + 1), fun σ' H' p' => ⟨xs.length - (i + 1), by omega, rfl, hlt, p'⟩, fun x H' y => ?_⟩
    obtain ⟨T, hT, rfl, y⟩ := y
    obtain ⟨v, hv, rfl⟩ := y xs q
    exact hs i v σ H T hv p hT
  · obtain rfl : i = xs.length := by omega
    exact .inl ⟨⟨xs, q, Nat.le_refl _⟩, hd σ H p⟩
/-- [e for i, x in enumerate(list)] -/
theorem comp_enum {K : PySem.W.Frag} {a D : Addr} {xs : List V} {te : TE} {σf : St} {H1 : Hp} {Q : VK} (R : Nat → V → Hp → Prop) (hS : SqL K H1 a xs) (hz : xs.length < sizeLine) (hD1 : H1 D = none)
    (mono : ∀ i y H H', Keep D H H' → R i y H → R i y H')
    (hs : ∀ (i : Nat) x H ys (N : VK), xs[i]? = some x → Same H1 H → H D = some (.lst ys) → (∀ y H', Same H H' → R i y H' → N y H') → te (some (.int i) :: some x :: σf) H N)
    (hd : ∀ ys H, Same H1 H → H D = some (.lst ys) → ys.length = xs.length → (∀ (i : Nat) y, ys[i]? = some y → R i y H) → Q (.ref D) H) :
    CompW (Ite K a) D (gTup K 2 (gCons (gName 0) (gCons (gName 1) gNil))) tYes te (none :: none :: σf) (upd H1 D (.lst [])) Q := by
  refine ⟨fun i m ys H => i ≤ xs.length ∧ m = xs.length - i ∧ Same H1 H ∧ H D = some (.lst ys) ∧ ys.length = i ∧ ∀ j y, ys[j]? = some y → R j y H, ⟨xs.length, Nat.zero_le _, rfl, Same.upd hD1, upd_same, rfl, fun j y e => by simp at e⟩, ?_⟩
  rintro i m ys H ⟨hi, rfl, s1, d1, l1, r1⟩
  refine ⟨d1, ?_⟩
  by_cases hlt : i < xs.length
  · refine .inr ⟨⟨xs, xs[i], s1.seq hS, by simp [hlt]⟩, by rw [l1]; exact Nat.lt_trans hlt hz, fun y H' => Same H H' ∧ R i y H', fun _ => False, fun y H6 q => ?_, fun _ z => z.elim, fun x H' y => ?_⟩
    · obtain ⟨s6, r6⟩ := q
      refine ⟨s6 _ _ d1, xs.length - (i + 1), by omega, hlt, rfl, (s1.trans s6).updT hD1, upd_same, by simp [l1], fun j z e => ?_⟩
      by_cases hj : j < ys.length
      · rw [List.getElem?_append_left hj] at e
        exact mono _ _ _ _ Keep.upd (mono _ _ _ _ (s6.keep D) (r1 j z e))
      · have hj' : j = ys.length := by
          have := (List.getElem?_eq_some_iff.mp e).1
          simp at this
          omega
        subst hj'
        simp at e
        subst e
        rw [l1]
        exact mono _ _ _ _ Keep.upd r6
    · obtain ⟨T, hT, rfl, y⟩ := y
      obtain ⟨v, hv, rfl⟩ := y xs (s1.seq hS)
      refine ⟨T, [.int i, v], rfl, SqT.of upd_same, rfl, _, _, rfl, _, _, rfl, rfl, Agree.two _ _ _, ?_⟩
      show if true = true then te (some (.int i) :: some v :: σf) (upd H T (.tup [.int i, v])) (fun y H' => Same H H' ∧ R i y H') else False
      rw [if_pos rfl]
      have nTD : D ≠ T := ne_of_none d1 hT
      exact hs i v _ ys _ hv (s1.trans (Same.upd hT)) (by rw [upd_ne nTD]; exact d1) fun y H6 a b => ⟨(Same.upd hT).trans a, b⟩
  · obtain rfl : i = xs.length := Nat.le_antisymm hi (Nat.not_lt.mp hlt)
    exact .inl ⟨⟨xs, s1.seq hS, Nat.le_refl _⟩, hd ys H s1 d1 l1 r1⟩
end L2
namespace L2
open PySem PySem.Spec PyProof.Rows
/-! ### ways that meet -/
def tJoin (t : TS) : TS := fun D σ H => ∃ N : St → Hp → Prop, t { D with nx := N } σ H ∧ ∀ σ' H', N σ' H' → D.nx σ' H'
theorem ps_join {X : Cx} {st : Stmt} {t : TS} (h : PS X st t) : PS X st (tJoin t) := by
  intro pins s σ H D I q
  obtain ⟨N, q, hN⟩ := q
  refine thn (h pins s σ H _ I q) fun f s' z => ?_
  cases f with
  | next => obtain ⟨σ', H', I', n⟩ := z; exact ⟨σ', H', I', hN σ' H' n⟩
  | brk => exact z
  | cont => exact z
  | ret v => exact z
theorem len_small {n : Nat} (h : n ≤ 1000) : n ≤ sizeLine := Nat.le_of_lt (small1000 h)
theorem atI_int {α : Type} {xs : List α} {z : Int} (j : Nat) {v : α} (hz : z = (j : Int)) (h : xs[j]? = some v) : atI xs z = some v := by
  subst hz
  exact atI_nat h
end L2

namespace L2
open PySem PySem.Spec PyProof.Rows
/-! ### new objects, the heap behind them a letter -/
structure New (H : Hp) (p : Addr) (o : HO) (H' : Hp) : Prop where
  same : Same H H'
  none : H p = Option.none
  at_ : H' p = some o
theorem new_upd {H : Hp} {p : Addr} {o : HO} (h : H p = Option.none) : New H p o (upd H p o) := ⟨Same.upd h, h, upd_same⟩
section
variable {X : Cx} {es : List Expr} {t : TA} {pos : Pos}
def tTup' (t : TA) : TE := fun σ H Q => t σ H fun xs H1 => xs.length ≤ sizeLine ∧ ∀ p H', New H1 p (.tup xs) H' → Q (.ref p) H'
def tLst' (t : TA) : TE := fun σ H Q => t σ H fun xs H1 => xs.length ≤ sizeLine ∧ ∀ p H', New H1 p (.lst xs) H' → Q (.ref p) H'
theorem OpR.imp {f : Value → Value → Sem Value} {r r' : R2} (h : OpR X f r) (i : ∀ x y H Q, r' x y H Q → r x y H Q) : OpR X f r' := fun pins s σ H x y v u Q I rx ry q => h pins s σ H x y v u Q I rx ry (i _ _ _ _ q)
theorem SlR.imp {r r' : V → Option Int → Option Int → Hp → VK → Prop} (h : SlR X r) (i : ∀ x l u H Q, r' x l u H Q → r x l u H Q) : SlR X r' := fun pins s σ H x v vl vu lo hi sl Q I rx hs pl pu q => h pins s σ H x v vl vu lo hi sl Q I rx hs pl pu (i _ _ _ _ _ q)
theorem CallR.imp {f : Value} {r r' : List V → Hp → VK → Prop} (h : CallR X f r) (i : ∀ xs H Q, r' xs H Q → r xs H Q) : CallR X f r' := fun pins s σ H xs us Q I rv q => h pins s σ H xs us Q I rv (i _ _ _ q)
def rSlL' (K : PySem.W.Frag) : V → Option Int → Option Int → Hp → VK → Prop := fun x lo hi H Q => ∃ a xs, x = .ref a ∧ SqL K H a xs ∧ ∀ p H', New H p (.lst (cutV xs lo hi)) H' → Q (.ref p) H'
theorem sl_list' : SlR X (rSlL' X.K) := sl_list.imp fun x l u H Q ⟨a, xs, e, h, q⟩ => ⟨a, xs, e, h, fun p hp => q p _ (new_upd hp)⟩
def rCat' : R2 := fun x y H Q => ∃ l b xs zs, x = .ref l ∧ y = .ref b ∧ H l = some (.lst xs) ∧ H b = some (.lst zs) ∧ xs.length + zs.length ≤ sizeLine ∧ ∀ p H', New H p (.lst (xs ++ zs)) H' → Q (.ref p) H'
theorem op_cat' : OpR X (binaryOp .Add) rCat' := op_cat.imp fun x y H Q ⟨l, b, xs, zs, e1, e2, h1, h2, hz, q⟩ => ⟨l, b, xs, zs, e1, e2, h1, h2, hz, fun p hp => q p _ (new_upd hp)⟩
def rRep' : R2 := fun x y H Q => ∃ l k xs, x = .ref l ∧ y = .int k ∧ H l = some (.lst xs) ∧ -(2 ^ 63) ≤ k ∧ k < 2 ^ 63 ∧ xs.length * k.toNat ≤ sizeLine ∧ ∀ p H', New H p (.lst (List.replicate k.toNat xs).flatten) H' → Q (.ref p) H'
theorem op_rep' : OpR X (binaryOp .Mult) rRep' := op_rep.imp fun x y H Q ⟨l, k, xs, e1, e2, h1, h2, h3, hz, q⟩ => ⟨l, k, xs, e1, e2, h1, h2, h3, hz, fun p hp => q p _ (new_upd hp)⟩
theorem call_list_of' : CallR X (.type "list") (fun xs H Q => ∃ p ys, xs = [.ref p] ∧ (SqL X.K H p ys ∨ SqT X.K H p ys) ∧ ∀ l H', New H l (.lst ys) H' → Q (.ref l) H') := call_list_of.imp fun xs H Q ⟨p, ys, e, h, q⟩ => ⟨p, ys, e, h, fun l hl => q l _ (new_upd hl)⟩
theorem pe_tup' {x1} (h : PA X es t) : PE X (.Tuple es x1 pos) (tTup' t) := by
  intro pins s σ H Q I hq
  refine wpAny_Tuple_spliced (thn (h pos pins s σ H _ I hq) fun us s1 ⟨xs, H1, I1, r, z, q⟩ => ⟨by rw [← r.length]; exact z, ?_⟩)
  refine ⟨.ref s1.heap.objs.size, _, I1.laid (t' := s1.toks) (o := .tup xs) (fun b u e => Heap.get?_push_of_some _ e) (Nat.le_refl _) ?_, rfl, q _ _ (new_upd I1.fresh)⟩
  exact ⟨z, us, r, ⟨_, Heap.get?_push_size _ rfl, rfl, _, rfl⟩⟩
theorem pe_lst' (h : PA X es t) : PE X (.List es pos) (tLst' t) := by
  intro pins s σ H Q I hq
  refine wpAny_List_spliced (thn (h pos pins s σ H _ I hq) fun us s1 ⟨xs, H1, I1, r, z, q⟩ => ⟨by rw [← r.length]; exact z, ?_⟩)
  refine ⟨.ref s1.heap.objs.size, _, I1.laid (t' := s1.toks) (o := .lst xs) (fun b u e => Heap.get?_push_of_some _ e) (Nat.le_refl _) ?_, rfl, q _ _ (new_upd I1.fresh)⟩
  exact ⟨z, us, 0, r, Heap.get?_push_size _ rfl⟩
end
end L2

set_option Elab.async false
set_option linter.all false
set_option maxRecDepth 100000
set_option maxHeartbeats 4000000
namespace L2
open PySem PySem.Spec PyProof.Rows
/-! ### kinds of built-in things -/
theorem kit_ib (K : PySem.W.Frag) : PySem.W.kitOne K (.type "int") (.type "bool") = some false := by kernel_rfl
/-! ### two lists of ints -/
theorem all_eq : ∀ (ns ms : List Int), ns.length = ms.length → ((List.range ns.length).all fun j => decide (ns[j]? = ms[j]?)) = decide (ns = ms) := fun ns ms hl => by
  by_cases h : ns = ms
  · subst h
    rw [decide_eq_true rfl]
    exact List.all_eq_true.mpr fun j _ => decide_eq_true rfl
  · rw [decide_eq_false h]
    refine Bool.eq_false_iff.mpr fun q => h (List.ext_getElem? fun j => ?_)
    have q := List.all_eq_true.mp q
    by_cases hj : j < ns.length
    · exact of_decide_eq_true (q j (List.mem_range.mpr hj))
    · rw [List.getElem?_eq_none_iff.mpr (by omega), List.getElem?_eq_none_iff.mpr (by omega)]
section
variable {X : Cx}
theorem ints_eqAt {A : Around} {s : Shared} {ns ms : List Int} {us ws : List Value} (r1 : Vals (ns.map V.int) us) (r2 : Vals (ms.map V.int) ws) (j : Nat) (h1 : j < us.toArray.size) (h2 : j < ws.toArray.size) :
    SeqAt.EqAt A s us.toArray[j] ws.toArray[j] (decide (ns[j]? = ms[j]?)) := by
  have l1 := r1.length
  have l2 := r2.length
  simp at l1 l2 h1 h2
  have g1 : (ns.map V.int)[j]? = some (.int ns[j]) := by simp [l1, h1]
  have g2 : (ms.map V.int)[j]? = some (.int ms[j]) := by simp [l2, h2]
  obtain ⟨u, e1, q1⟩ := r1.get g1
  obtain ⟨v, e2, q2⟩ := r2.get g2
  have e1' : us.toArray[j] = u := by
    have := List.getElem?_eq_some_iff.mp e1
    obtain ⟨_, z⟩ := this
    simpa using z
  have e2' : ws.toArray[j] = v := by
    have := List.getElem?_eq_some_iff.mp e2
    obtain ⟨_, z⟩ := this
    simpa using z
  rw [e1', e2']
  have k := eqAt_V (A := A) (s := s) q1 q2 rfl rfl
  have e3 : eqV (V.int ns[j]) (V.int ms[j]) = decide (ns[j]? = ms[j]?) := by
    show (ns[j] == ms[j]) = _
    simp [List.getElem?_eq_getElem, l1, l2, h1, h2, Bool.beq_eq_decide_eq]
  rw [e3] at k
  exact k
def rEqLI (K : PySem.W.Frag) (neg : Bool) : R2 := fun x y H Q => ∃ (a b : Addr) (ns ms : List Int), x = .ref a ∧ y = .ref b ∧ SqL K H a (ns.map V.int) ∧ SqL K H b (ms.map V.int) ∧ Q (.bl (if neg = true then !decide (ns = ms) else decide (ns = ms))) H
theorem op_eqLI (hu : X.A.units < cLine) : OpR X (compareOp .Eq) (rEqLI X.K false) := by
  intro pins s σ H x y v u Q I rx ry h
  obtain ⟨a, b, ns, ms, rfl, rfl, ha, hb, q⟩ := h
  cases rx
  cases ry
  obtain ⟨is, r1, p1, z1⟩ := I.list ha
  obtain ⟨js, r2, p2, z2⟩ := I.list hb
  have l1 := r1.length
  have l2 := r2.length
  simp at l1 l2
  by_cases hl : ns.length = ms.length
  · refine SeqAt.eq_listAt (e := fun j => decide (ns[j]? = ms[j]?)) p1.isList p2.isList (by simp; omega) hu (fun j h1 h2 => ints_eqAt r1 r2 j h1 h2) ?_
    have e : ((List.range is.toArray.size).all fun j => decide (ns[j]? = ms[j]?)) = decide (ns = ms) := by
      rw [List.size_toArray, ← l1]
      exact all_eq ns ms hl
    rw [e]
    exact ⟨.bl (decide (ns = ms)), H, I, rfl, q⟩
  · refine SeqAt.eq_list_lengthsAt p1.isList p2.isList (by simp; omega) hu ?_
    have e : decide (ns = ms) = false := decide_eq_false fun z => hl (by rw [z])
    rw [e] at q
    exact ⟨.bl false, H, I, rfl, q⟩
end
end L2
namespace L2
open PySem PySem.Spec PyProof.Rows
/-! ### the same rules, the written part by its own name -/
section
variable {X : Cx} {K : PySem.W.Frag}
theorem ix_seqK (h : X.K = K) : IxR X (rIx K) := h ▸ ix_seq
theorem sl_listK (h : X.K = K) : SlR X (rSlL' K) := h ▸ sl_list'
def rLen (K : PySem.W.Frag) : List V → Hp → VK → Prop := fun xs H Q => ∃ p ys, xs = [.ref p] ∧ (SqL K H p ys ∨ SqT K H p ys) ∧ Q (.int ys.length) H
theorem call_lenK (h : X.K = K) : CallR X (.builtin "len") (rLen K) := h ▸ call_len_seq
theorem call_isinstK (h : X.K = K) : CallR X (.builtin "isinstance") (rIs K) := h ▸ call_isinst
def rListOf (K : PySem.W.Frag) : List V → Hp → VK → Prop := fun xs H Q => ∃ p ys, xs = [.ref p] ∧ (SqL K H p ys ∨ SqT K H p ys) ∧ ∀ l H', New H l (.lst ys) H' → Q (.ref l) H'
theorem call_list_ofK (h : X.K = K) : CallR X (.type "list") (rListOf K) := h ▸ call_list_of'
theorem op_eqLK (h : X.K = K) (hu : X.A.units < cLine) : OpR X (compareOp .Eq) (rEqLI K false) := h ▸ op_eqLI hu
theorem op_notIn_seqK (h : X.K = K) : OpR X (compareOp .NotIn) (rIn K true) := h ▸ op_notIn_seq
theorem pi_listK {tg l : Expr} {tl : TE} (h : X.K = K) (hl : PE X l tl) : PI X tg l (iList K tl) := h ▸ pi_list hl
theorem pi_enumK {l : Expr} {ta : TA} {p pos tp : Pos} {elts : List Expr} {tk : Nat} (h : X.K = K) (hg : Gl X "enumerate") (hm : X.mg "enumerate" = none) (ha : PA X [l] ta) (hs : starEach [l] X.env = [(false, eval l X.env)] := by rfl) :
    PI X (.Tuple elts tk tp) (.Call (.Name "enumerate" p) [l] [] pos) (iEnum K ta) := h ▸ pi_enum hg hm ha hs
theorem pg_tupK {es : List Expr} {k : Nat} {t : TGs} {n : Nat} {pos : Pos} (hK : X.K = K) (hc : X.calm = true) (h : PGs X es t)
    (hn : (assignEach es X.env).length = n := by rfl) (hst : (assignEach es X.env).findIdx? (·.1) = none := by rfl) : PG X (.Tuple es k pos) (gTup K n t) := hK ▸ pg_tup hc h hn hst
theorem pe_fldK {e : Expr} {f : Str} {pos : Pos} {ta : TE} (h : X.K = K) (he : PE X e ta) (hb : attributeBase e f X.env (eval e X.env) = eval e X.env) : PE X (.Attribute e f pos) (tFld K ta f) := h ▸ pe_fld he hb
theorem ps_fldK {o value : Expr} {f : Str} {pos pos' : Pos} {ta tv : TE} (h : X.K = K) (ha : PE X o ta) (hv : PE X value tv) (hs : swapsWith value (some (.Attribute o f pos')) pos.line X.env = pure false) : PS X (.Assign [.Attribute o f pos'] value pos) (sFld K ta tv f) := h ▸ ps_fld ha hv hs
theorem pe_bmK {o e : Expr} {es : List Expr} {to : TE} {t : TA} {name : Str} {apos cpos : Pos} {T id : String} {r : V → List V → Hp → VK → Prop} (h : X.K = K) (pa : PlainAttrs T) (slot : Slot T name id) (hty : typeOf (.builtin id) = pure (.type "method_descriptor")) (hm : MtR X id r) (ho : PE X o to) (ha : PA X (e :: es) t)
    (hbase : attributeBase o name X.env (eval o X.env) = eval o X.env := by rfl)
    (hfew : ((backTo cpos (starEach (e :: es) X.env)).all (fun x => !x.1) && (backToKw cpos (keywordEach [] X.env)).all (fun x => x.1.isSome) && decide ((e :: es).length + ([] : List Keyword).length + (if ([] : List Keyword).isEmpty then 0 else 1) < 30)) = true := by rfl)
    (hline : (apos.endLine == cpos.line) = true := by rfl) (hs : starEach (e :: es) X.env = (false, eval e X.env) :: starEach es X.env := by rfl) (hplain : (backTo cpos (starEach es X.env)).any (·.1) = false := by rfl) :
    PE X (.Call (.Attribute o name apos) (e :: es) [] cpos) (tBM K T r to t) := by
  subst h
  exact pe_bm pa slot hty hm ho ha hbase hfew hline hs hplain
end
end L2

set_option Elab.async false
set_option linter.all false
set_option maxRecDepth 100000
set_option maxHeartbeats 4000000
namespace L2
open PySem PySem.Spec PyProof.Rows
/-! ### texts by their codes -/
section
variable {X : Cx}
/-! ### zfill -/
/-! ### a name of the module that is a number or a text -/
/-! ### f-strings -/
end
/-! ### a value's ways that meet -/
def tJoinE (t : TE) : TE := fun σ H Q => ∃ N : VK, t σ H N ∧ ∀ v H', N v H' → Q v H'
theorem pe_join {X : Cx} {e : Expr} {t : TE} (h : PE X e t) : PE X e (tJoinE t) := by
  intro pins s σ H Q I q
  obtain ⟨N, q, hN⟩ := q
  refine thn (h pins s σ H _ I q) fun u s' ⟨v, H', I', r, n⟩ => ⟨v, H', I', r, hN v H' n⟩
theorem iteE {b : Bool} {A B : Prop} (e : b = false) (h : B) : if b = true then A else B := by
  rw [e]
  exact iteF h
theorem iteTr {b : Bool} {A B : Prop} (e : b = true) (h : A) : if b = true then A else B := by
  rw [e]
  exact iteT h
end L2

set_option Elab.async false
set_option linter.all false
set_option maxRecDepth 100000
set_option maxHeartbeats 4000000
namespace L2
open PySem PySem.Spec PyProof.Rows
theorem mul_bd {a b A B : Int} (a1 : -A ≤ a) (a2 : a ≤ A) (b1 : -B ≤ b) (b2 : b ≤ B) : -(A * B) ≤ a * b ∧ a * b ≤ A * B := by
  have hA : 0 ≤ A := by omega
  have hB : 0 ≤ B := by omega
  have h1 : (a.natAbs : Int) ≤ A := by omega
  have h2 : (b.natAbs : Int) ≤ B := by omega
  have h3 : ((a * b).natAbs : Int) ≤ A * B := by
    rw [Int.natAbs_mul, Int.natCast_mul]
    exact Int.mul_le_mul h1 h2 (Int.natCast_nonneg _) hA
  omega
theorem ixT {K : PySem.W.Frag} {H : Hp} {a : Addr} {xs : List V} {i : Int} {v : V} {Q : VK} (h : SqT K H a xs) (e : atI xs i = some v) (q : Q v H) : rIx K (.ref a) (.int i) H Q := .inr (.inl ⟨a, xs, i, v, rfl, rfl, h, e, q⟩)
theorem ixL {K : PySem.W.Frag} {H : Hp} {a : Addr} {xs : List V} {i : Int} {v : V} {Q : VK} (h : SqL K H a xs) (e : atI xs i = some v) (q : Q v H) : rIx K (.ref a) (.int i) H Q := .inl ⟨a, xs, i, v, rfl, rfl, h, e, q⟩
theorem ixInts {K : PySem.W.Frag} {H : Hp} {a : Addr} {ns : List Int} {i : Int} {Q : VK} (h : SqL K H a (ns.map V.int)) (h0 : 0 ≤ i) (h1 : i < ns.length) (q : ∀ z ∈ ns, Q (.int z) H) : rIx K (.ref a) (.int i) H Q := by
  have hi : i.toNat < ns.length := by omega
  refine ixL h (atI_int i.toNat (by omega) (v := .int ns[i.toNat]) (by simp [hi])) (q _ (List.getElem_mem hi))
theorem take_snoc {l : List Int} {i : Nat} {r : Int} (h : l[i]? = some r) : l.take (i + 1) = l.take i ++ [r] := by
  rw [List.take_add_one, h]
  rfl
theorem int_at {ns : List Int} {i : Nat} {x : V} (hx : (ns.map V.int)[i]? = some x) : ∃ z, ns[i]? = some z ∧ x = .int z := by
  rw [List.getElem?_map] at hx
  cases e : ns[i]? with
  | none => rw [e] at hx; cases hx
  | some z => rw [e] at hx; exact ⟨z, rfl, (Option.some.inj hx).symm⟩
theorem ints_of {ys : List V} {ns : List Int} (l : ys.length = ns.length) (h : ∀ (i : Nat) y, ys[i]? = some y → ∃ z, ns[i]? = some z ∧ y = .int z) : ys = ns.map V.int := by
  refine List.ext_getElem? fun i => ?_
  rw [List.getElem?_map]
  cases q : ys[i]? with
  | none =>
    have : ns.length ≤ i := by rw [← l]; exact List.getElem?_eq_none_iff.mp q
    rw [List.getElem?_eq_none_iff.mpr this]
    rfl
  | some y =>
    obtain ⟨z, h1, h2⟩ := h i y q
    rw [h1, h2]
    rfl
theorem cut_ints (ns : List Int) (lo hi : Option Int) : ∃ ms : List Int, cutV (ns.map V.int) lo hi = ms.map V.int ∧ ms.length ≤ ns.length := by
  refine ⟨(ns.drop (HT.sIx ns.length 0 lo)).take (HT.sIx ns.length ns.length hi - HT.sIx ns.length 0 lo), ?_, ?_⟩
  · unfold cutV
    rw [List.length_map, List.map_take, List.map_drop]
  · simp
    omega
/-! ### specs of helpers that many laws have -/
def sp_law (K : PySem.W.Frag) : Sp := fun vs H Q _ => ∃ (a : Addr) (ns : List Int), vs = [.ref a] ∧ SqL K H a (ns.map V.int) ∧ ns.length ≤ 63 ∧ ∀ H', Q (.bl true) H'
def sp_mixed : Sp := fun vs H Q _ => ∃ c k : Int, vs = [.int c, .int k] ∧ 0 ≤ k ∧ k ≤ 1000000 ∧ ∀ m : Int, 0 ≤ m → m < 2147483629 → Q (.int m) H
def sp_cell (K : PySem.W.Frag) : Sp := fun vs H Q _ => ∃ (a : Addr) (ns : List Int) (k : Int), vs = [.ref a, .int k] ∧ SqL K H a (ns.map V.int) ∧ 0 ≤ k ∧ ∀ z : Int, Q (.int z) H
def sp_whole : Sp := fun vs H Q _ => ∃ i : Int, vs = [.int i] ∧ Q (.bl true) H
/-! ### numbers written -/
/-! ### exact parts -/
end L2

set_option Elab.async false
set_option linter.all false
set_option maxRecDepth 100000
set_option maxHeartbeats 4000000
namespace L2
open PySem PySem.Spec PyProof.Rows
/-! ### sum, all, count of lists -/
theorem preSum_take (ns : List Int) : ∀ k, k ≤ ns.length → preSum (fun i => ns.getD i 0) k = (ns.take k).sum
  | 0, _ => by simp [preSum]
  | k + 1, h => by
    have hk : k < ns.length := h
    rw [preSum, preSum_take ns k (by omega), take_snoc (r := ns[k]) (by simp [hk]), List.sum_append]
    simp [hk]
section
variable {X : Cx} {K : PySem.W.Frag}
theorem Inv.moved {pins : List (Addr × Obj)} {σ : St} {H : Hp} {s s' : Shared} {o : Obj} (I : Inv X pins σ H s) (m : Moved [s.heap.objs.size] (fun a b => b = a) { s with heap := s.heap.push o } s') : Inv X pins σ H s' := by
  obtain ⟨h', g', d', t', os'⟩ := s'
  obtain ⟨m1, m2, m3, m4, m5⟩ := m
  have e1 : g' = s.gens := m2
  have e2 : d' = s.drawn := m3
  have e3 : os' = s.os := m4
  subst e1 e2 e3
  exact I.kept (t' := t') fun b u e => m1 b u (fun z => by
    have : b = s.heap.objs.size := by simpa using z
    exact absurd (Heap.lt_size e) (by rw [this]; exact Nat.lt_irrefl _)) (Heap.get?_push_of_some _ e)
def rSum (K : PySem.W.Frag) : List V → Hp → VK → Prop := fun xs H Q => ∃ (a : Addr) (ns : List Int), xs = [.ref a] ∧ SqL K H a (ns.map V.int) ∧ Q (.int ns.sum) H
theorem call_sumK (hK : X.K = K) (hc : X.calm = true) : CallR X (.builtin "sum") (rSum K) := by
  subst hK
  intro pins s σ H xs us Q I r h
  obtain ⟨a, ns, rfl, hq, q⟩ := h
  obtain ⟨u, rfl, rx⟩ := vals1 r
  cases rx
  obtain ⟨its, rv, pl, hz⟩ := I.list hq
  have hl := rv.length
  have ha : a < s.heap.objs.size := by
    obtain ⟨o, n, e, _⟩ := pl
    exact Heap.lt_size e
  have hhd : X.A.in1.handled = none := I.ok.hd hc
  refine call_sum_walkAnyS (wpAny_pyIter_list pl.isList ?_)
  refine ⟨s.heap.objs.size, _, _, _, its.toArray.size, _, _, fun i => ns.getD i 0, rfl, (Walks.list hhd s.heap.objs.size a (Nat.ne_of_lt ha) its.toArray).toS, ⟨⟨_, Heap.get?_push_size _ rfl, rfl, rfl⟩, pl.isList.push _⟩, ?_, ?_, ?_⟩
  · intro b hb
    rw [Heap.size_push]
    rcases List.mem_cons.mp hb with z | hb
    · rw [z]; exact Nat.lt_succ_self _
    · have z : b = a := by simpa using hb
      rw [z]; exact Nat.lt_succ_of_lt ha
  · intro i v hv
    have hv' : its[i]? = some v := by simpa using hv
    have hi : i < ns.length := by
      have := (List.getElem?_eq_some_iff.mp hv').1
      simp at hl
      omega
    obtain ⟨u, h1, t, h2⟩ := rv.get (i := i) (x := .int ns[i]) (by simp [hi])
    rw [hv'] at h1
    cases h1
    exact ⟨t, by rw [h2]; simp [hi]⟩
  · intro s' t' m
    refine ⟨.int ns.sum, H, I.moved m, ⟨t', ?_⟩, q⟩
    have e : its.toArray.size = ns.length := by
      rw [List.size_toArray, ← hl]; simp
    rw [e, preSum_take ns _ (Nat.le_refl _), List.take_length]
def rAll (K : PySem.W.Frag) : List V → Hp → VK → Prop := fun xs H Q => ∃ (a : Addr) (bs : List Bool), xs = [.ref a] ∧ SqL K H a (bs.map V.bl) ∧ Q (.bl (bs.all id)) H
theorem range_all (bs : List Bool) : (List.range bs.length).all (fun i => bs.getD i false) = bs.all id := by
  rw [Bool.eq_iff_iff, List.all_eq_true, List.all_eq_true]
  constructor
  · intro h b hb
    obtain ⟨i, hi, rfl⟩ := List.mem_iff_getElem.mp hb
    have := h i (List.mem_range.mpr hi)
    simpa [hi] using this
  · intro h i hi
    have hi' := List.mem_range.mp hi
    have := h bs[i] (List.getElem_mem hi')
    simpa [hi'] using this
theorem call_allK (hK : X.K = K) (hc : X.calm = true) : CallR X (.builtin "all") (rAll K) := by
  subst hK
  intro pins s σ H xs us Q I r h
  obtain ⟨a, bs, rfl, hq, q⟩ := h
  obtain ⟨u, rfl, rx⟩ := vals1 r
  cases rx
  obtain ⟨its, rv, pl, hz⟩ := I.list hq
  have hl := rv.length
  have ha : a < s.heap.objs.size := by
    obtain ⟨o, n, e, _⟩ := pl
    exact Heap.lt_size e
  have hhd : X.A.in1.handled = none := I.ok.hd hc
  refine call_all_walkS (wpAny_pyIter_list pl.isList ?_)
  refine ⟨s.heap.objs.size, _, _, _, its.toArray.size, _, _, fun i => bs.getD i false, rfl, (Walks.list hhd s.heap.objs.size a (Nat.ne_of_lt ha) its.toArray).toS, ⟨⟨_, Heap.get?_push_size _ rfl, rfl, rfl⟩, pl.isList.push _⟩, ?_, ?_⟩
  · intro i v s1 Q1 E1 hv hQ
    have hv' : its[i]? = some v := by simpa using hv
    have hi : i < bs.length := by
      have := (List.getElem?_eq_some_iff.mp hv').1
      simp at hl
      omega
    obtain ⟨u, h1, h2⟩ := rv.get (i := i) (x := .bl bs[i]) (by simp [hi])
    rw [hv'] at h1
    cases h1
    have h2' : v = Value.bool bs[i] := h2
    subst h2'
    refine wpAny_truthy_bool ?_
    have e : bs.getD i false = bs[i] := by simp [hi]
    rw [← e]
    exact hQ
  · intro s' m
    refine ⟨.bl (bs.all id), H, I.moved m, ?_, q⟩
    have e : its.toArray.size = bs.length := by
      rw [List.size_toArray, ← hl]; simp
    rw [e, range_all]
    rfl
def rCount (K : PySem.W.Frag) : V → List V → Hp → VK → Prop := fun x xs H Q => ∃ (a : Addr) (ns : List Int) (k : Int), x = .ref a ∧ xs = [.int k] ∧ SqL K H a (ns.map V.int) ∧ Q (.int ((ns.count k : Nat) : Int)) H
theorem mt_countK (hK : X.K = K) : MtR X "list.count" (rCount K) := by
  subst hK
  intro pins s σ H x xs v us Q I rx r h
  obtain ⟨a, ns, k, rfl, rfl, hq, q⟩ := h
  cases rx
  obtain ⟨u, rfl, t, rfl⟩ := vals1 r
  obtain ⟨its, rv, pl, hz⟩ := I.list hq
  exact count_list_ints pl.isList (intsAre_of rv) ⟨.int _, H, I.tok _, ⟨_, rfl⟩, q⟩
end
/-! ### a comprehension with a test, one name: the items that are kept -/
theorem compIf {J : It} {D : Addr} {tt : TT} {te : TE} {σf : St} {H1 : Hp} {Q : VK} (n : Nat) (xv : Nat → V) (p : Nat → Bool) (f : Nat → V) (hn : n < sizeLine) (hD1 : H1 D = none)
    (hgo : ∀ i H, i < n → Same H1 H → J.go i H) (hst : ∀ H, Same H1 H → J.stop n H) (hy : ∀ i H x H', i < n → Same H1 H → J.yld i H x H' → x = xv i ∧ H' = H)
    (ht : ∀ i H (N : Bool → Hp → Prop), i < n → Same H1 H → (∀ H', Same H H' → N (p i) H') → tt (some (xv i) :: σf) H N)
    (hs : ∀ i H (N : VK), i < n → p i = true → Same H1 H → (∀ H', Same H H' → N (f i) H') → te (some (xv i) :: σf) H N)
    (hd : ∀ H, Same H1 H → H D = some (.lst (((List.range n).filter p).map f)) → Q (.ref D) H) : CompW J D (gName 0) tt te (none :: σf) (upd H1 D (.lst [])) Q := by
  refine ⟨fun i m ys H => i ≤ n ∧ m = n - i ∧ Same H1 H ∧ H D = some (.lst ys) ∧ ys = ((List.range i).filter p).map f, ⟨n, Nat.zero_le _, rfl, Same.upd hD1, upd_same, rfl⟩, ?_⟩
  rintro i m ys H ⟨hi, rfl, s1, d1, rfl⟩
  refine ⟨d1, ?_⟩
  by_cases hlt : i < n
  · have hle : (((List.range i).filter p).map f).length ≤ i := by
      rw [List.length_map]
      exact Nat.le_trans (List.length_filter_le _ _) (by simp)
    refine .inr ⟨hgo i H hlt s1, by omega, fun y H' => Same H H' ∧ y = f i ∧ p i = true, fun H' => Same H H' ∧ p i = false, fun y H6 q => ?_, fun H5 q => ?_, fun x H' y => ?_⟩
    · obtain ⟨s6, rfl, hp⟩ := q
      refine ⟨s6 _ _ d1, n - (i + 1), by omega, hlt, rfl, (s1.trans s6).updT hD1, upd_same, ?_⟩
      rw [List.range_succ, List.filter_append, List.map_append]
      simp [hp]
    · obtain ⟨s5, hp⟩ := q
      refine ⟨n - (i + 1), by omega, hlt, rfl, s1.trans s5, s5 _ _ d1, ?_⟩
      rw [List.range_succ, List.filter_append, List.map_append]
      simp [hp]
    · obtain ⟨rfl, rfl⟩ := hy i H x H' hlt s1 y
      refine ⟨Agree.one _ _ _ rfl, ?_⟩
      refine ht i H' _ hlt s1 fun H5 s5 => ?_
      cases hp : p i with
      | true =>
        rw [if_pos rfl]
        exact hs i H5 _ hlt hp (s1.trans s5) fun H6 s6 => ⟨s5.trans s6, rfl, rfl⟩
      | false =>
        rw [if_neg Bool.false_ne_true]
        exact ⟨s5, rfl⟩
  · obtain rfl : i = n := Nat.le_antisymm hi (Nat.not_lt.mp hlt)
    exact .inl ⟨hst H s1, hd H s1 d1⟩
/-- over range(n) -/
theorem compIf_range {n : Nat} {D : Addr} {tt : TT} {te : TE} {σf : St} {H1 : Hp} {Q : VK} (p : Nat → Bool) (f : Nat → V) (hn : n < sizeLine) (hD1 : H1 D = none)
    (ht : ∀ (i : Nat) H (N : Bool → Hp → Prop), i < n → Same H1 H → (∀ H', Same H H' → N (p i) H') → tt (some (.int (0 + (i : Int))) :: σf) H N)
    (hs : ∀ (i : Nat) H (N : VK), i < n → p i = true → Same H1 H → (∀ H', Same H H' → N (f i) H') → te (some (.int (0 + (i : Int))) :: σf) H N)
    (hd : ∀ H, Same H1 H → H D = some (.lst (((List.range n).filter p).map f)) → Q (.ref D) H) : CompW (Itr 0 n) D (gName 0) tt te (none :: σf) (upd H1 D (.lst [])) Q :=
  compIf n (fun i => .int (0 + (i : Int))) p f hn hD1 (fun i H hi _ => hi) (fun H _ => Nat.le_refl _) (fun i H x H' hi s y => ⟨y.2, y.1⟩) ht hs hd
/-! ### zip of two lists in a for -/
section
variable {X : Cx} {K : PySem.W.Frag}
end
end L2

set_option Elab.async false
set_option linter.all false
set_option maxRecDepth 100000
set_option maxHeartbeats 4000000
namespace L2
open PySem PySem.Spec PyProof.Rows
/-! ### methods in short -/
structure MSrc (K : PySem.W.Frag) (C : Addr) (m qual : Str) (st : Stmt) : Prop where
  ex : ∃ f fd, Fun K m qual st f fd ∧ Meth K C m f
theorem msrc_mk {K : PySem.W.Frag} {C : Addr} {m qual : Str} {st : Stmt} {f : Addr} {oc : Value} {od an : Option Addr} {osl : Array (Option Value)} {kV doc pm cdv ct : Value}
    (a : PySem.W.findIn K (.ref C) m = some (some (.ref f))) (n : PySem.W.isFn K (.ref f) = true) (l : K.lookup f = some ⟨oc, od, .func (PySem.W.fnOf m qual (defArgs st) (defBody st) (defScope st) .none kV doc pm an cdv ct), osl⟩)
    (c : PySem.W.codeIn K cdv qual = true) (k : PySem.W.keepIn K (.ref f) = true) : MSrc K C m qual st := ⟨f, _, fun_mk l c k, ⟨a, n, k⟩⟩
structure MDef (P : Program) (w : World) (K : PySem.W.Frag) (mg : Str → Option Value) (base : Heap) (k : Nat) (C : Addr) (m : Str) (ps : List Str) (sp : Sp) : Prop where
  ex : ∃ f fd, Meth K C m f ∧ Binds K fd ps [] ∧ FnOk P w K mg base CX0 k f fd ps sp
section
variable {P : Program} {w : World} {K : PySem.W.Frag} {mg : Str → Option Value} {base : Heap}
theorem MSrc.mk' {C : Addr} {x qual : Str} {st : Stmt} {N ps : List Str} {k : Nat} {sp : Sp} (S : MSrc K C x qual st) (Sc : FnScope N ps (defScope st)) (len : ∀ vs H Q E, sp vs H Q E → vs.length = ps.length)
    (hb : ∀ (kV doc pm : Value) (an : Option Addr) (cdv ct : Value) (us : List Value), us.length = ps.length → bindArgs (PySem.W.fnOf x qual (defArgs st) (defBody st) (defScope st) .none kV doc pm an cdv ct) ⟨us, []⟩ = pure (ps.zip us))
    (hbody : ∀ (f : Addr) (cdv : Value) (A : Around) (outer : List Env) (s : Shared) (H : Hp) (vs : List V) (Q : VK) (E : XK), Room k (A.deeper (envOfC qual (defScope st) s.heap.objs.size f cdv)) → sp vs H Q E →
      ∃ t, PSs (cxOf CX0 P w K mg base N qual (defScope st) f cdv A outer s H E).nox (defBody st) t ∧ t { nx := fun _ H' => Q .non H', rt := Q } (start N vs) H) : MDef P w K mg base (k + 1) C x ps sp := by
  obtain ⟨f, fd, F, hm⟩ := S.ex
  exact ⟨f, fd, hm, F.binds hb, F.ok Sc len (hbody f)⟩
end
section
variable {X : Cx} {k : Nat} {C : Addr} {x m : Str} {ps : List Str} {sp : Sp} {p pos apos : Pos} {e o : Expr} {es : List Expr} {ta : TE} {t : TA}
theorem pe_mdef0 {pl : Sem Bool} (D : MDef X.prog X.w X.K X.mg X.base k C m ps sp) (c : Cls X.K C) (he : PE X o ta) (hr : Room k X.A)
    (ht : eval (.Call (.Attribute o m apos) [] [] pos) X.env = (do
      let ov ← eval o X.env
      standAt apos.atName
      let (f, first) ← holding [ov] (getMethod ov m pl)
      callWith pos f first (backTo pos (starEach [] X.env)) (backToKw pos (keywordEach [] X.env))) := by rfl) :
    PE X (.Call (.Attribute o m apos) [] [] pos) (tMeth C m sp [] E0 ta tNil) := by
  obtain ⟨f, fd, hm, hb, F⟩ := D.ex
  exact pe_meth0 (pl := pl) he c hm F hr hb .nil pass0 ht
/-- C(..) -/
theorem pe_mk (D : MDef X.prog X.w X.K X.mg X.base k C "__init__" ps sp) (mk : PySem.W.makesIn X.K C = true) (kp : PySem.W.keepIn X.K (.ref C) = true) (hm : X.mg x = some (.ref C)) (hr : Room (k + 1) X.A) (hg : Gl X x) (ha : PA X (e :: es) t)
    (hdb : (x == ("__debug__" : Str)) = false := by decide) (he : starEach (e :: es) X.env = (false, eval e X.env) :: starEach es X.env := by rfl) (hpl : (backTo pos (starEach es X.env)).any (·.1) = false := by rfl) :
    PE X (.Call (.Name x p) (e :: es) [] pos) (tMake C sp [] E0 t) := by
  obtain ⟨f, fd, M, hb, F⟩ := D.ex
  exact pe_make ⟨mk, M.at_, M.fn, kp⟩ F hr hg hm hb .nil pass0 ha hdb he hpl
end
/-! ### lists of places -/
theorem refs_ex {ys : List V} {P : Nat → Addr → Prop} (h : ∀ (i : Nat) y, ys[i]? = some y → ∃ l, y = .ref l ∧ P i l) : ∃ ws : List Addr, ys = ws.map V.ref ∧ ∀ (i : Nat) a, ws[i]? = some a → P i a := by
  induction ys generalizing P with
  | nil => exact ⟨[], rfl, fun i a e => by simp at e⟩
  | cons y r ih =>
    obtain ⟨ws, e, p⟩ := ih (P := fun i l => P (i + 1) l) fun i y' e => h (i + 1) y' (by simpa using e)
    obtain ⟨l, e1, p1⟩ := h 0 y rfl
    refine ⟨l :: ws, by rw [e1, e]; rfl, fun i a e => ?_⟩
    cases i with
    | zero => simp at e; subst e; exact p1
    | succ i => exact p i a (by simpa using e)
theorem ref_at {ws : List Addr} {i : Nat} {x : V} (hx : (ws.map V.ref)[i]? = some x) : ∃ a, ws[i]? = some a ∧ x = .ref a := by
  rw [List.getElem?_map] at hx
  cases e : ws[i]? with
  | none => rw [e] at hx; cases hx
  | some z => rw [e] at hx; exact ⟨z, rfl, (Option.some.inj hx).symm⟩
theorem putF_lt {f : Str} {v : V} {fs : List (Str × V)} {n : Nat} (h : fs.length ≤ n) : (putF f v fs).length ≤ n + 1 := by
  have := length_putF f v fs
  omega
/-! ### houses -/
/-- lists of ints at the places ws -/
def Rows (H : Hp) (ws : List Addr) (rows : List (List Int)) : Prop := ws.length = rows.length ∧ ∀ (i : Nat) a row, ws[i]? = some a → rows[i]? = some row → H a = some (.lst (row.map V.int))
def Mat (H : Hp) (w : Addr) (rows : List (List Int)) : Prop := ∃ ws : List Addr, H w = some (.lst (ws.map V.ref)) ∧ Rows H ws rows
theorem Rows.same {H H' : Hp} {ws : List Addr} {rows : List (List Int)} (r : Rows H ws rows) (s : Same H H') : Rows H' ws rows := ⟨r.1, fun i a row h1 h2 => s _ _ (r.2 i a row h1 h2)⟩
theorem Mat.same {H H' : Hp} {w : Addr} {rows : List (List Int)} (m : Mat H w rows) (s : Same H H') : Mat H' w rows := by
  obtain ⟨ws, h, r⟩ := m
  exact ⟨ws, s _ _ h, r.same s⟩
theorem Mat.len {H : Hp} {w : Addr} {rows : List (List Int)} (m : Mat H w rows) : ∃ ws : List Addr, H w = some (.lst (ws.map V.ref)) ∧ (ws.map V.ref).length = rows.length := by
  obtain ⟨ws, h, r⟩ := m
  exact ⟨ws, h, by rw [List.length_map]; exact r.1⟩
theorem Rows.at_ {H : Hp} {ws : List Addr} {rows : List (List Int)} (r : Rows H ws rows) {i : Nat} {row : List Int} (h : rows[i]? = some row) : ∃ a, ws[i]? = some a ∧ (ws.map V.ref)[i]? = some (.ref a) ∧ H a = some (.lst (row.map V.int)) := by
  have hi : i < ws.length := by rw [r.1]; exact (List.getElem?_eq_some_iff.mp h).1
  exact ⟨ws[i], by simp [hi], by simp [hi], r.2 i _ row (by simp [hi]) h⟩
def hflds (b w : Addr) (r : Int) : List (Str × V) := putF "rent" (.int r) (putF "worths" (.ref w) (putF "beds" (.ref b) []))
theorem hs1 : ¬ (("beds" : Str) = "rent") := by decide +kernel
theorem hs2 : ¬ (("beds" : Str) = "worths") := by decide +kernel
theorem hs3 : ¬ (("worths" : Str) = "rent") := by decide +kernel
theorem hf_beds (b w : Addr) (r : Int) : (hflds b w r).lookup ("beds" : Str) = some (.ref b) := by
  unfold hflds
  rw [lookup_putF, if_neg hs1, lookup_putF, if_neg hs2, lookup_putF, if_pos rfl]
theorem hf_worths (b w : Addr) (r : Int) : (hflds b w r).lookup ("worths" : Str) = some (.ref w) := by
  unfold hflds
  rw [lookup_putF, if_neg hs3, lookup_putF, if_pos rfl]
theorem hf_rent (b w : Addr) (r : Int) : (hflds b w r).lookup ("rent" : Str) = some (.int r) := by
  unfold hflds
  rw [lookup_putF, if_pos rfl]
theorem hf_no (b w : Addr) (r : Int) {m : Str} (h1 : ¬ m = "rent") (h2 : ¬ m = "worths") (h3 : ¬ m = "beds") : (hflds b w r).lookup m = none := by
  unfold hflds
  rw [lookup_putF, if_neg h1, lookup_putF, if_neg h2, lookup_putF, if_neg h3]
  rfl
structure HCls (K : PySem.W.Frag) (mg : Str → Option Value) (C : Addr) : Prop where
  mgC : mg "House" = some (.ref C)
  cl : Cls K C
  mks : PySem.W.makesIn K C = true
  kp : PySem.W.keepIn K (.ref C) = true
  nB : NoAttr K C "beds"
  nW : NoAttr K C "worths"
  nR : NoAttr K C "rent"
/-- a House stands at p -/
structure HouseAt (C : Addr) (H : Hp) (p : Addr) (beds : List Int) (worths : List (List Int)) (rent : Int) : Prop where
  ex : ∃ dx b w, H p = some (.ins C dx (hflds b w rent)) ∧ H b = some (.lst (beds.map V.int)) ∧ Mat H w worths
theorem HouseAt.same {C : Addr} {H H' : Hp} {p : Addr} {beds : List Int} {worths : List (List Int)} {rent : Int} (h : HouseAt C H p beds worths rent) (s : Same H H') : HouseAt C H' p beds worths rent := by
  obtain ⟨dx, b, w, h1, h2, h3⟩ := h.ex
  exact ⟨dx, b, w, s _ _ h1, s _ _ h2, h3.same s⟩
/-- what a drawn house keeps to -/
structure HouseOk (beds : List Int) (worths : List (List Int)) (rent : Int) (mp mr : Int) : Prop where
  b1 : 1 ≤ beds.length
  b2 : (beds.length : Int) ≤ mr
  b3 : ∀ b ∈ beds, 1 ≤ b ∧ b ≤ 4
  w1 : 1 ≤ worths.length
  w2 : (worths.length : Int) ≤ mp
  w3 : (worths.length : Int) ≤ beds.sum
  w4 : ∀ row ∈ worths, row.length = beds.length
  w5 : ∀ row ∈ worths, ∀ x ∈ row, -(10 ^ 40) < x ∧ x < 10 ^ 40
  r : -(10 ^ 40) < rent ∧ rent < 10 ^ 40
def sp_init (C : Addr) : Sp := fun vs H Q _ => ∃ (p dx b w : Addr) (beds : List Int) (worths : List (List Int)) (rent : Int), vs = [.ref p, .ref b, .ref w, .int rent] ∧ H p = some (.ins C dx []) ∧ H b = some (.lst (beds.map V.int)) ∧ Mat H w worths ∧
  beds.length ≤ 1000 ∧ worths.length ≤ 1000 ∧ (worths.length : Int) ≤ beds.sum ∧ ∀ H', HouseAt C H' p beds worths rent → (∀ c o, H c = some o → c ≠ p → H' c = some o) → Q .non H'
def sp_people (C : Addr) : Sp := fun vs H Q _ => ∃ (p : Addr) (beds : List Int) (worths : List (List Int)) (rent : Int), vs = [.ref p] ∧ HouseAt C H p beds worths rent ∧ Q (.int worths.length) H
def sp_rooms (C : Addr) : Sp := fun vs H Q _ => ∃ (p : Addr) (beds : List Int) (worths : List (List Int)) (rent : Int), vs = [.ref p] ∧ HouseAt C H p beds worths rent ∧ Q (.int beds.length) H
/-! ### the drawing of a house -/
def sp_beds : Sp := fun vs H Q _ => ∃ f m : Int, vs = [.int f, .int m] ∧ 0 ≤ m ∧ m ≤ 10 ∧ ∀ (l : Addr) (bs : List Int) (H' : Hp), New H l (.lst (bs.map V.int)) H' → (bs.length : Int) = m → (∀ b ∈ bs, 1 ≤ b ∧ b ≤ 4) → Q (.ref l) H'
def sp_worths (K : PySem.W.Frag) : Sp := fun vs H Q _ => ∃ (a : Addr) (ns : List Int) (f p r : Int), vs = [.ref a, .int f, .int p, .int r] ∧ SqL K H a (ns.map V.int) ∧ ns.length ≤ 63 ∧ 1 ≤ p ∧ p ≤ 10 ∧ 1 ≤ r ∧ r ≤ 10 ∧
  ∀ (w : Addr) (rows : List (List Int)) (H' : Hp), Same H H' → Mat H' w rows → (rows.length : Int) = p → (∀ row ∈ rows, (row.length : Int) = r) → (∀ row ∈ rows, ∀ x ∈ row, -(10 ^ 40) < x ∧ x < 10 ^ 40) → Q (.ref w) H'
def sp_house (K : PySem.W.Frag) : Sp := fun vs H Q _ => ∃ (a : Addr) (ns : List Int) (mp mr : Int), vs = [.ref a, .int mp, .int mr] ∧ SqL K H a (ns.map V.int) ∧ ns.length ≤ 63 ∧ 1 ≤ mp ∧ mp ≤ 10 ∧ 1 ≤ mr ∧ mr ≤ 10 ∧
  ∀ (t b w : Addr) (beds : List Int) (worths : List (List Int)) (rent : Int) (H' : Hp), Same H H' → H' t = some (.tup [.ref b, .ref w, .int rent]) → H' b = some (.lst (beds.map V.int)) → Mat H' w worths → HouseOk beds worths rent mp mr → Q (.ref t) H'
/-! ### what the program's own defs tell -/
def lyingL (n : Nat) (way : List Int) : List Int := (List.range n).map fun (r : Nat) => ((way.count (r : Int) : Nat) : Int)
def openL (beds way : List Int) : List Int := ((List.range beds.length).filter fun (r : Nat) => decide (((way.count (r : Int) : Nat) : Int) < beds.getD r 0)).map fun (r : Nat) => (r : Int)
def sp_lying (K : PySem.W.Frag) (C : Addr) : Sp := fun vs H Q _ => ∃ (p a : Addr) (beds : List Int) (worths : List (List Int)) (rent : Int) (way : List Int), vs = [.ref p, .ref a] ∧ HouseAt C H p beds worths rent ∧ beds.length ≤ 1000 ∧ SqL K H a (way.map V.int) ∧
  ∀ l H', New H l (.lst ((lyingL beds.length way).map V.int)) H' → Q (.ref l) H'
def sp_open (K : PySem.W.Frag) (C : Addr) : Sp := fun vs H Q _ => ∃ (p a : Addr) (beds : List Int) (worths : List (List Int)) (rent : Int) (way : List Int), vs = [.ref p, .ref a] ∧ HouseAt C H p beds worths rent ∧ beds.length ≤ 1000 ∧ SqL K H a (way.map V.int) ∧
  ∀ l H', New H l (.lst ((openL beds way).map V.int)) H' → Q (.ref l) H'
/-! ### more on lists -/
theorem cut_between (ns : List Int) {a b : Nat} (h1 : a ≤ b) (h2 : b ≤ ns.length) : cutV (ns.map V.int) (some (a : Int)) (some (b : Int)) = ((ns.drop a).take (b - a)).map V.int := by
  unfold cutV
  rw [List.length_map, HT.sIx_nat, HT.sIx_nat, Nat.min_eq_left (Nat.le_trans h1 h2), Nat.min_eq_left h2, List.map_take, List.map_drop]
/-- [f(x) for x in a list of ints], nothing new made on the way -/
theorem compMap {K : PySem.W.Frag} {a D : Addr} {te : TE} {σf : St} {H1 : Hp} {Q : VK} (ns : List Int) (f : Int → Int) (hS : SqL K H1 a (ns.map V.int)) (hz : ns.length < sizeLine) (hD1 : H1 D = none)
    (hs : ∀ z ∈ ns, ∀ H (N : VK), Same H1 H → N (.int (f z)) H → te (some (.int z) :: σf) H N) (hd : ∀ H, Same H1 H → H D = some (.lst ((ns.map f).map V.int)) → Q (.ref D) H) : CompW (Itl K a) D (gName 0) tYes te (none :: σf) (upd H1 D (.lst [])) Q := by
  refine comp_list (fun i y _ => ∃ z, ns[i]? = some z ∧ y = .int (f z)) hS (by simpa using hz) hD1 (fun _ _ _ _ _ h => h) ?_ ?_
  · rintro i x H ys N hx s d hN
    obtain ⟨z, h1, rfl⟩ := int_at hx
    exact hs z (List.mem_of_getElem? h1) H N s (hN _ _ (Same.refl _) ⟨z, h1, rfl⟩)
  · rintro ys H s d l r
    have e : ys = (ns.map f).map V.int := ints_of (by simpa using l) fun i y e => by
      obtain ⟨z, h1, h2⟩ := r i y e
      exact ⟨_, by rw [List.getElem?_map, h1]; rfl, h2⟩
    rw [e] at d
    exact hd H s d
theorem Rows.snoc {H H' : Hp} {ws : List Addr} {rows : List (List Int)} {c : Addr} {row : List Int} (r : Rows H ws rows) (k : ∀ a ∈ ws, ∀ o, H a = some o → H' a = some o) (hc : H' c = some (.lst (row.map V.int))) : Rows H' (ws ++ [c]) (rows ++ [row]) := by
  refine ⟨by simp [r.1], fun i a rw' h1 h2 => ?_⟩
  by_cases hi : i < ws.length
  · rw [List.getElem?_append_left hi] at h1
    rw [List.getElem?_append_left (by rw [← r.1]; exact hi)] at h2
    exact k a (List.mem_of_getElem? h1) _ (r.2 i a rw' h1 h2)
  · have hi2 : i = ws.length := by
      have := (List.getElem?_eq_some_iff.mp h1).1
      simp at this
      omega
    subst hi2
    simp at h1
    rw [r.1] at h2
    simp at h2
    subst h1 h2
    exact hc
theorem sum_ge {bs : List Int} (h : ∀ b ∈ bs, 1 ≤ b) : (bs.length : Int) ≤ bs.sum := by
  induction bs with
  | nil => simp
  | cons b r ih =>
    have h1 := h b List.mem_cons_self
    have h2 := ih fun x hx => h x (List.mem_cons_of_mem _ hx)
    simp
    omega
theorem sum_le {bs : List Int} {m : Int} (h : ∀ b ∈ bs, b ≤ m) : bs.sum ≤ m * bs.length := by
  induction bs with
  | nil => simp
  | cons b r ih =>
    have h1 := h b List.mem_cons_self
    have h2 := ih fun x hx => h x (List.mem_cons_of_mem _ hx)
    have e : m * (((b :: r).length : Nat) : Int) = m * (r.length : Int) + m := by
      rw [List.length_cons, Int.natCast_add, Int.mul_add]
      simp
    rw [e]
    simp
    omega
/-- [f(x) for x in a list of ints] -/
theorem compMapV {K : PySem.W.Frag} {a D : Addr} {te : TE} {σf : St} {H1 : Hp} {Q : VK} (ns : List Int) (f : Int → V) (hS : SqL K H1 a (ns.map V.int)) (hz : ns.length < sizeLine) (hD1 : H1 D = none)
    (hs : ∀ z ∈ ns, ∀ H (N : VK), Same H1 H → (∀ H', Same H H' → N (f z) H') → te (some (.int z) :: σf) H N) (hd : ∀ H, Same H1 H → H D = some (.lst (ns.map f)) → Q (.ref D) H) : CompW (Itl K a) D (gName 0) tYes te (none :: σf) (upd H1 D (.lst [])) Q := by
  refine comp_list (fun i y _ => ∃ z, ns[i]? = some z ∧ y = f z) hS (by simpa using hz) hD1 (fun _ _ _ _ _ h => h) ?_ ?_
  · rintro i x H ys N hx s d hN
    obtain ⟨z, h1, rfl⟩ := int_at hx
    exact hs z (List.mem_of_getElem? h1) H N s fun H' s' => hN _ _ s' ⟨z, h1, rfl⟩
  · rintro ys H s d l r
    have e : ys = ns.map f := by
      refine List.ext_getElem? fun i => ?_
      rw [List.getElem?_map]
      cases q : ys[i]? with
      | none =>
        have : ns.length ≤ i := by
          have := List.getElem?_eq_none_iff.mp q
          simp at l
          omega
        rw [List.getElem?_eq_none_iff.mpr this]
        rfl
      | some y =>
        obtain ⟨z, h1, h2⟩ := r i y q
        rw [h1, h2]
        rfl
    rw [e] at d
    exact hd H s d
/-- [f(k) for k in range(n)] -/
theorem compRangeV {n : Nat} {D : Addr} {te : TE} {σf : St} {H1 : Hp} {Q : VK} (f : Nat → V) (hz : n < sizeLine) (hD1 : H1 D = none)
    (hs : ∀ (i : Nat), i < n → ∀ H (N : VK), Same H1 H → (∀ H', Same H H' → N (f i) H') → te (some (.int (0 + (i : Int))) :: σf) H N) (hd : ∀ H, Same H1 H → H D = some (.lst ((List.range n).map f)) → Q (.ref D) H) : CompW (Itr 0 n) D (gName 0) tYes te (none :: σf) (upd H1 D (.lst [])) Q := by
  refine comp_range (fun i y _ => y = f i) hz hD1 (fun _ _ _ _ _ h => h) ?_ ?_
  · rintro i H ys N hi s d hN
    exact hs i hi H N s fun H' s' => hN _ _ s' rfl
  · rintro ys H s d l r
    have e : ys = (List.range n).map f := by
      refine List.ext_getElem? fun i => ?_
      rw [List.getElem?_map]
      cases q : ys[i]? with
      | none =>
        have := List.getElem?_eq_none_iff.mp q
        rw [List.getElem?_eq_none_iff.mpr (by simp; omega)]
        rfl
      | some y =>
        have hi := (List.getElem?_eq_some_iff.mp q).1
        rw [r i y q, List.getElem?_range (by omega)]
        rfl
    rw [e] at d
    exact hd H s d
/-! ### ways -/
end L2

set_option Elab.async false
set_option linter.all false
set_option maxRecDepth 100000
set_option maxHeartbeats 4000000
namespace L2
open PySem PySem.Spec PyProof.Rows
/-! ### the signs of a text, walked -/
section
variable {X : Cx} {K : PySem.W.Frag}
/-! ### startswith, split, replace, int -/
end
end L2

set_option Elab.async false
set_option linter.all false
set_option maxRecDepth 100000
set_option maxHeartbeats 4000000
/-! Comprehensions one of whose own names is a cell (a comprehension within asks for it). -/
namespace L2
open PySem PySem.Spec PyProof.Rows
section
variable {X : Cx} {scope : Scope} {y : Str}
variable {pins : List (Addr × Obj)} {σ : St} {H : Hp} {s : Shared}
end
section
variable {X : Cx} {tg iter elt : Expr} {ifs : List Expr} {scope : Scope} {pos : Pos} {pins : List (Addr × Obj)} {σ : St} {H : Hp} {s : Shared}
end
end L2

set_option Elab.async false
set_option linter.all false
set_option maxRecDepth 100000
set_option maxHeartbeats 4000000
/-! Where a made text's own token is asked: states that have made one. -/
namespace L2
open PySem PySem.Spec PyProof.Rows
section
variable {X : Cx} {st : Stmt} {rest : List Stmt} {t u : TS} {pos : Pos}
def PSP (X : Cx) (st : Stmt) (t : TS) : Prop :=
  ∀ (pins : List (Addr × Obj)) (s : Shared) (σ : St) (H : Hp) (D : Ends), 1 ≤ s.toks → Inv X pins σ H s → t D σ H → wpAny (model X.prog X.w) X.A (exec st X.env) (SP X pins D) X.xe s
def PSsP (X : Cx) (sts : List Stmt) (t : TS) : Prop :=
  ∀ (pins : List (Addr × Obj)) (s : Shared) (σ : St) (H : Hp) (D : Ends), 1 ≤ s.toks → Inv X pins σ H s → t D σ H → wpAny (model X.prog X.w) X.A (execs sts X.env) (SP X pins D) X.xe s
theorem PS.p (h : PS X st t) : PSP X st t := fun pins s σ H D _ I q => h pins s σ H D I q
theorem PSs.p {sts : List Stmt} (h : PSs X sts t) : PSsP X sts t := fun pins s σ H D _ I q => h pins s σ H D I q
end
section
variable {X : Cx} {o : Expr} {to : TE} {K : PySem.W.Frag} {apos cpos p1 p2 : Pos} {j1 j2 : Nat}
end
end L2

set_option Elab.async false
set_option linter.all false
set_option maxRecDepth 100000
set_option maxHeartbeats 4000000
/-! Amounts read. -/
namespace L2
open PySem PySem.Spec PyProof.Rows
end L2

set_option Elab.async false
set_option linter.all false
set_option maxRecDepth 100000
set_option maxHeartbeats 4000000
namespace L2
open PySem PySem.Spec PyProof.Rows
/-! ### an exception behind a call: it lies at ea; B: what stands still (all but the frames and the exception's own records) -/
section
variable {X : Cx} {pins : List (Addr × Obj)} {σ : St} {H : Hp} {s : Shared}
end

/-! ### raise C(..) of an own class under ValueError that has no __init__ -/
theorem PS.nox {X : Cx} {st : Stmt} {t : TS} (h : PS X.nox st t) : PS X st t := fun pins s σ H D I hw =>
  wpAny_mono (h pins s σ H D (I.wish _) hw) (fun f s' q => q.unwish) fun _ _ q => q.elim
theorem PA.nox {X : Cx} {es : List Expr} {t : TA} (h : PA X.nox es t) : PA X es t := fun pos pins s σ H Q I hw =>
  wpAny_mono (h pos pins s σ H Q (I.wish _) hw) (fun f s' ⟨vs, H', J, r, q⟩ => ⟨vs, H', J.unwish, r, q⟩) fun _ _ q => q.elim

/-! ### a def that may refuse -/
section
variable {P : Program} {w : World} {K : PySem.W.Frag} {mg : Str → Option Value} {base : Heap}
end
end L2

set_option Elab.async false
set_option linter.all false
set_option maxRecDepth 100000
set_option maxHeartbeats 4000000
namespace L2
open PySem PySem.W PySem.Spec PyProof.Rows PySem.Calls Builtin Builtin.ObjectAttr Builtin.Getset_descriptor
/-! ### __class__ of an exception of an own class -/
section
variable {prog : Program} {w : World} {A : Around} {E : Value → Shared → Prop} {s : Shared} {K : Frag} {x D : Addr} {o : Obj}
end
end L2

set_option Elab.async false
set_option linter.all false
set_option maxRecDepth 100000
set_option maxHeartbeats 4000000
namespace L2
open PySem PySem.Spec PyProof.Rows
/-! ### an exception at hand -/
section
variable {X : Cx} {pins : List (Addr × Obj)} {σ : St} {H : Hp} {s : Shared} {v : Value}
end

/-! ### expressions and statements that may refuse: where the exception goes is told at the place -/
section
variable {X : Cx} {k : Nat} {f C : Addr} {fd : FuncData} {ps : List Str} {sp : Sp} {x m : Str} {p pos : Pos} {e : Expr} {es : List Expr} {t : TA}
end

/-! ### try: x = f(..) except R as n: suite -/
end L2

set_option Elab.async false
set_option linter.all false
set_option maxRecDepth 100000
set_option maxHeartbeats 4000000
namespace L2
open PySem PySem.Spec PyProof.Rows
/-! ### isinstance of an exception -/
section
variable {X : Cx}
end
/-! ### defs called within an except suite -/
structure RoomU (k : Nat) (A : Around) : Prop where
  dp : A.depth + 3 * k + 5 < recursionLimit
  un : A.units + 16 * k + 200 < cLine
theorem Room.u {k : Nat} {A : Around} (r : Room k A) : RoomU k A := ⟨r.dp, r.un⟩
theorem RoomU.mono {j k : Nat} {A : Around} (r : RoomU k A) (h : j ≤ k) : RoomU j A := ⟨by have := r.dp; omega, by have := r.un; omega⟩
theorem RoomU.deeper {k : Nat} {A : Around} (r : RoomU (k + 1) A) (env : Env) : RoomU k (A.deeper env) :=
  ⟨by have := r.dp; show A.depth + 1 + 3 * k + 5 < _; omega, by have := r.un; show A.units + 3 + 16 * k + 200 < _; omega⟩
theorem RoomU.depth {k : Nat} {A : Around} (r : RoomU k A) : A.depth < recursionLimit := by have := r.dp; omega
section
variable {P : Program} {w : World} {K : PySem.W.Frag} {mg : Str → Option Value} {base : Heap}
end
section
variable {X : Cx} {k : Nat} {f : Addr} {x : Str} {ps : List Str} {sp : Sp} {p pos : Pos} {e : Expr} {es : List Expr} {t : TA}
end
end L2

set_option Elab.async false
set_option linter.all false
set_option maxRecDepth 100000
set_option maxHeartbeats 4000000
namespace L2
open PySem PySem.Spec PyProof.Rows
/-! ### the refusals of the program -/
section
variable {X : Cx} {K : PySem.W.Frag}
end
end L2

set_option Elab.async false
set_option linter.all false
set_option maxRecDepth 100000
set_option maxHeartbeats 4000000
namespace L2
open PySem PySem.Spec PyProof.Rows
/-! ### things compared as data -/
section
variable {X : Cx} {K : PySem.W.Frag}
end
/-! ### a house's two lists as data -/
/-! ### a house made anew: its things are its own -/
def HouseN (C : Addr) (H H' : Hp) (p : Addr) (beds : List Int) (worths : List (List Int)) (rent : Int) : Prop :=
  ∃ dx b w ws, H' p = some (.ins C dx (hflds b w rent)) ∧ H' b = some (.lst (beds.map V.int)) ∧ H b = none ∧ H' w = some (.lst (ws.map V.ref)) ∧ H w = none ∧ Rows H' ws worths ∧ ∀ a ∈ ws, H a = none
theorem HouseN.at_ {C : Addr} {H H' H3 : Hp} {p : Addr} {beds : List Int} {worths : List (List Int)} {rent : Int} (h : HouseN C H H' p beds worths rent) (hp : H p = none) (k : ∀ c o, H c = none → H' c = some o → H3 c = some o) : HouseAt C H3 p beds worths rent := by
  obtain ⟨dx, b, w, ws, h1, h2, h3, h4, h5, h6, h7⟩ := h
  exact ⟨dx, b, w, k _ _ hp h1, k _ _ h3 h2, ws, k _ _ h5 h4, h6.1, fun i a row e1 e2 => k _ _ (h7 a (List.mem_of_getElem? e1)) (h6.2 i a row e1 e2)⟩
end L2

set_option Elab.async false
set_option linter.all false
set_option maxRecDepth 100000
set_option maxHeartbeats 4000000
namespace L2
open PySem PySem.Spec PyProof.Rows
/-! ### what read_amount makes of any text -/
/-! a text some times over -/
section
variable {X : Cx}
end
/-! ### displays of many texts -/
section
variable {X : Cx}
end
end L2

set_option Elab.async false
set_option linter.all false
set_option maxRecDepth 100000
set_option maxHeartbeats 4000000
namespace L2
open PySem PySem.Spec PyProof.Rows
/-! ### how long the script's numbers are -/
theorem weight_item : ∀ {ns : List Int} {n : Int}, n ∈ ns → Builtin.Int.intBits n ≤ PySem.W.WData.weightAll (ns.map PySem.W.WData.int)
  | [], _, h => by cases h
  | m :: r, n, h => by
    rw [List.map_cons, PySem.W.WData.weightAll, PySem.W.WData.weight]
    rcases List.mem_cons.mp h with z | z
    · subst z
      show (if (n == 0) = true then 0 else n.natAbs.log2 + 1) ≤ _
      omega
    · have := weight_item z
      omega
theorem bits_of_lay {ns : List Int} (h : PySem.W.WData.layableAll [PySem.W.WData.list (ns.map PySem.W.WData.int)] = true) : ∀ n ∈ ns, Builtin.Int.intBits n ≤ 1048576 := fun n hn => by
  have h1 := List.all_eq_true.mp h _ List.mem_cons_self
  have h2 := of_decide_eq_true (Bool.and_eq_true_iff.mp h1).2
  rw [PySem.W.WData.weight] at h2
  exact Nat.le_trans (weight_item hn) h2
def CBits (i j : Int) : Prop := Builtin.Int.intBits i ≤ 2000000 ∧ Builtin.Int.intBits j ≤ 2000000
theorem CBits.ok {i j : Int} (h : CBits i j) : IntMulOk i j := IntMulOk.of_le h.1 h.2 (by decide)
/-! ### prices, what is paid -/
/-- prices lie at t -/
def PriceAt (H : Hp) (t : Addr) (parts : Int) (rows : List Int) : Prop := ∃ r, H t = some (.tup [.int parts, .ref r]) ∧ H r = some (.lst (rows.map V.int))
theorem PriceAt.same {H H' : Hp} {t : Addr} {parts : Int} {rows : List Int} (h : PriceAt H t parts rows) (s : Same H H') : PriceAt H' t parts rows := by
  obtain ⟨r, h1, h2⟩ := h
  exact ⟨r, s _ _ h1, s _ _ h2⟩
end L2

set_option Elab.async false
set_option linter.all false
set_option maxRecDepth 100000
set_option maxHeartbeats 4000000
namespace L2
open PySem PySem.Spec PyProof.Rows
/-! ### a lambda that a def makes and hands on as a key -/
def lamCx (X : Cx) (qual : Str) (scope : Scope) (L f : Addr) (cd : Value) (s0 : Shared) (H0 : Hp) (Nc : List Str) : Cx where
  prog := X.prog
  w := X.w
  K := X.K
  mg := X.mg
  base := X.base
  A := X.A.in1.deeper (PySem.W.envX qual scope L f cd (clOf X.env.cells scope.names []))
  N := Nc
  s₀ := s0
  H₀ := H0
  env := PySem.W.envX qual scope L f cd (clOf X.env.cells scope.names [])
  outer := X.stack
  stack := PySem.W.envX qual scope L f cd (clOf X.env.cells scope.names []) :: X.stack
  ex := []
  fn := fun _ => false
  calm := true
  pn := []
  xe := fun _ _ => False
section
variable {X : Cx} {scope : Scope} {pins : List (Addr × Obj)} {σ : St} {H : Hp} {s : Shared}
theorem lam_inv {qual : Str} {L f : Addr} {cd : Value} {Nc : List Str} {ix : List (Option Nat)} {h1 : Heap} {tk : Nat} {x : Str} {v : V} {u : Value} (I : Inv X pins σ H s) (hc : X.calm = true) (ok : compOk scope X.env.scope = true) (hix : ixOk scope X.N (x :: Nc) (none :: ix) = true)
    (hx : scope.names.lookup x = some .local) (hL : L = s.heap.objs.size) (rv : RelV v u) (hns : h1.Ns L (fun y => ([(x, u)] : List (Str × Value)).reverse.lookup y)) (hk : ∀ b o, s.heap.get? b = some o → h1.get? b = some o) :
    Inv (lamCx X qual scope L f cd s H (x :: Nc)) [] (some v :: cSt σ ix) H { s with heap := h1, toks := tk } := by
  refine ⟨⟨I.ok.mod, (compOk_kind (X := X) (scope := scope) ok), rfl, rfl, Nat.le_of_eq hL.symm, fun y z c e1 e2 => I.ok.inj y z c (comp_cl I ok e1) (comp_cl I ok e2), fun y hy => ?_, (fun _ _ z => nomatch z), fun _ => I.ok.hd hc, Around.frames_deeper (A := X.A.in1) I.ok.frames, .inr ⟨rfl, rfl⟩, (fun b hb => by cases hb), I.bs, Nat.le_trans I.ok.bsz I.sz, (fun b o e hb => by cases hb), (fun b hb => by cases hb), I.stack, I.stkFree⟩,
    rfl, I.bare, Un.kept hk, ⟨_, hns, fun i y v' e1 e2 e3 => ?_⟩, fun y c e => ?_, ?_, fun y c e => I.freeC y c (comp_cl I ok e), (fun p hp => by cases hp), I.hok.kept hk, ?_⟩
  · have hmem : (y, NameKind.free) ∈ scope.names := by
      rcases hy with hy | hy
      · exact absurd rfl (compOk_cell ok _ (mem_of_lookup (show scope.names.lookup y = some .cell from hy)))
      · exact mem_of_lookup (show scope.names.lookup y = some .free from hy)
    exact Option.isSome_iff_exists.mp (clOf_has (cells := X.env.cells) scope.names [] (x := y) (.inl hmem))
  · cases i with
    | zero =>
      have e1' : x = y := by simpa [lamCx] using e1
      have e2' : v = v' := by simpa using e2
      subst e1' e2'
      exact ⟨u, rv, .inl ⟨hx, by simp⟩⟩
    | succ i =>
      have hix' : ixOk scope X.N Nc ix = true := hix
      have e1' : Nc[i]? = some y := by simpa [lamCx] using e1
      have e2' : (cSt σ ix)[i]? = some (some v') := by simpa using e2
      obtain ⟨j, n1, n2, n3⟩ := cSt_get hix' e1' e2'
      have hmem : (y, NameKind.free) ∈ scope.names := mem_of_lookup n3
      have hkind := compOk_free ok (y, .free) hmem rfl
      obtain ⟨mX, _, hl⟩ := I.loc
      have hvis : Vis X.env.scope y := .inr hkind
      obtain ⟨u', r, l⟩ := hl j y v' n1 n2 hvis
      refine ⟨u', r, ?_⟩
      rcases l with ⟨k1, _⟩ | ⟨_, c, e, z⟩
      · rcases hkind with q | q
        · rw [q] at k1; cases k1
        · rw [q] at k1; cases k1
      · refine .inr ⟨.inr n3, c, ?_, ?_⟩
        · obtain ⟨c', hc'⟩ := Option.isSome_iff_exists.mp (clOf_has (cells := X.env.cells) scope.names [] (x := y) (.inl hmem))
          have := comp_cl I ok hc'
          rw [e] at this
          cases this
          exact hc'
        · obtain ⟨o, ho, hd⟩ := z
          exact ⟨o, hk c o ho, hd⟩
  · obtain ⟨v', o, ho, hd⟩ := I.cell y c (comp_cl I ok e)
    exact ⟨v', o, hk c o ho, hd⟩
  · show H L = none
    rw [hL]
    exact I.hok.fresh (Nat.le_refl _)
  · have hix' : ixOk scope X.N Nc ix = true := hix
    show (cSt σ ix).length + 1 = Nc.length + 1
    rw [cSt_len, ixOk_len hix']
/-- the lambda called -/
theorem lam_call {name qual : Str} {params : Arguments} {body : Expr} {pm ctv : Value} {c' f : Addr} {Nc : List Str} {ix : List (Option Nat)} {x : Str} {v : V} {u : Value} {te : TE} {Q : VK} (I : Inv X pins σ H s) (hc : X.calm = true) (ok : compOk scope X.env.scope = true)
    (hix : ixOk scope X.N (x :: Nc) (none :: ix) = true) (hx : scope.names.lookup x = some .local) (hco : scope.isCoroutine = false) (hgen : scope.isGenerator = false)
    (ho : s.heap.get? f = some (PySem.W.kla_obj name qual params body scope (clOf X.env.cells scope.names []) pm c' ctv)) (hcd : s.heap.CodeRec (.ref c') qual) (hroom : X.A.depth < recursionLimit)
    (hbind : ∀ u : Value, bindArgs (PySem.W.kla_fn name qual params body scope (clOf X.env.cells scope.names []) pm (.ref c') ctv) ⟨[u], []⟩ = pure [(x, u)]) (rv : RelV v u)
    (he : ∀ L f cd s0 H0, PE (lamCx X qual scope L f cd s0 H0 (x :: Nc)) body te) (q : te (some v :: cSt σ ix) H Q) : wpAny (model X.prog X.w) X.A.in1 (call (.ref f) [u]) (EP X pins σ Q) (fun _ _ => False) s := by
  refine wpAny_call (PySem.W.kla_callFunE hroom ho rfl hco hgen rfl hcd ?_)
  rw [hbind]
  refine wpAny_pure (wpAny_newFunctionEnv (compOk_cell ok) (fun y hy => ?_) (fun h₁ hns hsb => ⟨I.nolimit.fresh _ hsb, ?_⟩) (compOk_kind (X := X) ok))
  · have : y = (x, u) := by simpa using hy
    rw [this]
    exact hx
  have hk₁ : ∀ b o, s.heap.get? b = some o → h₁.get? b = some o := fun b o e => hsb.extBut b o (Nat.ne_of_lt (Heap.lt_size e)) (Heap.get?_push_of_some _ e)
  have J := lam_inv (qual := qual) (f := f) (cd := .ref c') (tk := s.toks + 1) I hc ok hix hx rfl rv hns hk₁
  refine PySem.W.kla_codeExpr (wpAny_mono (he _ _ _ _ _ [] _ _ _ _ J q) (fun v' s' h' => ?_) fun _ _ z => z.elim)
  obtain ⟨y, H', J', ry, q'⟩ := h'
  exact I.after ⟨y, H', J'.os, J'.bare, J'.base, J'.hok, ry, q'⟩
end
/-! ### max(a list of ints, key = a lambda) -/
section
variable {X : Cx} {pins : List (Addr × Obj)} {σ : St} {H : Hp} {s : Shared}
theorem Inv.turn1 {pl pl' : List (Addr × Obj)} {it : Addr} {o' : Obj} {h' : Heap} {t' : Nat} (J : Inv X pl σ H s) (hf : FpOk X [] H it) (hsub : ∀ p ∈ pl', p ∈ pl ∧ p.1 ≠ it) (k : ∀ b o, b ≠ it → s.heap.get? b = some o → h'.get? b = some o) (ho' : h'.get? it = some o') (hnc : ∀ v, o'.data ≠ .cell v) :
    Inv X (pl' ++ [(it, o')]) σ H { s with heap := h', toks := t' } := by
  obtain ⟨f0, f1, f2, f3, f4, f5⟩ := hf
  have J1 : Inv X pl' σ H s := J.pins_of fun p hp => J.pin p (List.mem_append_right _ (hsub p hp).1)
  have J2 : Inv X pl' σ H { s with heap := h', toks := t' } := J1.turned k f0 f1 f3 f4 fun p hp => by
    rcases List.mem_append.mp hp with z | z
    · exact f5 p (List.mem_append_left _ z)
    · exact (hsub p z).2
  refine J2.pins_of fun p hp => ?_
  rcases List.mem_append.mp hp with z | z
  · exact J2.pin p (List.mem_append_right _ z)
  · have : p = (it, o') := by simpa using z
    subst this
    exact ⟨ho', f0, f1, f2, hnc⟩
theorem Inv.sub {pl pl' : List (Addr × Obj)} (J : Inv X pl σ H s) (h : ∀ p ∈ pl', p ∈ pl) : Inv X pl' σ H s := J.pins_of fun p hp => J.pin p (List.mem_append_right _ (h p hp))
theorem max_key_args (a v : Value) : argsOk "max" ⟨[a], [(Str.ofString "key", v)]⟩ := by unfold argsOk; kernel_rfl
variable {ns : List Int} {l q it S : Addr} {R : Result → Shared → Prop}
theorem max_loop (kf : Int → Int) (hc : X.calm = true) (hq : SqL X.K H l (ns.map V.int)) (fI : FpOk X [] H it) (fS : FpOk X [] H S) (hSI : S ≠ it) (hlI : l ≠ it) (nI : ∀ p ∈ pins, p.1 ≠ it) (nS : ∀ p ∈ pins, p.1 ≠ S)
    (turn : ∀ z ∈ ns, ∀ (t : Tok) (pl : List (Addr × Obj)) (s : Shared), (∀ p ∈ pins, p ∈ pl) → Inv X pl σ H s → wpAny (model X.prog X.w) X.A.in1 (call (.ref q) [.int z t]) (EP X pl σ fun y H' => y = .int (kf z) ∧ H' = H) (fun _ _ => False) s)
    (hR : ∀ z t s', z ∈ ns → (∀ z' ∈ ns, kf z' ≤ kf z) → Inv X pins σ H s' → R (.ok (.ret (.int z t))) s') :
    ∀ (r j : Nat) (s : Shared) (zb : Int) (tb kt : Tok) (c : Nat) (oI : Obj), ns.length - (j + 1) = r → j + 1 ≤ ns.length → Inv X (pins ++ [(S, seqObj "list" #[.int zb tb, .int (kf zb) kt] c), (it, oI)]) σ H s → s.heap.IsListIter it l (j + 1) → zb ∈ ns → (∀ i z, i ≤ j → ns[i]? = some z → kf z ≤ kf zb) →
      codeAny (model X.prog X.w) X.A (.builtin "max.loop" ⟨[.ref it, .ref q, .ref S], []⟩) R s := by
  have hname : (toString "max" ++ toString ".loop" : String) = "max.loop" := by decide
  intro r
  induction r with
  | zero =>
    intro j s zb tb kt c oI hr hj J hit hzb hbest
    have hin : j + 1 = ns.length := by omega
    obtain ⟨its, rv, pl, hz⟩ := J.list hq
    have hl : its.length = ns.length := by have := rv.length; simpa using this.symm
    have W := Walks.list (prog := X.prog) (w := X.w) (A := X.A.in1) (J.ok.hd hc) it l hlI its.toArray
    have pS := J.pin (S, seqObj "list" #[.int zb tb, .int (kf zb) kt] c) (by simp)
    refine codeAny_builtin PySem.F.entry_max_loop ?_
    rw [Around.under_plainId PySem.F.plain_max_loop _]
    show wpAny _ X.A.in1 (seqItems? (.ref S) >>= _) _ _ _
    refine wpAny_bind (wpAny_seqItems pS.1 rfl ?_)
    show wpAny _ X.A.in1 (tryCatch (pyNext (.ref it)) _ >>= _) _ _ _
    refine wpAny_bind (wpAny_tryCatch (W.done _ _ _ ⟨by rw [List.size_toArray, hl, ← hin]; exact hit, pl.isList⟩ fun h' tk' hk' => ?_))
    have J1 : Inv X (pins ++ [(S, seqObj "list" #[.int zb tb, .int (kf zb) kt] c)]) σ H { s with heap := h', toks := tk' } := (J.sub (pl' := pins ++ [(S, seqObj "list" #[.int zb tb, .int (kf zb) kt] c)]) (fun p hp => by
      rcases List.mem_append.mp hp with z | z
      · simp [z]
      · have : p = (S, seqObj "list" #[.int zb tb, .int (kf zb) kt] c) := by simpa using z
        simp [this])).turned (fun b o hb e => hk' b o (by simpa using hb) e) fI.1 fI.2.1 fI.2.2.2.1 fI.2.2.2.2.1 fun p hp => by
      rcases List.mem_append.mp hp with z | z
      · exact fI.2.2.2.2.2 p (List.mem_append_left _ z)
      · rcases List.mem_append.mp z with z | z
        · exact nI p z
        · have : p = (S, seqObj "list" #[.int zb tb, .int (kf zb) kt] c) := by simpa using z
          rw [this]; exact hSI
    have pS1 := J1.pin (S, seqObj "list" #[.int zb tb, .int (kf zb) kt] c) (by simp)
    show wpAny _ X.A.in1 (updateSeq S (fun _ => #[]) >>= _) _ _ _
    refine wpAny_bind ?_
    refine wpAny_updateSeq pS1.1 rfl (wpAny_bind (wpAny_letGo (wpAny_pure ?_)))
    have s1 := Heap.SameBut.update h' S (Obj.mapSeq fun _ => (#[] : Array Value))
    refine hR zb tb _ hzb (fun z' hz' => ?_) ((J1.sub fun p hp => List.mem_append_left _ hp).turned (t' := tk') (fun b o hb e => (s1.2 b hb).trans e) fS.1 fS.2.1 fS.2.2.2.1 fS.2.2.2.2.1 fun p hp => ?_)
    · obtain ⟨i, hi, rfl⟩ := List.mem_iff_getElem.mp hz'
      exact hbest i _ (by omega) (by simp [hi])
    · rcases List.mem_append.mp hp with z | z
      · exact fS.2.2.2.2.2 p (List.mem_append_left _ z)
      · exact nS p z
  | succ r ih =>
    intro j s zb tb kt c oI hr hj J hit hzb hbest
    have hlt : j + 1 < ns.length := by omega
    obtain ⟨its, rv, pl, hz⟩ := J.list hq
    have hl : its.length = ns.length := by have := rv.length; simpa using this.symm
    have W := Walks.list (prog := X.prog) (w := X.w) (A := X.A.in1) (J.ok.hd hc) it l hlI its.toArray
    have pS := J.pin (S, seqObj "list" #[.int zb tb, .int (kf zb) kt] c) (by simp)
    refine codeAny_builtin PySem.F.entry_max_loop ?_
    rw [Around.under_plainId PySem.F.plain_max_loop _]
    show wpAny _ X.A.in1 (seqItems? (.ref S) >>= _) _ _ _
    refine wpAny_bind (wpAny_seqItems pS.1 rfl ?_)
    show wpAny _ X.A.in1 (tryCatch (pyNext (.ref it)) _ >>= _) _ _ _
    refine wpAny_bind (wpAny_tryCatch (W.item (j + 1) _ _ _ (by rw [List.size_toArray, hl]; exact hlt) ⟨hit, pl.isList⟩ fun v h' tk' hP hst' hk' => ?_))
    have hv : its[j + 1]? = some v := by simpa using hP
    obtain ⟨u, hu, t, hut⟩ := rv.get (i := j + 1) (x := .int ns[j + 1]) (by simp [hlt])
    rw [hv] at hu
    cases hu
    subst hut
    obtain ⟨oI', hoI', hoc, hod⟩ := id hst'.1
    have J1 : Inv X (pins ++ [(S, seqObj "list" #[.int zb tb, .int (kf zb) kt] c)] ++ [(it, oI')]) σ H { s with heap := h', toks := tk' } := J.turn1 fI (fun p hp => by
      rcases List.mem_append.mp hp with z | z
      · exact ⟨by simp [z], nI p z⟩
      · have : p = (S, seqObj "list" #[.int zb tb, .int (kf zb) kt] c) := by simpa using z
        rw [this]
        exact ⟨by simp, hSI⟩) (fun b o hb e => hk' b o (by simpa using hb) e) hoI' (fun w z => by rw [hod] at z; cases z)
    have hzj : ns[j + 1] ∈ ns := List.getElem_mem hlt
    show wpAny _ X.A.in1 (tryCatch (holding [Value.int ns[j + 1] t] (call (.ref q) [Value.int ns[j + 1] t])) _ >>= _) _ _ _
    refine wpAny_bind (wpAny_tryCatch (wpAny_holding (wpAny_mono (turn _ hzj t _ _ (fun p hp => by simp [hp]) J1) (fun x s'' he => ?_) fun _ _ hF => hF.elim)))
    obtain ⟨y, H', J2, ry, rfl, rfl⟩ := he
    obtain ⟨t2, rfl⟩ := ry
    have pS2 := J2.pin (S, seqObj "list" #[.int zb tb, .int (kf zb) kt] c) (by simp)
    have pI2 := J2.pin (it, oI') (by simp)
    have hit2 : s''.heap.IsListIter it l (j + 1 + 1) := ⟨oI', pI2.1, hoc, hod⟩
    show wpAny _ X.A.in1 (tryCatch (holding [Value.int ns[j + 1] t, .int (kf ns[j + 1]) t2] (richCompare .Gt (.int (kf ns[j + 1]) t2) (.int (kf zb) kt) >>= _)) _ >>= _) _ _ _
    refine wpAny_bind (wpAny_tryCatch (wpAny_holding (wpAny_bind (CmpOf.ints_gt (prog := X.prog) (w := X.w) (A := X.A.in1) (P := fun i v => ∃ t, v = .int (if i = 0 then kf ns[j + 1] else kf zb) t) (fun i => if i = 0 then kf ns[j + 1] else kf zb) (fun i v h => h) 0 1 _ _ _ _ _ ⟨t2, rfl⟩ ⟨kt, rfl⟩ ?_))))
    refine wpAny_bind (wpAny_holding (wpAny_truthy_bool ?_))
    refine wpAny_bind (wpAny_letGo (wpAny_pure ?_))
    show wpAny _ X.A.in1 (if decide (kf ns[j + 1] > kf zb) = true then _ else _) _ _ _
    by_cases hb' : kf ns[j + 1] > kf zb
    · have s1 := Heap.SameBut.update s''.heap S (Obj.mapSeq fun _ => #[.int ns[j + 1] t, .int (kf ns[j + 1]) t2])
      obtain ⟨c2, hc2⟩ : ∃ c2, (s''.heap.update S (Obj.mapSeq fun _ => #[.int ns[j + 1] t, .int (kf ns[j + 1]) t2])).get? S = some (seqObj "list" #[.int ns[j + 1] t, .int (kf ns[j + 1]) t2] c2) := ⟨_, get?_update_seq pS2.1 fun _ => #[.int ns[j + 1] t, .int (kf ns[j + 1]) t2]⟩
      rw [decide_eq_true hb', if_pos rfl]
      refine wpAny_bind ?_
      refine wpAny_updateSeq pS2.1 rfl (wpAny_bind (wpAny_letGo ?_))
      rw [hname]
      have J3 := J2.turn1 (t' := s''.toks) (pl' := pins ++ [(it, oI')]) fS (fun p hp => by
        rcases List.mem_append.mp hp with z | z
        · exact ⟨by simp [z], nS p z⟩
        · have : p = (it, oI') := by simpa using z
          rw [this]
          exact ⟨by simp, hSI.symm⟩) (fun b o hb e => (s1.2 b hb).trans e) hc2 (fun w z => by cases z)
      refine wpAny_pure ⟨plainId_quiet PySem.F.plain_max_loop _, ih (j + 1) _ _ t t2 c2 oI' (by omega) hlt (J3.sub fun p hp => by
        simp only [List.mem_append, List.mem_cons, List.not_mem_nil, or_false] at hp ⊢
        rcases hp with h | h | h <;> simp [h]) ⟨oI', (s1.2 it hSI.symm).trans pI2.1, hoc, hod⟩ hzj fun i z hi hz => ?_⟩
      by_cases e : i = j + 1
      · subst e
        have : z = ns[j + 1] := by simpa [hlt] using hz.symm
        rw [this]
        exact Int.le_refl _
      · have := hbest i z (by omega) hz
        omega
    · rw [decide_eq_false hb', if_neg Bool.false_ne_true]
      refine wpAny_bind (wpAny_letGo ?_)
      rw [hname]
      refine wpAny_pure ⟨plainId_quiet PySem.F.plain_max_loop _, ih (j + 1) _ zb tb kt c oI' (by omega) hlt (J2.sub fun p hp => by
        simp only [List.mem_append, List.mem_cons, List.not_mem_nil, or_false] at hp ⊢
        rcases hp with h | h | h <;> simp [h]) hit2 hzb fun i z hi hz => ?_⟩
      by_cases e : i = j + 1
      · subst e
        have : z = ns[j + 1] := by simpa [hlt] using hz.symm
        rw [this]
        omega
      · exact hbest i z (by omega) hz
theorem max_key {Q : Value → Shared → Prop} {E : Value → Shared → Prop} (kf : Int → Int) (hc : X.calm = true) (J : Inv X pins σ H s) (hq : SqL X.K H l (ns.map V.int)) (hne : 0 < ns.length)
    (turn : ∀ z ∈ ns, ∀ (t : Tok) (pl : List (Addr × Obj)) (s : Shared), (∀ p ∈ pins, p ∈ pl) → Inv X pl σ H s → wpAny (model X.prog X.w) X.A.in1 (call (.ref q) [.int z t]) (EP X pl σ fun y H' => y = .int (kf z) ∧ H' = H) (fun _ _ => False) s)
    (hQ : ∀ z t s', z ∈ ns → (∀ z' ∈ ns, kf z' ≤ kf z) → Inv X pins σ H s' → Q (.int z t) s') :
    wpAny (model X.prog X.w) X.A (call (.builtin "max") [.ref l] [(Str.ofString "key", .ref q)]) Q E s := by
  have hname : (toString "max" ++ toString ".loop" : String) = "max.loop" := by decide
  obtain ⟨its, rv, pl, hz⟩ := J.list hq
  have hl : its.length = ns.length := by have := rv.length; simpa using this.symm
  have hll : l < s.heap.objs.size := by
    obtain ⟨o, n, e, _⟩ := pl
    exact Heap.lt_size e
  refine kmk_tree PySem.F.kind_max PySem.F.plain_max PySem.F.entry_max (max_key_args _ _) ?_
  show wpAny _ X.A.in1 (Builtin.Builtins.bindParams "max" ["key", "default"] 0 ⟨[], [(Str.ofString "key", .ref q)]⟩ >>= _) _ _ s
  refine wpAny_bind (wpAny_of_eq (show Builtin.Builtins.bindParams "max" ["key", "default"] 0 ⟨[], [(Str.ofString "key", .ref q)]⟩ = pure [some (.ref q), none] from rfl) ?_)
  refine wpAny_bind (wpAny_pure ?_)
  refine wpAny_bind (wpAny_pyIter_list pl.isList ?_)
  refine wpAny_bind (wpAny_newList ?_ (Nat.zero_le _))
  rw [hname]
  have hS : (s.heap.push { cls := .type "list_iterator", data := .fields #[.ref l, .int 0 0] }).objs.size = s.heap.objs.size + 1 := size_push' ..
  have hlI : l ≠ s.heap.objs.size := Nat.ne_of_lt hll
  have gI : ((s.heap.push { cls := .type "list_iterator", data := .fields #[.ref l, .int 0 0] }).push (seqObj "list" #[] 0)).get? s.heap.objs.size = some { cls := .type "list_iterator", data := .fields #[.ref l, .int 0 0] } :=
    Heap.get?_push_of_some _ (Heap.get?_push_size _ rfl)
  have gS : ((s.heap.push { cls := .type "list_iterator", data := .fields #[.ref l, .int 0 0] }).push (seqObj "list" #[] 0)).get? (s.heap.push { cls := .type "list_iterator", data := .fields #[.ref l, .int 0 0] }).objs.size = some (seqObj "list" #[] 0) := Heap.get?_push_size _ rfl
  have J0 : Inv X pins σ H { s with heap := (s.heap.push { cls := .type "list_iterator", data := .fields #[.ref l, .int 0 0] }).push (seqObj "list" #[] 0), toks := s.toks } := J.kept fun b o e => Heap.get?_push_of_some _ (Heap.get?_push_of_some _ e)
  have hk0 : ∀ b o, s.heap.get? b = some o → ((s.heap.push { cls := .type "list_iterator", data := .fields #[.ref l, .int 0 0] }).push (seqObj "list" #[] 0)).get? b = some o := fun b o e => Heap.get?_push_of_some _ (Heap.get?_push_of_some _ e)
  have fI := J.fpOk (H' := H) (b := s.heap.objs.size) (Nat.le_refl _) J.fresh
  have fS := J.fpOk (H' := H) (b := s.heap.objs.size + 1) (Nat.le_succ _) (J.hok.fresh (Nat.le_succ _))
  rw [hS] at gS ⊢
  have fI' : FpOk X [] H s.heap.objs.size := ⟨fI.1, fI.2.1, fI.2.2.1, fI.2.2.2.1, fI.2.2.2.2.1, fun p hp => fI.2.2.2.2.2 p (by rcases List.mem_append.mp hp with z | z <;> first | exact List.mem_append_left _ z | cases z)⟩
  have fS' : FpOk X [] H (s.heap.objs.size + 1) := ⟨fS.1, fS.2.1, fS.2.2.1, fS.2.2.2.1, fS.2.2.2.2.1, fun p hp => fS.2.2.2.2.2 p (by rcases List.mem_append.mp hp with z | z <;> first | exact List.mem_append_left _ z | cases z)⟩
  have nI : ∀ p ∈ pins, p.1 ≠ s.heap.objs.size := fun p hp => fI.2.2.2.2.2 p (List.mem_append_right _ hp)
  have nS : ∀ p ∈ pins, p.1 ≠ s.heap.objs.size + 1 := fun p hp => fS.2.2.2.2.2 p (List.mem_append_right _ hp)
  have hSI : s.heap.objs.size + 1 ≠ s.heap.objs.size := Nat.succ_ne_self _
  generalize (s.heap.push { cls := .type "list_iterator", data := .fields #[.ref l, .int 0 0] }).push (seqObj "list" #[] 0) = h0 at *
  generalize s.heap.objs.size = it at *
  generalize it + 1 = S at *
  refine wpAny_pure ⟨plainId_quiet PySem.F.plain_max_loop _, ?_⟩
  have pl0 : h0.IsList l its.toArray := pl.isList.at fun o e => hk0 _ _ e
  have W := Walks.list (prog := X.prog) (w := X.w) (A := X.A.in1) (J.ok.hd hc) it l hlI its.toArray
  refine codeAny_builtin PySem.F.entry_max_loop ?_
  rw [Around.under_plainId PySem.F.plain_max_loop _]
  show wpAny _ X.A.in1 (seqItems? (.ref _) >>= _) _ _ _
  refine wpAny_bind (wpAny_seqItems gS rfl ?_)
  show wpAny _ X.A.in1 (tryCatch (pyNext (.ref it)) _ >>= _) _ _ _
  refine wpAny_bind (wpAny_tryCatch (W.item 0 _ _ _ (by rw [List.size_toArray, hl]; exact hne) ⟨⟨_, gI, rfl, rfl⟩, pl0⟩ fun v h' tk' hP hst' hk' => ?_))
  have hv : its[0]? = some v := by simpa using hP
  obtain ⟨u, hu, t, hut⟩ := rv.get (i := 0) (x := .int ns[0]) (by simp [hne])
  rw [hv] at hu
  cases hu
  subst hut
  have hz0 : ns[0] ∈ ns := List.getElem_mem hne
  obtain ⟨oI', hoI', hoc, hod⟩ := id hst'.1
  have J1 : Inv X (pins ++ [(it, oI')]) σ H { s with heap := h', toks := tk' } := J0.turn1 fI' (fun p hp => ⟨hp, nI p hp⟩) (fun b o hb e => hk' b o (by simpa using hb) e) hoI' (fun w z => by rw [hod] at z; cases z)
  have J1' : Inv X (pins ++ [(S, seqObj "list" #[] 0), (it, oI')]) σ H { s with heap := h', toks := tk' } := J1.pins_of fun p hp => by
    simp only [List.mem_append, List.mem_cons, List.not_mem_nil, or_false] at hp
    rcases hp with z | z | z
    · exact J1.pin p (by simp [z])
    · subst z
      exact ⟨hk' _ _ (by simpa using hSI) gS, fS'.1, fS'.2.1, fS'.2.2.1, fun v z => by cases z⟩
    · exact J1.pin p (by simp [z])
  show wpAny _ X.A.in1 (tryCatch (holding [Value.int ns[0] t] (call (.ref q) [Value.int ns[0] t])) _ >>= _) _ _ _
  refine wpAny_bind (wpAny_tryCatch (wpAny_holding (wpAny_mono (turn _ hz0 t _ _ (fun p hp => by simp [hp]) J1') (fun x s'' he => ?_) fun _ _ hF => hF.elim)))
  obtain ⟨y, H', J2, ry, rfl, rfl⟩ := he
  obtain ⟨t2, rfl⟩ := ry
  have pS2 := J2.pin (S, seqObj "list" #[] 0) (by simp)
  have pI2 := J2.pin (it, oI') (by simp)
  have s1 := Heap.SameBut.update s''.heap S (Obj.mapSeq fun _ => #[.int ns[0] t, .int (kf ns[0]) t2])
  obtain ⟨c2, hc2⟩ : ∃ c2, (s''.heap.update S (Obj.mapSeq fun _ => #[.int ns[0] t, .int (kf ns[0]) t2])).get? S = some (seqObj "list" #[.int ns[0] t, .int (kf ns[0]) t2] c2) := ⟨_, get?_update_seq pS2.1 fun _ => #[.int ns[0] t, .int (kf ns[0]) t2]⟩
  show wpAny _ X.A.in1 (updateSeq S (fun _ => #[.int ns[0] t, .int (kf ns[0]) t2]) >>= _) _ _ _
  refine wpAny_bind ?_
  refine wpAny_updateSeq pS2.1 rfl ?_
  rw [hname]
  have J3 := J2.turn1 (t' := s''.toks) (pl' := pins ++ [(it, oI')]) fS' (fun p hp => by
    rcases List.mem_append.mp hp with z | z
    · exact ⟨by simp [z], nS p z⟩
    · have : p = (it, oI') := by simpa using z
      rw [this]
      exact ⟨by simp, hSI.symm⟩) (fun b o hb e => (s1.2 b hb).trans e) hc2 (fun w z => by cases z)
  refine wpAny_pure ⟨plainId_quiet PySem.F.plain_max_loop _, max_loop kf hc hq fI' fS' hSI hlI nI nS turn hQ _ 0 _ _ t t2 c2 oI' rfl hne (J3.sub fun p hp => by
    simp only [List.mem_append, List.mem_cons, List.not_mem_nil, or_false] at hp ⊢
    rcases hp with h | h | h <;> simp [h]) ⟨oI', (s1.2 it hSI.symm).trans pI2.1, hoc, hod⟩ hz0 fun i z hi hz => ?_⟩
  have : i = 0 := by omega
  subst this
  have : z = ns[0] := by simpa [hne] using hz.symm
  rw [this]
  exact Int.le_refl _
end
/-! ### the table of a def's inner code -/
def isTbl : HO → Bool
  | .tbl _ => true
  | _ => false
/-- all that was tracked is as it was, the tables of inner code aside -/
structure SameB (H H' : Hp) : Prop where
  to : ∀ b o, H b = some o → isTbl o = false → H' b = some o
  th : ∀ b, H' b = none → H b = none
theorem SameB.refl (H : Hp) : SameB H H := ⟨fun _ _ h _ => h, fun _ h => h⟩
theorem SameB.trans {H H1 H2 : Hp} (a : SameB H H1) (b : SameB H1 H2) : SameB H H2 := ⟨fun c o h z => b.to c o (a.to c o h z) z, fun c h => a.th c (b.th c h)⟩
theorem Same.b {H H' : Hp} (a : Same H H') : SameB H H' := ⟨fun c o h _ => a c o h, fun c h => a.free h⟩
/-- nothing made yet, or the one lambda's code, frozen -/
def LamAt (H : Hp) (P : Addr) (pos : Pos) (qual : Str) : Prop :=
  H P = some (.tbl #[]) ∨ ∃ c' oc vs t, H P = some (.tbl #[rawInt pos.line, rawInt pos.col, .ref c']) ∧ H c' = some (.frz oc (.own 0)) ∧ oc.data = .fields vs ∧ vs[1]? = some (.str qual t)
theorem LamAt.same {H H' : Hp} {P : Addr} {pos : Pos} {qual : Str} (h : LamAt H P pos qual) (s : Same H H') : LamAt H' P pos qual := by
  rcases h with h | ⟨c', oc, vs, t, h1, h2, h3⟩
  · exact .inl (s _ _ h)
  · exact .inr ⟨c', oc, vs, t, s _ _ h1, s _ _ h2, h3⟩
section
variable {X : Cx} {pins : List (Addr × Obj)} {σ : St} {H : Hp} {s : Shared} {c P : Addr} {scope : Scope} {params : Arguments} {body : Expr} {lpos : Pos}
theorem SameB.seq {K : PySem.W.Frag} {H H' : Hp} {a : Addr} {xs : List V} (e : SameB H H') (h : SqL K H a xs) : SqL K H' a xs := by
  rcases h with (h | ⟨o, h⟩) | h
  · exact .inl (.inl (e.to _ _ h rfl))
  · exact .inl (.inr ⟨o, e.to _ _ h rfl⟩)
  · exact .inr h
end
end L2

set_option Elab.async false
set_option linter.all false
set_option maxRecDepth 100000
set_option maxHeartbeats 4000000
namespace L2
open PySem PySem.Spec PyProof.Rows
/-! ### a def that makes a lambda -/
structure SrcL (K : PySem.W.Frag) (mg : Str → Option Value) (x qual : Str) (st : Stmt) (c P : Addr) : Prop where
  ex : ∃ (f : Addr) (oc : Value) (od : Option Addr) (kV doc pm : Value) (an : Option Addr) (ct : Value) (osl : Array (Option Value)), K.lookup f = some ⟨oc, od, .func (PySem.W.fnOf x qual (defArgs st) (defBody st) (defScope st) .none kV doc pm an (.ref c) ct), osl⟩ ∧ PySem.W.codeIn K (.ref c) qual = true ∧ PySem.W.keepIn K (.ref f) = true ∧ mg x = some (.ref f)
  hd : PySem.W.codeHdIn K c P = true
theorem srcL_mk {K : PySem.W.Frag} {h : Heap} {mg : Str → Option Value} {x qual : Str} {st : Stmt} {f c P : Addr} {oc : Value} {od an : Option Addr} {osl : Array (Option Value)} {kV doc pm ct : Value} (X : K.In h) (G : h.Ns mainGlobals mg)
    (a : PySem.W.nsIn K mainGlobals x = some (some (.ref f))) (l : K.lookup f = some ⟨oc, od, .func (PySem.W.fnOf x qual (defArgs st) (defBody st) (defScope st) .none kV doc pm an (.ref c) ct), osl⟩)
    (hc : PySem.W.codeIn K (.ref c) qual = true) (k : PySem.W.keepIn K (.ref f) = true) (hd : PySem.W.codeHdIn K c P = true) : SrcL K mg x qual st c P := ⟨⟨f, oc, od, kV, doc, pm, an, ct, osl, l, hc, k, PySem.W.mg_of X G a⟩, hd⟩
section
variable {P : Program} {w : World} {K : PySem.W.Frag} {mg : Str → Option Value} {base : Heap}
theorem SrcL.mkL {x qual : Str} {st : Stmt} {N ps : List Str} {k : Nat} {sp : Sp} {c PT : Addr} (S : SrcL K mg x qual st c PT) (Sc : FnScope N ps (defScope st)) (len : ∀ vs H Q E, sp vs H Q E → vs.length = ps.length)
    (hb : ∀ (kV doc pm : Value) (an : Option Addr) (cdv ct : Value) (us : List Value), us.length = ps.length → bindArgs (PySem.W.fnOf x qual (defArgs st) (defBody st) (defScope st) .none kV doc pm an cdv ct) ⟨us, []⟩ = pure (ps.zip us))
    (hbody : ∀ (f : Addr) (A : Around) (outer : List Env) (s : Shared) (H : Hp) (vs : List V) (Q : VK) (E : XK), Room k (A.deeper (envOfC qual (defScope st) s.heap.objs.size f (.ref c))) → sp vs H Q E →
      ∃ t, PSs (cxOf CX0 P w K mg base N qual (defScope st) f (.ref c) A outer s H E).nox (defBody st) t ∧ t { nx := fun _ H' => Q .non H', rt := Q } (start N vs) H) : Def P w K mg base (k + 1) x ps sp := by
  obtain ⟨f, oc, od, kV, doc, pm, an, ct, osl, lk, hcd, kp, hm⟩ := S.ex
  refine ⟨f, _, hm, kp, .all (hb kV doc pm an (.ref c) ct), fn_of lk hcd Sc len fun A outer s H vs Q E hr hsp => ?_, oc, od, osl, lk⟩
  obtain ⟨t, h, q⟩ := hbody f A outer s H vs Q E hr hsp
  exact ⟨t, h.nox, q⟩
/-- the law's own def, over every base that knows the built-ins -/
theorem law_fdT {x p : Str} {st : Stmt} {k : Nat} {sp : Sp} {fa : Addr} {ts : List Addr} (S : Src K mg x x st)
    (hb : ∀ (kV doc pm : Value) (an : Option Addr) (cdv ct : Value) (u : Value), bindArgs (PySem.W.fnOf x x (defArgs st) (defBody st) (defScope st) .none kV doc pm an cdv ct) ⟨[u], []⟩ = pure [(p, u)])
    (h : ∀ base : Heap, (∀ PT ∈ ts, base.BuiltinsAt mg PT) → Def P w K mg base k x [p] sp) (hfa : mg x = some (.ref fa)) :
    ∃ fd : FuncData, (∀ (s : Shared) (u : Value), BindsTo s fd ⟨[u], []⟩ [(p, u)]) ∧ ∀ base : Heap, K.In base → base.Ns mainGlobals mg → (∀ PT ∈ ts, base.BuiltinsAt mg PT) → FnOk P w K mg base CX0 k fa fd [p] sp := by
  obtain ⟨f, fd, F, hm⟩ := S.ex
  rw [hm] at hfa
  cases hfa
  obtain ⟨oc, od, kV, doc, pm, an, cdv, ct, osl, e, lk, hcd⟩ := F.ex
  refine ⟨fd, fun s u => by subst e; exact .of_eq (hb kV doc pm an cdv ct u), fun base _ _ hB => ?_⟩
  obtain ⟨f', fd', hm', _, _, G, oc', od', osl', lk'⟩ := (h base hB).ex
  rw [hm] at hm'
  cases hm'
  rw [lk] at lk'
  cases lk'
  exact G
end
/-! ### the head of a law whose defs make lambdas: the tables ts are empty behind the top -/
theorem law_callT {P : Program} {w : World} {K : PySem.W.Frag} {mg mb : Str → Option Value} {k : Nat} {fa a : Addr} {fd : FuncData} {x : Str} {sp : Sp} {s₁ : Shared} {vs : List Value} {ns : List Int} {ts : List Addr}
    (KX : K.In s₁.heap) (hns : s₁.heap.Ns mainGlobals mg) (hb : s₁.heap.Ns builtinsNs mb) (hbb : ∀ x : Str, x ≠ "__name__" → mb x = bootBuiltins x) (hlim : s₁.heap.NoLimit) (hg : s₁.gens = #[])
    (ht : ∀ PT ∈ ts, s₁.heap.get? PT = some (PySem.W.tabObj #[])) (hcd : ∀ PT ∈ ts, ∃ c, PySem.W.codeHdIn K c PT = true) (hnt : PySem.W.noTabs K = true) (hbm : ∃ bm ob, mg "__builtins__" = some (.ref bm) ∧ bm ≠ builtinsNs ∧ s₁.heap.get? bm = some ob ∧ ob.cls = .type "module" ∧ ob.dict = some builtinsNs ∧ ob.data = .plain)
    (ha : s₁.heap.get? a = some { cls := .type "list", data := .seq vs.toArray }) (hi : IntsAre vs ns) (hl : ns.length ≤ sizeLine) (hr : Room k callerA)
    (F : ∀ base : Heap, K.In base → base.Ns mainGlobals mg → (∀ PT ∈ ts, base.BuiltinsAt mg PT) → FnOk P w K mg base CX0 k fa fd [x] sp) (hbind : ∀ (s : Shared) (u : Value), BindsTo s fd ⟨[u], []⟩ [(x, u)])
    (hsp : ∀ H : Hp, (∀ PT ∈ ts, H PT = some (.tbl #[])) → SqL K H a (ns.map V.int) → sp [.ref a] H (fun v _ => v = .bl true) fun _ _ _ => False) :
    codeAny (model P w) callerA (.call (.ref fa) ⟨[.ref a], []⟩) (fun r s' => r = .ok (.ret (.bool true)) ∧ OldK s₁.heap s'.heap ∧ s'.os = s₁.os ∧ AllBare s'.gens) s₁ := by
  have rv := vals_ints hi
  have lenV := hi.length
  have naT : a ∉ ts := fun z => by
    have := ht a z
    rw [ha] at this
    cases this
  have nKT : ∀ PT ∈ ts, K.lookup PT = none := fun PT hP => by
    cases q : K.lookup PT with
    | none => rfl
    | some o =>
      have e := KX PT o q
      rw [ht PT hP] at e
      cases e
      have h2 := List.all_eq_true.mp hnt (PT, _) (PySem.W.mem_of_lookupK q)
      exact absurd (show false = true from h2) Bool.false_ne_true
  have core : ∀ H : Hp, (∀ b, H b = none ∨ (b ∈ ts ∧ H b = some (.tbl #[])) ∨ ∃ o xs, H b = some (.frz o (.lst xs))) → (∀ PT ∈ ts, H PT = some (.tbl #[])) → SqL K H a (ns.map V.int) → HOk P w H s₁.heap → (∀ b, H b ≠ none → b = a ∨ b ∈ ts) → (H a ≠ none → K.lookup a = none) →
      codeAny (model P w) callerA (.call (.ref fa) ⟨[.ref a], []⟩) (fun r s' => r = .ok (.ret (.bool true)) ∧ OldK s₁.heap s'.heap ∧ s'.os = s₁.os ∧ AllBare s'.gens) s₁ := by
    intro H hO hTs hS hok hA hK
    have base_of : ∀ {b : Addr} {o : Obj}, s₁.heap.get? b = some o → H b = none → (hidT s₁.heap H).get? b = some o := fun e n => hidT_get e n
    have noA : ∀ {b : Addr} {o : Obj}, s₁.heap.get? b = some o → o ≠ { cls := .type "list", data := .seq vs.toArray } → o ≠ PySem.W.tabObj #[] → H b = none := fun {b o} e d1 d2 => by
      cases q : H b with
      | none => rfl
      | some u =>
        rcases hA b (by rw [q]; simp) with z | z
        · subst z
          rw [ha] at e; cases e
          exact absurd rfl d1
        · rw [ht b z] at e; cases e
          exact absurd rfl d2
    have nsK : ∀ {b : Addr} {m : Str → Option Value}, s₁.heap.Ns b m → (hidT s₁.heap H).Ns b m := fun {b m} ⟨o, es, ep, e, d, r⟩ => ⟨o, es, ep, base_of e (noA e (fun z => by rw [z] at d; cases d) fun z => by rw [z] at d; cases d), d, r⟩
    have hKb : K.In (hidT s₁.heap H) := fun b o e => base_of (KX b o e) (by
      cases q : H b with
      | none => rfl
      | some u =>
        rcases hA b (by rw [q]; simp) with z | z
        · subst z
          rw [hK (by rw [q]; simp)] at e; cases e
        · rw [nKT b z] at e; cases e)
    have hM : Mod K mg (hidT s₁.heap H) := ⟨hKb, nsK hns, ⟨mb, nsK hb, hbb⟩, let ⟨mc, h1, h2⟩ := hlim; ⟨mc, nsK h1, h2⟩⟩
    have hBA : ∀ PT ∈ ts, (hidT s₁.heap H).BuiltinsAt mg PT := fun PT hP => by
      obtain ⟨bm, ob, b1, b2, b3, b4, b5, b6⟩ := hbm
      refine ⟨bm, ob, b1, b2, fun z => ?_, fun z => ?_, base_of b3 (noA b3 (fun z => by rw [z] at b6; cases b6) fun z => by rw [z] at b4; cases b4), b4, b5, b6⟩
      · obtain ⟨o, es, ep, e, d, _⟩ := hns
        rw [← z, b3] at e
        cases e
        rw [b6] at d
        cases d
      · rw [z, ht PT hP] at b3
        cases b3
        cases b4
    have e0 : Env0 P w K mg (hidT s₁.heap H) callerA [] s₁ H := ⟨rfl, hM, fun b o e => of_hidT e, Nat.le_of_eq (hidT_size _ _), trivial, fun b hb => absurd (show b ∈ ([] : List Addr) from hb) (by simp), hok, .of_eq hg⟩
    refine codeAny_mono ((F _ hKb (nsK hns) hBA).run callerA [] s₁ H ⟨[.ref a], []⟩ [.ref a] [.ref a] _ _ hr e0 (hbind s₁ (.ref a)) (.cons rfl .nil) (hsp H hTs hS)) fun r s' h => ?_
    cases r with
    | error e => exact h.elim
    | ok fl =>
      cases fl with
      | next => exact False.elim h
      | brk => exact False.elim h
      | cont => exact False.elim h
      | ret u =>
        obtain ⟨v, H', os, bare, un, hok', r', q⟩ := h
        have q' : v = .bl true := q
        subst q'
        obtain rfl : u = Value.bool true := r'
        refine ⟨rfl, ⟨fun b o e => ?_, fun b o e => ?_⟩, os, bare⟩
        · rcases hO b with z | ⟨zt, z⟩ | ⟨ob, xs, z⟩
          · exact .inl (un.keep b o e z (by intro z; exact absurd (show b ∈ ([] : List Addr) from z) (by simp)) (by simp))
          · obtain ⟨more, z2⟩ := un.tbls b _ z
            have e2 := hok' b _ z2
            rw [ht b zt] at e
            cases e
            obtain ⟨c, hc⟩ := hcd b zt
            exact .inr (.inl ⟨((PySem.W.codeHd_of_K KX hc).tab (ht b zt)).isCodeTable, rfl, #[], more, rfl, e2⟩)
          · have z2 := un.frzs b ob _ z
            obtain ⟨e1, _⟩ := hok b _ z
            obtain ⟨e2, _⟩ := hok' b _ z2
            rw [e] at e1; cases e1
            exact .inl e2
        · exact un.there b o e (by simp)
  cases hk : K.lookup a with
  | some o =>
    have e := KX a o hk
    rw [ha] at e
    cases e
    refine core (fun b => if b ∈ ts then some (.tbl #[]) else none) (fun b => ?_) (fun PT hP => if_pos hP) (.inr ⟨_, vs.toArray, _, hk, rfl, rfl, rfl, by rw [List.size_toArray, lenV]; exact hl, by simpa using rv⟩) (fun b u z => ?_) (fun b z => ?_) fun z => absurd (if_neg naT) z
    · by_cases hb' : b ∈ ts
      · exact .inr (.inl ⟨hb', if_pos hb'⟩)
      · exact .inl (if_neg hb')
    · by_cases hb' : b ∈ ts
      · have z' := (if_pos hb').symm.trans z
        cases z'
        exact ht b hb'
      · have z' := (if_neg hb').symm.trans z
        cases z'
    · by_cases hb' : b ∈ ts
      · exact .inr hb'
      · exact absurd (if_neg hb') z
  | none =>
    refine core (fun b => if b = a then some (.frz { cls := .type "list", data := .seq vs.toArray } (.lst (ns.map V.int))) else if b ∈ ts then some (.tbl #[]) else none) (fun b => ?_) (fun PT hP => ?_) (.inl (.inr ⟨{ cls := .type "list", data := .seq vs.toArray }, if_pos rfl⟩)) (fun b u z => ?_) (fun b z => ?_) fun _ => hk
    · by_cases hb' : b = a
      · exact .inr (.inr ⟨_, _, if_pos hb'⟩)
      · by_cases hb2 : b ∈ ts
        · exact .inr (.inl ⟨hb2, by rw [if_neg hb', if_pos hb2]⟩)
        · exact .inl (by rw [if_neg hb', if_neg hb2])
    · have hne : PT ≠ a := fun z => naT (by rw [← z]; exact hP)
      rw [if_neg hne, if_pos hP]
    · by_cases hb' : b = a
      · have z' := (if_pos hb').symm.trans z
        cases z'
        subst hb'
        exact ⟨ha, by rw [List.length_map]; exact hl, vs, _, rv, ha⟩
      · by_cases hb2 : b ∈ ts
        · have z' := ((if_neg hb').trans (if_pos hb2)).symm.trans z
          cases z'
          exact ht b hb2
        · have z' := ((if_neg hb').trans (if_neg hb2)).symm.trans z
          cases z'
    · by_cases hb' : b = a
      · exact .inl hb'
      · by_cases hb2 : b ∈ ts
        · exact .inr hb2
        · exact absurd ((if_neg hb').trans (if_neg hb2)) z
theorem walk_ofT {l : PySem.W.OpenLaw} {n k : Nat} {q : Program} {loose : List Str} {XP : (Str → Option Value) → Heap → Prop} {YP : World → Heap → Prop} {d : DefRec} {K : Params → PySem.W.Frag} {sp : World → Sp} {x : Str} {ts : List Addr}
    (hn : l.most = some n) (hn2 : n ≤ sizeLine) (hdf : d.params.defaults = []) (hr : Room k callerA)
    (hY : ∀ (w : World) (h : Heap), YP w h → (K w.params).In h ∧ ∀ PT ∈ ts, h.get? PT = some (PySem.W.tabObj #[])) (hcd : ∀ w : World, (ts.all fun PT => (K w.params).any fun p => PySem.W.codeHdIn (K w.params) p.1 PT) = true) (hnt : ∀ w : World, PySem.W.noTabs (K w.params) = true)
    (F : ∀ (w : World) (mg : Str → Option Value) (fa : Addr) (h : Heap), (K w.params).In h → h.Ns mainGlobals mg → mg d.name = some (.ref fa) →
      ∃ fd : FuncData, (∀ (s : Shared) (u : Value), BindsTo s fd ⟨[u], []⟩ [(x, u)]) ∧
        ∀ base : Heap, (K w.params).In base → base.Ns mainGlobals mg → (∀ PT ∈ ts, base.BuiltinsAt mg PT) → FnOk l.prog w (K w.params) mg base CX0 k fa fd [x] (sp w))
    (hsp : ∀ (w : World) (H : Hp) (a : Addr) (ns : List Int), ns.length ≤ n → (∀ z ∈ ns, Builtin.Int.intBits z ≤ 1048576) → (∀ PT ∈ ts, H PT = some (.tbl #[])) → SqL (K w.params) H a (ns.map V.int) → sp w [.ref a] H (fun v _ => v = .bl true) fun _ _ _ => False) :
    PySem.W.WalkO q loose XP YP l.row.toRowW d [] (fun f vs => PySem.call f vs) := by
  intro w s₀ s₁ mg mb G Y fa o pm cd doc dV kV ho hd hcd' hD hmg hg args vals as hpre hlay hrd hwl hlo
  obtain rfl : dV = .none := PySem.W.Dflts.none hD hdf
  obtain rfl : kV = .none := PySem.W.Dflts.noKw hD
  obtain ⟨a, vs, ns, rfl, rfl, hobj, hints, hlen⟩ := Att.script_of hn hpre hwl
  have hbits := bits_of_lay hlay
  obtain ⟨KX, hts⟩ := hY w _ Y
  obtain ⟨fd, hb, hF⟩ := F w mg fa _ KX G.T.g hmg
  refine PySem.W.enter_call (codeAny_mono (law_callT (ts := ts) KX G.T.g G.T.b G.T.builtins G.T.nolimit hg hts (fun PT hP => by
    obtain ⟨p, _, h⟩ := List.any_eq_true.mp (List.all_eq_true.mp (hcd w) PT hP)
    exact ⟨_, h⟩) (hnt w) G.T.bmain hobj hints (Nat.le_trans hlen hn2) hr hF hb (fun H hT hS => hsp w H a ns hlen hbits hT hS)) fun r s' hq => ?_)
  obtain ⟨rfl, h2, h3, h4⟩ := hq
  exact ⟨.inl ⟨.bool true, .bool true, [], rfl, fun _ => rfl, .bool true, Att.post_true l _, fun _ => ⟨List.Pairwise.nil, fun _ hm => (nomatch hm)⟩⟩, h2, h3, h4⟩
theorem srcL_at {base : Heap} {K : PySem.W.Frag} {h : Heap} {mg : Str → Option Value} {f c PT : Addr} {oc : Value} {od an : Option Addr} {osl : Array (Option Value)} {kV doc pm ct : Value} (x qual : Str) (st : Stmt) (_hB : ∀ P ∈ [PT], base.BuiltinsAt mg P) (X : K.In h) (G : h.Ns mainGlobals mg)
    (a : PySem.W.nsIn K mainGlobals x = some (some (.ref f))) (l : K.lookup f = some ⟨oc, od, .func (PySem.W.fnOf x qual (defArgs st) (defBody st) (defScope st) .none kV doc pm an (.ref c) ct), osl⟩)
    (hc : PySem.W.codeIn K (.ref c) qual = true) (k : PySem.W.keepIn K (.ref f) = true) (hd : PySem.W.codeHdIn K c PT = true) : ∃ c, SrcL K mg x qual st c PT := ⟨c, srcL_mk X G a l hc k hd⟩
end L2

set_option Elab.async false
set_option linter.all false
set_option maxRecDepth 100000
set_option maxHeartbeats 4000000
/-! ### a way of greatest worth: the mathematics of bringing people in one by one -/
namespace BW
/-- what a row of rooms is worth -/
def wsum (W : Nat → Nat → Int) (v : List Nat) : Int := ((List.range v.length).map fun i => W i (v.getD i 0)).sum
def Fit (B : Nat → Nat) (v : List Nat) : Prop := ∀ r, v.count r ≤ B r
def ind (a b : Nat) : Nat := if a = b then 1 else 0
theorem ind_self (a : Nat) : ind a a = 1 := if_pos rfl
theorem ind_ne {a b : Nat} (h : a ≠ b) : ind a b = 0 := if_neg h
theorem wsum_snoc (W : Nat → Nat → Int) (v : List Nat) (r : Nat) : wsum W (v ++ [r]) = wsum W v + W v.length r := by
  unfold wsum
  rw [List.length_append, List.length_singleton, List.range_succ, List.map_append, List.sum_append]
  congr 1
  · congr 1
    refine List.map_congr_left fun i hi => ?_
    have hi := List.mem_range.mp hi
    simp [List.getD, List.getElem?_append_left hi]
  · simp [List.getD]
theorem sum_one {f g : Nat → Int} {j : Nat} : ∀ {n : Nat}, j < n → (∀ i, i ≠ j → f i = g i) → ((List.range n).map f).sum = ((List.range n).map g).sum - g j + f j
  | 0, h, _ => absurd h (Nat.not_lt_zero _)
  | n + 1, h, e => by
    rw [List.range_succ, List.map_append, List.map_append, List.sum_append, List.sum_append]
    by_cases hj : j = n
    · subst hj
      have : (List.range j).map f = (List.range j).map g := List.map_congr_left fun i hi => e i (Nat.ne_of_lt (List.mem_range.mp hi))
      rw [this]
      simp
    · have := sum_one (f := f) (g := g) (n := n) (by omega) e
      rw [this]
      have e2 := e n (fun z => hj z.symm)
      simp [e2]
      omega
theorem wsum_set (W : Nat → Nat → Int) (v : List Nat) {j r : Nat} (h : j < v.length) : wsum W (v.set j r) = wsum W v - W j v[j] + W j r := by
  unfold wsum
  rw [List.length_set]
  have := sum_one (f := fun i => W i ((v.set j r).getD i 0)) (g := fun i => W i (v.getD i 0)) h (fun i hi => by
    simp [List.getD, List.getElem?_set_ne (fun z => hi z.symm)])
  rw [this]
  simp [List.getD, h]
theorem count_move {v : List Nat} {j r x : Nat} (h : j < v.length) : (v.set j r).count x + ind x v[j] = v.count x + ind x r := by
  rw [List.count_set h]
  unfold ind
  have hpos : v[j] = x → 0 < v.count x := fun e => List.count_pos_iff.mpr (e ▸ List.getElem_mem h)
  by_cases h1 : v[j] = x <;> by_cases h2 : r = x
  · have := hpos h1
    simp [h1, h2]; omega
  · have := hpos h1
    have h2' : x ≠ r := fun z => h2 z.symm
    simp [h1, h2, h2']; omega
  · have h1' : x ≠ v[j] := fun z => h1 z.symm
    simp [h1, h2, h1']
  · have h1' : x ≠ v[j] := fun z => h1 z.symm
    have h2' : x ≠ r := fun z => h2 z.symm
    simp [h1, h2, h1', h2']
theorem count_le_of : ∀ {a b : List Nat} {r : Nat}, a.length = b.length → (∀ p : Nat, a[p]? = some r → b[p]? = some r) → a.count r ≤ b.count r
  | [], _, _, _, _ => by simp
  | x :: a, [], r, h, _ => by simp at h
  | x :: a, y :: b, r, h, e => by
    have ih := count_le_of (a := a) (b := b) (r := r) (by simpa using h) fun p hp => by
      have := e (p + 1) (by simpa using hp)
      simpa using this
    rw [List.count_cons, List.count_cons]
    have e0 := e 0
    by_cases hx : x = r
    · subst hx
      have : y = x := by simpa using e0 rfl
      subst this
      omega
    · simp [hx]
      omega
theorem countP_lt {l : List Nat} {p q : Nat → Bool} : ∀ (_ : ∀ x ∈ l, q x = true → p x = true) (_ : ∃ x ∈ l, p x = true ∧ q x = false), l.countP q < l.countP p := by
  induction l with
  | nil => rintro _ ⟨x, hx, _⟩; cases hx
  | cons a l ih =>
    rintro h ⟨x, hx, h1, h2⟩
    rw [List.countP_cons, List.countP_cons]
    have hm : l.countP q ≤ l.countP p := List.countP_mono_left fun y hy => h y (List.mem_cons_of_mem _ hy)
    rcases List.mem_cons.mp hx with z | z
    · subst z
      simp [h1, h2]
      omega
    · have := ih (fun y hy => h y (List.mem_cons_of_mem _ hy)) ⟨x, z, h1, h2⟩
      have ha := h a List.mem_cons_self
      by_cases hq : q a = true
      · simp [hq, ha hq]; omega
      · simp [hq]; split <;> omega
/-- with gains that no move betters, no one more is worth more than the best open room's gain -/
theorem core {W : Nat → Nat → Int} {B : Nat → Nat} {way : List Nat} {g : Nat → Int} {G : Int} {R : Nat} (hB : ∀ r, R ≤ r → B r = 0) (hopt : ∀ v : List Nat, v.length = way.length → Fit B v → wsum W v ≤ wsum W way)
    (hfix : ∀ p (hp : p < way.length) r, r < R → g way[p] + W p r - W p way[p] ≤ g r) (hG : ∀ r, way.count r < B r → g r ≤ G) :
    ∀ (d : Nat) (v : List Nat) (r : Nat), v.length = way.length → (List.range way.length).countP (fun i => decide (v[i]? ≠ way[i]?)) ≤ d → (∀ s, v.count s + ind s r ≤ B s) → wsum W v + g r ≤ wsum W way + G := by
  intro d
  induction d with
  | zero =>
    intro v r hl hd hf
    by_cases ho : way.count r < B r
    · have h1 := hopt v hl fun s => by have := hf s; omega
      have h2 := hG r ho
      omega
    · exfalso
      have hr := hf r
      rw [ind_self] at hr
      have : way.count r ≤ v.count r := count_le_of hl.symm fun p hp => by
        have h0 := Nat.le_zero.mp hd
        have hpl : p < way.length := (List.getElem?_eq_some_iff.mp hp).1
        have := List.countP_eq_zero.mp h0 p (List.mem_range.mpr hpl)
        have e : v[p]? = way[p]? := by simpa using this
        rw [e]; exact hp
      omega
  | succ d ih =>
    intro v r hl hd hf
    by_cases ho : way.count r < B r
    · have h1 := hopt v hl fun s => by have := hf s; omega
      have h2 := hG r ho
      omega
    · have hr := hf r
      rw [ind_self] at hr
      have hex : ∃ p : Nat, way[p]? = some r ∧ v[p]? ≠ some r := by
        refine Classical.byContradiction fun hn => ?_
        have : way.count r ≤ v.count r := count_le_of hl.symm fun p hp => by
          refine Classical.byContradiction fun z => hn ⟨p, hp, z⟩
        omega
      obtain ⟨p, hp, hv⟩ := hex
      obtain ⟨hpl, hpe⟩ := List.getElem?_eq_some_iff.mp hp
      have hpv : p < v.length := by omega
      have hv' : v[p] ≠ r := fun z => hv (by simp [hpv, z])
      have hrB : r < R := by
        refine Classical.byContradiction fun z => ?_
        have := hB r (by omega)
        omega
      have hvR : v[p] < R := by
        refine Classical.byContradiction fun z => ?_
        have h1 := hB v[p] (by omega)
        have h2 := hf v[p]
        have h3 : 0 < v.count v[p] := List.count_pos_iff.mpr (List.getElem_mem hpv)
        omega
      have h1 := ih (v.set p r) v[p] (by simpa using hl) (by
        have : (List.range way.length).countP (fun i => decide ((v.set p r)[i]? ≠ way[i]?)) < (List.range way.length).countP (fun i => decide (v[i]? ≠ way[i]?)) := countP_lt (fun x hx hq => by
          have hq' : (v.set p r)[x]? ≠ way[x]? := of_decide_eq_true hq
          refine decide_eq_true fun z => hq' ?_
          by_cases hxp : x = p
          · subst hxp
            rw [List.getElem?_set_self hpv, hp]
          · rw [List.getElem?_set_ne (fun z => hxp z.symm)]
            exact z) ⟨p, List.mem_range.mpr hpl, decide_eq_true (by rw [hp]; exact hv), decide_eq_false (by rw [List.getElem?_set_self hpv, hp]; simp)⟩
        omega) fun s => by
          have h2 := count_move (v := v) (j := p) (r := r) (x := s) hpv
          have h3 := hf s
          have h4 : ind s v[p] = ind s v[p] := rfl
          omega
      have h2 := wsum_set W v (j := p) (r := r) hpv
      have h3 := hfix p hpl v[p] hvR
      rw [hpe] at h3
      omega
/-- moves from room to room: from s to l, each room once -/
inductive Seg (W : Nat → Nat → Int) (way : List Nat) (R : Nat) (s : Nat) : List (Nat × Nat) → Nat → Int → Prop
  | nil : s < R → Seg W way R s [] s 0
  | snoc {c : List (Nat × Nat)} {l : Nat} {g : Int} {p r : Nat} : Seg W way R s c l g → way[p]? = some l → r < R → r ∉ s :: c.map (·.2) → Seg W way R s (c ++ [(p, r)]) r (g + W p r - W p l)
section
variable {W : Nat → Nat → Int} {way : List Nat} {R s : Nat}
def endOf (s : Nat) (c : List (Nat × Nat)) : Nat := (c.getLast?.map (·.2)).getD s
def gainOf (W : Nat → Nat → Int) (way : List Nat) (c : List (Nat × Nat)) : Int := (c.map fun m => W m.1 m.2 - W m.1 (way.getD m.1 0)).sum
theorem Seg.end_ {c : List (Nat × Nat)} {l : Nat} {g : Int} (h : Seg W way R s c l g) : l = endOf s c ∧ g = gainOf W way c := by
  induction h with
  | nil _ => exact ⟨rfl, rfl⟩
  | snoc h hp _ _ ih =>
    refine ⟨by simp [endOf], ?_⟩
    rw [ih.2]
    simp [gainOf, List.getD, hp]
    omega
theorem Seg.mem {c : List (Nat × Nat)} {l : Nat} {g : Int} (h : Seg W way R s c l g) : l ∈ s :: c.map (·.2) := by
  cases h with
  | nil _ => simp
  | snoc h _ _ _ => simp
theorem Seg.lt {c : List (Nat × Nat)} {l : Nat} {g : Int} (h : Seg W way R s c l g) : ∀ x ∈ s :: c.map (·.2), x < R := by
  induction h with
  | nil h => intro x hx; simp at hx; rw [hx]; exact h
  | snoc h _ hr _ ih =>
    intro x hx
    rw [List.map_append] at hx
    rcases List.mem_append.mp (show x ∈ (s :: _) ++ _ from hx) with z | z
    · exact ih x z
    · simp at z; rw [z]; exact hr
theorem Seg.nodup {c : List (Nat × Nat)} {l : Nat} {g : Int} (h : Seg W way R s c l g) : (s :: c.map (·.2)).Nodup := by
  induction h with
  | nil _ => simp
  | @snoc c _ _ p r h _ _ hn ih =>
    rw [List.map_append]
    show ((s :: c.map (·.2)) ++ [r]).Nodup
    refine List.nodup_append.mpr ⟨ih, by simp, fun a ha b hb => ?_⟩
    have : b = r := by simpa using hb
    rw [this]
    exact fun z => hn (z ▸ ha)
theorem Seg.split {c : List (Nat × Nat)} {l : Nat} {g : Int} (h : Seg W way R s c l g) : ∀ x ∈ s :: c.map (·.2), ∃ c1 c2 g1 g2, c = c1 ++ c2 ∧ Seg W way R s c1 x g1 ∧ Seg W way R x c2 l g2 ∧ g = g1 + g2 := by
  induction h with
  | nil h =>
    intro x hx
    have : x = s := by simpa using hx
    subst this
    exact ⟨[], [], 0, 0, rfl, .nil h, .nil h, rfl⟩
  | @snoc c l g p r h hp hr hn ih =>
    intro x hx
    rw [List.map_append] at hx
    rcases List.mem_append.mp (show x ∈ (s :: c.map (·.2)) ++ [r] from hx) with z | z
    · obtain ⟨c1, c2, g1, g2, rfl, a, b, e⟩ := ih x z
      refine ⟨c1, c2 ++ [(p, r)], g1, g2 + W p r - W p l, by simp, a, .snoc b hp hr fun q => ?_, by omega⟩
      rcases List.mem_cons.mp q with q | q
      · exact hn (q ▸ z)
      · exact hn (List.mem_cons_of_mem _ (by simp only [List.map_append]; exact List.mem_append_right _ q))
    · have : x = r := by simpa using z
      subst this
      exact ⟨c ++ [(p, x)], [], _, 0, by simp, .snoc h hp hr hn, .nil hr, by omega⟩
def app (v : List Nat) (c : List (Nat × Nat)) : List Nat := c.foldl (fun v m => v.set m.1 m.2) v
theorem app_snoc (v : List Nat) (c : List (Nat × Nat)) (m : Nat × Nat) : app v (c ++ [m]) = (app v c).set m.1 m.2 := by simp [app]
theorem Seg.app {c : List (Nat × Nat)} {l : Nat} {g : Int} (h : Seg W way R s c l g) :
    (app way c).length = way.length ∧ wsum W (app way c) = wsum W way + g ∧ (∀ x, (app way c).count x + ind x s = way.count x + ind x l) ∧ ∀ q r : Nat, way[q]? = some r → (r ∉ s :: c.map (·.2) ∨ r = l) → (BW.app way c)[q]? = some r := by
  induction h with
  | nil _ => exact ⟨rfl, by simp [BW.app], fun x => rfl, fun q r h _ => h⟩
  | @snoc c l g p r h hp hr hn ih =>
    obtain ⟨i1, i2, i3, i4⟩ := ih
    obtain ⟨hpl, hpe⟩ := List.getElem?_eq_some_iff.mp hp
    have hpa : p < (BW.app way c).length := by omega
    have hv := i4 p l hp (.inr rfl)
    have hv' : (BW.app way c)[p] = l := by
      rw [List.getElem?_eq_getElem hpa] at hv
      exact Option.some.inj hv
    rw [app_snoc]
    dsimp only
    refine ⟨by simpa using i1, ?_, fun x => ?_, fun q r' hq hc => ?_⟩
    · rw [wsum_set W _ hpa, i2, hv']
      omega
    · have h1 := count_move (v := BW.app way c) (j := p) (r := r) (x := x) hpa
      have h2 := i3 x
      rw [hv'] at h1
      omega
    · have hnot : r' ∉ s :: c.map (·.2) := by
        rcases hc with z | z
        · intro w
          refine z ?_
          rw [List.map_append]
          exact List.mem_append_left [r] w
        · rw [z]; exact hn
      have hqp : q ≠ p := fun z => by
        rw [z, hp] at hq
        have : l = r' := Option.some.inj hq
        exact hnot (this ▸ h.mem)
      rw [List.getElem?_set_ne (fun z => hqp z.symm)]
      exact i4 q r' hq (.inl hnot)
theorem Seg.persons {c : List (Nat × Nat)} {l : Nat} {g : Int} (h : Seg W way R s c l g) : ∀ m ∈ c, m.1 < way.length ∧ m.2 < R := by
  induction h with
  | nil _ => intro m hm; cases hm
  | @snoc c l g p r h hp hr _ ih =>
    intro m hm
    rcases List.mem_append.mp hm with z | z
    · exact ih m z
    · have : m = (p, r) := by simpa using z
      rw [this]
      exact ⟨(List.getElem?_eq_some_iff.mp hp).1, hr⟩
/-- a round of moves gains nothing -/
theorem Seg.round {B : Nat → Nat} (hfit : Fit B way) (hopt : ∀ v : List Nat, v.length = way.length → Fit B v → wsum W v ≤ wsum W way) {c : List (Nat × Nat)} {l p : Nat} {g : Int} (h : Seg W way R s c l g) (hp : way[p]? = some l) : g + W p s - W p l ≤ 0 := by
  obtain ⟨i1, i2, i3, i4⟩ := h.app
  obtain ⟨hpl, hpe⟩ := List.getElem?_eq_some_iff.mp hp
  have hpa : p < (BW.app way c).length := by omega
  have hv := i4 p l hp (.inr rfl)
  have hv' : (BW.app way c)[p] = l := by
    rw [List.getElem?_eq_getElem hpa] at hv
    exact Option.some.inj hv
  have h1 := hopt ((BW.app way c).set p s) (by simpa using i1) fun x => by
    have h1 := count_move (v := BW.app way c) (j := p) (r := s) (x := x) hpa
    have h2 := i3 x
    have h3 := hfit x
    rw [hv'] at h1
    omega
  rw [wsum_set W _ hpa, i2, hv'] at h1
  omega
end
theorem nodup_le : ∀ (R : Nat) (l : List Nat), l.Nodup → (∀ x ∈ l, x < R) → l.length ≤ R
  | 0, l, _, h => by
    cases l with
    | nil => simp
    | cons a r => exact absurd (h a List.mem_cons_self) (Nat.not_lt_zero _)
  | R + 1, l, hn, h => by
    have h1 := nodup_le R (l.erase R) (hn.erase _) fun x hx => by
      have hx' := (hn.mem_erase_iff).mp hx
      have := h x hx'.2
      have := hx'.1
      omega
    have h2 := List.length_erase (a := R) (l := l)
    split at h2 <;> omega
/-! the gains, bettered turn by turn -/
abbrev GM := List Int × List (List (Nat × Nat))
def relax (W : Nat → Nat → Int) (p l : Nat) (st : GM) (r : Nat) : GM :=
  if st.1.getD r 0 < st.1.getD l 0 + W p r - W p l then (st.1.set r (st.1.getD l 0 + W p r - W p l), st.2.set r (st.2.getD l [] ++ [(p, r)])) else st
def person (W : Nat → Nat → Int) (way : List Nat) (R : Nat) (st : GM) (p : Nat) : GM := (List.range R).foldl (relax W p (way.getD p 0)) st
def turn (W : Nat → Nat → Int) (way : List Nat) (R : Nat) (st : GM) : GM := (List.range way.length).foldl (person W way R) st
def turns (W : Nat → Nat → Int) (way : List Nat) (R : Nat) (st : GM) (k : Nat) : GM := (List.range k).foldl (fun st _ => turn W way R st) st
def first (W : Nat → Nat → Int) (way : List Nat) (R : Nat) : GM := ((List.range R).map fun r => W way.length r, (List.range R).map fun r => [(way.length, r)])
theorem turns_succ (W : Nat → Nat → Int) (way : List Nat) (R : Nat) (st : GM) (k : Nat) : turns W way R st (k + 1) = turn W way R (turns W way R st k) := by
  unfold turns
  rw [List.range_succ, List.foldl_append]
  rfl
section
variable {W : Nat → Nat → Int} {way : List Nat} {R : Nat}
/-- what holds of the gains and the moves all along -/
structure Ok (W : Nat → Nat → Int) (way : List Nat) (R : Nat) (st : GM) : Prop where
  l1 : st.1.length = R
  l2 : st.2.length = R
  at_ : ∀ r, r < R → ∃ r0 c g, st.2.getD r [] = (way.length, r0) :: c ∧ Seg W way R r0 c r g ∧ st.1.getD r 0 = W way.length r0 + g ∧ ∀ c1 c2 x g1, c = c1 ++ c2 → Seg W way R r0 c1 x g1 → W way.length r0 + g1 ≤ st.1.getD x 0
theorem first_ok : Ok W way R (first W way R) := by
  refine ⟨by simp [first], by simp [first], fun r hr => ⟨r, [], 0, ?_, .nil hr, ?_, fun c1 c2 x g1 e h => ?_⟩⟩
  · simp [first, List.getD, hr]
  · simp [first, List.getD, hr]
  · have e1 : c1 = [] := (List.append_eq_nil_iff.mp e.symm).1
    subst e1
    obtain ⟨h1, h2⟩ := h.end_
    have h1' : x = r := h1
    have h2' : g1 = 0 := h2
    subst h1' h2'
    simp [first, List.getD, hr]
theorem getD_set {α : Type} {l : List α} {i j : Nat} {x d : α} : (l.set i x).getD j d = if i = j ∧ j < l.length then x else l.getD j d := by
  simp only [List.getD]
  by_cases h : i = j
  · subst h
    by_cases hl : i < l.length
    · simp [List.getElem?_set_self hl, hl]
    · simp [hl]
  · rw [List.getElem?_set_ne h]
    simp [h]
theorem relax_mono {p l r : Nat} {st : GM} (x : Nat) : st.1.getD x 0 ≤ (relax W p l st r).1.getD x 0 := by
  unfold relax
  split
  · rename_i h
    show _ ≤ (st.1.set r _).getD x 0
    rw [getD_set]
    split
    · rename_i hx
      rw [← hx.1]
      omega
    · exact Int.le_refl _
  · exact Int.le_refl _
theorem relax_at {p l r : Nat} {st : GM} (hr : r < st.1.length) : st.1.getD l 0 + W p r - W p l ≤ (relax W p l st r).1.getD r 0 := by
  unfold relax
  split
  · show _ ≤ (st.1.set r _).getD r 0
    rw [getD_set, if_pos ⟨rfl, hr⟩]
    exact Int.le_refl _
  · rename_i h
    omega
theorem relax_ok {B : Nat → Nat} (hfit : Fit B way) (hopt : ∀ v : List Nat, v.length = way.length → Fit B v → wsum W v ≤ wsum W way) {p l r : Nat} {st : GM} (hp : way[p]? = some l) (hl : l < R) (hr : r < R) (ok : Ok W way R st) : Ok W way R (relax W p l st r) := by
  have mono := fun x => relax_mono (W := W) (p := p) (l := l) (r := r) (st := st) x
  unfold relax at mono ⊢
  split
  · rename_i hlt
    rw [if_pos hlt] at mono
    obtain ⟨r0, c, g, e1, hs, e2, hd⟩ := ok.at_ l hl
    have hnot : r ∉ r0 :: c.map (·.2) := fun z => by
      obtain ⟨c1, c2, g1, g2, ec, s1, s2, eg⟩ := hs.split r z
      have h1 := hd c1 c2 r g1 ec s1
      have h2 := s2.round hfit hopt hp
      rw [e2] at hlt
      omega
    refine ⟨by simpa using ok.l1, by simpa using ok.l2, fun x hx => ?_⟩
    by_cases hxr : r = x
    · subst hxr
      refine ⟨r0, c ++ [(p, r)], g + W p r - W p l, ?_, hs.snoc hp hr hnot, ?_, fun c1 c2 y g1 ec s1 => ?_⟩
      · show (st.2.set r _).getD r [] = _
        rw [getD_set, if_pos ⟨rfl, by rw [ok.l2]; exact hr⟩, e1]
        rfl
      · show (st.1.set r _).getD r 0 = _
        rw [getD_set, if_pos ⟨rfl, by rw [ok.l1]; exact hr⟩, e2]
        omega
      · rcases List.eq_nil_or_concat c2 with z | ⟨c2', m, z⟩
        · subst z
          rw [List.append_nil] at ec
          subst ec
          obtain ⟨a1, a2⟩ := s1.end_
          obtain ⟨b1, b2⟩ := (hs.snoc hp hr hnot).end_
          have : y = r := a1.trans b1.symm
          subst this
          show _ ≤ (st.1.set y _).getD y 0
          rw [getD_set, if_pos ⟨rfl, by rw [ok.l1]; exact hr⟩, e2]
          have : g1 = g + W p y - W p l := a2.trans b2.symm
          omega
        · subst z
          rw [List.concat_eq_append, ← List.append_assoc] at ec
          have ec' := List.append_inj_left' ec rfl
          have := hd c1 c2' y g1 ec' s1
          exact Int.le_trans this (mono y)
    · obtain ⟨r0', c', g', f1, f2, f3, f4⟩ := ok.at_ x hx
      refine ⟨r0', c', g', ?_, f2, ?_, fun c1 c2 y g1 ec s1 => Int.le_trans (f4 c1 c2 y g1 ec s1) (mono y)⟩
      · show (st.2.set r _).getD x [] = _
        rw [getD_set, if_neg (fun z => hxr z.1)]
        exact f1
      · show (st.1.set r _).getD x 0 = _
        rw [getD_set, if_neg (fun z => hxr z.1)]
        exact f3
  · exact ok
theorem fold_inv {α β : Type} {f : β → α → β} {I : β → Prop} {l : List α} : ∀ {b : β}, I b → (∀ b, ∀ a ∈ l, I b → I (f b a)) → I (l.foldl f b) := by
  induction l with
  | nil => intro b h _; exact h
  | cons a l ih => intro b h hs; exact ih (hs b a List.mem_cons_self h) fun b' a' ha => hs b' a' (List.mem_cons_of_mem _ ha)
theorem person_mono {p : Nat} {st : GM} (x : Nat) : st.1.getD x 0 ≤ (person W way R st p).1.getD x 0 :=
  fold_inv (I := fun st' : GM => st.1.getD x 0 ≤ st'.1.getD x 0) (Int.le_refl _) fun b a _ h => Int.le_trans h (relax_mono x)
theorem turn_mono {st : GM} (x : Nat) : st.1.getD x 0 ≤ (turn W way R st).1.getD x 0 :=
  fold_inv (I := fun st' : GM => st.1.getD x 0 ≤ st'.1.getD x 0) (Int.le_refl _) fun b a _ h => Int.le_trans h (person_mono x)
theorem relax_len {p l r : Nat} {st : GM} (h : st.1.length = R) : (relax W p l st r).1.length = R := by
  unfold relax
  split
  · simpa using h
  · exact h
theorem person_len {p : Nat} {st : GM} (h : st.1.length = R) : (person W way R st p).1.length = R := fold_inv (I := fun st' : GM => st'.1.length = R) h fun b a _ h => relax_len h
theorem person_at {p l r : Nat} {st : GM} (hp : way[p]? = some l) (hl : st.1.length = R) (hr : r < R) : st.1.getD l 0 + W p r - W p l ≤ (person W way R st p).1.getD r 0 := by
  have e : way.getD p 0 = l := by simp [List.getD, hp]
  unfold person
  rw [e]
  obtain ⟨a, b, hab⟩ := List.append_of_mem (List.mem_range.mpr hr)
  rw [hab, List.foldl_append, List.foldl_cons]
  have h1 : st.1.getD l 0 ≤ (a.foldl (relax W p l) st).1.getD l 0 := fold_inv (I := fun st' : GM => st.1.getD l 0 ≤ st'.1.getD l 0) (Int.le_refl _) fun b a _ h => Int.le_trans h (relax_mono l)
  have h2 : (a.foldl (relax W p l) st).1.length = R := fold_inv (I := fun st' : GM => st'.1.length = R) hl fun b a _ h => relax_len h
  have h3 := relax_at (W := W) (p := p) (l := l) (r := r) (st := a.foldl (relax W p l) st) (by rw [h2]; exact hr)
  have h4 : (relax W p l (a.foldl (relax W p l) st) r).1.getD r 0 ≤ (b.foldl (relax W p l) (relax W p l (a.foldl (relax W p l) st) r)).1.getD r 0 := fold_inv (I := fun st' : GM => (relax W p l (a.foldl (relax W p l) st) r).1.getD r 0 ≤ st'.1.getD r 0) (Int.le_refl _) fun b a _ h => Int.le_trans h (relax_mono r)
  omega
theorem turn_at {p l r : Nat} {st : GM} (hp : way[p]? = some l) (hl : st.1.length = R) (hr : r < R) : st.1.getD l 0 + W p r - W p l ≤ (turn W way R st).1.getD r 0 := by
  unfold turn
  obtain ⟨a, b, hab⟩ := List.append_of_mem (List.mem_range.mpr (List.getElem?_eq_some_iff.mp hp).1)
  rw [hab, List.foldl_append, List.foldl_cons]
  have h1 : st.1.getD l 0 ≤ (a.foldl (person W way R) st).1.getD l 0 := fold_inv (I := fun st' : GM => st.1.getD l 0 ≤ st'.1.getD l 0) (Int.le_refl _) fun b a _ h => Int.le_trans h (person_mono l)
  have h2 : (a.foldl (person W way R) st).1.length = R := fold_inv (I := fun st' : GM => st'.1.length = R) hl fun b a _ h => person_len h
  have h3 := person_at (W := W) (way := way) (R := R) (st := a.foldl (person W way R) st) hp h2 hr
  have h4 : (person W way R (a.foldl (person W way R) st) p).1.getD r 0 ≤ (b.foldl (person W way R) (person W way R (a.foldl (person W way R) st) p)).1.getD r 0 := fold_inv (I := fun st' : GM => (person W way R (a.foldl (person W way R) st) p).1.getD r 0 ≤ st'.1.getD r 0) (Int.le_refl _) fun b a _ h => Int.le_trans h (person_mono r)
  omega
theorem turns_ok {B : Nat → Nat} (hfit : Fit B way) (hopt : ∀ v : List Nat, v.length = way.length → Fit B v → wsum W v ≤ wsum W way) (hway : ∀ r ∈ way, r < R) (k : Nat) : Ok W way R (turns W way R (first W way R) k) := by
  refine fold_inv (I := Ok W way R) first_ok fun st _ _ ok => ?_
  refine fold_inv (I := Ok W way R) ok fun st p hp ok => ?_
  have hpl := List.mem_range.mp hp
  have e : way[p]? = some (way.getD p 0) := by simp [List.getD, hpl]
  exact fold_inv (I := Ok W way R) ok fun st r hr ok => relax_ok hfit hopt e (hway _ (List.mem_of_getElem? e)) (List.mem_range.mp hr) ok
inductive Reach (W : Nat → Nat → Int) (way : List Nat) (R : Nat) : Nat → Nat → Int → Prop
  | base {r : Nat} : r < R → Reach W way R 0 r (W way.length r)
  | keep {k r : Nat} {x : Int} : Reach W way R k r x → Reach W way R (k + 1) r x
  | step {k l p r : Nat} {x : Int} : Reach W way R k l x → way[p]? = some l → r < R → Reach W way R (k + 1) r (x + W p r - W p l)
theorem Reach.more {k r : Nat} {x : Int} (h : Reach W way R k r x) : ∀ {j : Nat}, k ≤ j → Reach W way R j r x := by
  intro j hj
  induction j with
  | zero =>
    have : k = 0 := by omega
    subst this
    exact h
  | succ j ih =>
    by_cases hk : k = j + 1
    · subst hk; exact h
    · exact .keep (ih (by omega))
theorem Seg.reach {r0 l : Nat} {c : List (Nat × Nat)} {g : Int} (h : Seg W way R r0 c l g) : Reach W way R c.length l (W way.length r0 + g) := by
  induction h with
  | nil h =>
    have := Reach.base (W := W) (way := way) h
    simpa using this
  | @snoc c l g p r h hp hr _ ih =>
    have := Reach.step ih hp hr
    rw [List.length_append]
    have e : W way.length r0 + g + W p r - W p l = W way.length r0 + (g + W p r - W p l) := by omega
    rw [e] at this
    exact this
theorem reach_le {k r : Nat} {x : Int} (h : Reach W way R k r x) : x ≤ (turns W way R (first W way R) k).1.getD r 0 := by
  have hlen : ∀ k, (turns W way R (first W way R) k).1.length = R := fun k => fold_inv (I := fun st' : GM => st'.1.length = R) (by simp [first]) fun b a _ h => fold_inv (I := fun st' : GM => st'.1.length = R) h fun b a _ h => person_len h
  induction h with
  | base hr => simp [turns, first, List.getD, hr]
  | keep _ ih => rw [turns_succ]; exact Int.le_trans ih (turn_mono _)
  | @step k l p r x _ hp hr ih =>
    rw [turns_succ]
    have := turn_at (W := W) (way := way) (R := R) (st := turns W way R (first W way R) k) hp (hlen k) hr
    omega
/-- as many turns as rooms: no move betters the gains -/
theorem turns_fix {B : Nat → Nat} (hfit : Fit B way) (hopt : ∀ v : List Nat, v.length = way.length → Fit B v → wsum W v ≤ wsum W way) (hway : ∀ r ∈ way, r < R) {p r : Nat} (hp : p < way.length) (hr : r < R) :
    (turns W way R (first W way R) R).1.getD way[p] 0 + W p r - W p way[p] ≤ (turns W way R (first W way R) R).1.getD r 0 := by
  have ok := turns_ok (W := W) (R := R) hfit hopt hway R
  have hl : way[p] < R := hway _ (List.getElem_mem hp)
  obtain ⟨r0, c, g, _, hs, e2, _⟩ := ok.at_ _ hl
  have h1 := nodup_le R _ hs.nodup hs.lt
  have h2 : c.length + 1 ≤ R := by simpa using h1
  have h3 := hs.reach.more (j := R - 1) (by omega)
  have h4 := Reach.step h3 (show way[p]? = some way[p] by simp [hp]) hr
  have h5 := reach_le h4
  rw [show R - 1 + 1 = R by omega] at h5
  rw [e2]
  exact h5
theorem app_last {v : List Nat} {x : Nat} : ∀ {c : List (Nat × Nat)}, (∀ m ∈ c, m.1 < v.length) → app (v ++ [x]) c = app v c ++ [x] := by
  intro c
  induction c generalizing v with
  | nil => intro _; rfl
  | cons m c ih =>
    intro h
    have hm := h m List.mem_cons_self
    show app ((v ++ [x]).set m.1 m.2) c = app (v.set m.1 m.2) c ++ [x]
    rw [List.set_append_left _ _ hm]
    exact ih fun m' hm' => by rw [List.length_set]; exact h m' (List.mem_cons_of_mem _ hm')
/-- one brought in by the best row of moves: a way of greatest worth again -/
theorem brought {B : Nat → Nat} (hB : ∀ r, R ≤ r → B r = 0) (hfit : Fit B way) (hopt : ∀ v : List Nat, v.length = way.length → Fit B v → wsum W v ≤ wsum W way) {e : Nat} (he : way.count e < B e)
    (hbest : ∀ r, way.count r < B r → (turns W way R (first W way R) R).1.getD r 0 ≤ (turns W way R (first W way R) R).1.getD e 0) :
    ∀ b, b = app (way ++ [e]) ((turns W way R (first W way R) R).2.getD e []) → b.length = way.length + 1 ∧ Fit B b ∧ ∀ v : List Nat, v.length = way.length + 1 → Fit B v → wsum W v ≤ wsum W b := by
  have hway : ∀ r ∈ way, r < R := fun r hr => by
    refine Classical.byContradiction fun z => ?_
    have h1 := hB r (by omega)
    have h2 := hfit r
    have h3 := List.count_pos_iff.mpr hr
    omega
  have ok := turns_ok (W := W) (R := R) hfit hopt hway R
  have heR : e < R := by
    refine Classical.byContradiction fun z => ?_
    have := hB e (by omega)
    omega
  obtain ⟨r0, c, g, e1, hs, e2, _⟩ := ok.at_ e heR
  rintro b rfl
  rw [e1]
  have ea : app (way ++ [e]) ((way.length, r0) :: c) = app way c ++ [r0] := by
    show app ((way ++ [e]).set way.length r0) c = _
    rw [List.set_append_right _ _ (Nat.le_refl _)]
    simp only [Nat.sub_self, List.set_cons_zero]
    exact app_last fun m hm => (hs.persons m hm).1
  rw [ea]
  obtain ⟨i1, i2, i3, _⟩ := hs.app
  refine ⟨by simp [i1], fun x => ?_, fun v hv hf => ?_⟩
  · rw [List.count_append]
    have h1 := i3 x
    have h2 := hfit x
    have h3 : List.count x [r0] = ind x r0 := by
      unfold ind
      by_cases h : x = r0
      · subst h; simp
      · have h' : r0 ≠ x := fun z => h z.symm
        simp [h, h']
    rw [h3]
    by_cases hx : x = e
    · subst hx
      rw [ind_self] at h1
      omega
    · rw [ind_ne hx] at h1
      omega
  · rw [wsum_snoc, i2, i1]
    rcases List.eq_nil_or_concat v with z | ⟨v', r, z⟩
    · subst z; simp at hv
    · subst z
      rw [List.concat_eq_append] at hf ⊢
      have hv' : v'.length = way.length := by simpa using hv
      rw [wsum_snoc, hv']
      have hf' : ∀ s, v'.count s + ind s r ≤ B s := fun s => by
        have := hf s
        rw [List.count_append] at this
        have h3 : List.count s [r] = ind s r := by
          unfold ind
          by_cases h : s = r
          · subst h; simp
          · have h' : r ≠ s := fun z => h z.symm
            simp [h, h']
        omega
      have hrR : r < R := by
        refine Classical.byContradiction fun z => ?_
        have h1 := hB r (by omega)
        have h2 := hf' r
        rw [ind_self] at h2
        omega
      have h1 := core (W := W) (B := B) (way := way) (g := fun r => (turns W way R (first W way R) R).1.getD r 0) (R := R) hB hopt (fun p hp r hr => turns_fix hfit hopt hway hp hr) hbest _ v' r hv' (Nat.le_refl _) hf'
      have h2 : W way.length r ≤ (turns W way R (first W way R) R).1.getD r 0 := reach_le ((Reach.base hrR).more (Nat.zero_le _))
      have h3 : (turns W way R (first W way R) R).1.getD e 0 = W way.length r0 + g := e2
      rw [h3] at h1
      omega
end
end BW

set_option Elab.async false
set_option linter.all false
set_option maxRecDepth 100000
set_option maxHeartbeats 4000000
namespace L2
open PySem PySem.Spec PyProof.Rows BW
/-! ### best_way over the heap -/
theorem Room.dep {k : Nat} {A : Around} (r : Room k A) : A.depth < recursionLimit := by have := r.dp; omega
def wI (way : List Nat) : List Int := way.map fun (r : Nat) => (r : Int)
theorem wI_len (way : List Nat) : ((wI way).map V.int).length = way.length := by simp [wI]
theorem wI_at {way : List Nat} {i r : Nat} (h : way[i]? = some r) : ((wI way).map V.int)[i]? = some (.int (r : Int)) := by simp [wI, h]
theorem wI_count (way : List Nat) (r : Nat) : (wI way).count (r : Int) = way.count r := by
  induction way with
  | nil => rfl
  | cons x l ih =>
    show List.count (r : Int) (((x : Nat) : Int) :: wI l) = _
    rw [List.count_cons, List.count_cons, ih]
    by_cases h : x = r
    · subst h; simp
    · have : ¬ (((x : Nat) : Int) = (r : Int)) := by omega
      simp [h, this]
/-- the worth of a room to a person -/
def wF (worths : List (List Int)) (p r : Nat) : Int := (worths.getD p []).getD r 0
def bF (beds : List Int) (r : Nat) : Nat := (beds.getD r 0).toNat
def ChainAt (H : Hp) (a : Addr) (c : List (Nat × Nat)) : Prop := ∃ ts : List Addr, H a = some (.lst (ts.map V.ref)) ∧ ts.length = c.length ∧ ∀ (j : Nat) t m, ts[j]? = some t → c[j]? = some m → H t = some (.tup [.int (m.1 : Int), .int (m.2 : Int)])
theorem ChainAt.keep {H H' : Hp} {a : Addr} {c : List (Nat × Nat)} (h : ChainAt H a c) (h1 : ∀ o, H a = some o → H' a = some o) (h2 : ∀ t xs, H t = some (.tup xs) → H' t = some (.tup xs)) : ChainAt H' a c := by
  obtain ⟨ts, e1, e2, e3⟩ := h
  exact ⟨ts, h1 _ e1, e2, fun j t m a b => h2 _ _ (e3 j t m a b)⟩
theorem ChainAt.snoc {H : Hp} {a t : Addr} {c : List (Nat × Nat)} {m : Nat × Nat} {ts : List Addr} (e1 : H a = some (.lst (ts.map V.ref ++ [.ref t]))) (e2 : ts.length = c.length) (e3 : ∀ (j : Nat) t m, ts[j]? = some t → c[j]? = some m → H t = some (.tup [.int (m.1 : Int), .int (m.2 : Int)])) (e4 : H t = some (.tup [.int (m.1 : Int), .int (m.2 : Int)])) : ChainAt H a (c ++ [m]) := by
  refine ⟨ts ++ [t], by rw [e1]; simp, by simp [e2], fun j t' m' h1 h2 => ?_⟩
  by_cases hj : j < ts.length
  · rw [List.getElem?_append_left hj] at h1
    rw [List.getElem?_append_left (by omega)] at h2
    exact e3 j t' m' h1 h2
  · have hj2 : j = ts.length := by
      have := (List.getElem?_eq_some_iff.mp h1).1
      simp at this
      omega
    subst hj2
    simp at h1
    rw [e2] at h2
    simp at h2
    subst h1 h2
    exact e4
structure MovesAt (H : Hp) (ga mv : Addr) (gs : List Int) (ms : List (List (Nat × Nat))) : Prop where
  ne : ga ≠ mv
  g : H ga = some (.lst (gs.map V.int))
  ex : ∃ ls : List Addr, H mv = some (.lst (ls.map V.ref)) ∧ ls.length = ms.length ∧ (∀ a ∈ ls, a ≠ ga ∧ a ≠ mv) ∧ ∀ (i : Nat) a c, ls[i]? = some a → ms[i]? = some c → ChainAt H a c
theorem MovesAt.same {H H' : Hp} {ga mv : Addr} {gs : List Int} {ms : List (List (Nat × Nat))} (h : MovesAt H ga mv gs ms) (s : Same H H') : MovesAt H' ga mv gs ms := by
  obtain ⟨ls, e1, e2, e3, e4⟩ := h.ex
  exact ⟨h.ne, s _ _ h.g, ls, s _ _ e1, e2, e3, fun i a c h1 h2 => (e4 i a c h1 h2).keep (fun o e => s _ _ e) fun t xs e => s _ _ e⟩
theorem MovesAt.gset {H : Hp} {ga mv : Addr} {gs gs' : List Int} {ms : List (List (Nat × Nat))} (h : MovesAt H ga mv gs ms) : MovesAt (upd H ga (.lst (gs'.map V.int))) ga mv gs' ms := by
  obtain ⟨ls, e1, e2, e3, e4⟩ := h.ex
  refine ⟨h.ne, upd_same, ls, by rw [upd_ne h.ne.symm]; exact e1, e2, e3, fun i a c h1 h2 => (e4 i a c h1 h2).keep (fun o e => ?_) fun t xs e => ?_⟩
  · rw [upd_ne (e3 a (List.mem_of_getElem? h1)).1]; exact e
  · rw [upd_ne (ne_of e h.g (by intro z; cases z))]; exact e
theorem MovesAt.mset {H : Hp} {ga mv n : Addr} {gs : List Int} {ms : List (List (Nat × Nat))} {ls : List Addr} {r : Nat} {c : List (Nat × Nat)} (h : MovesAt H ga mv gs ms) (e1 : H mv = some (.lst (ls.map V.ref))) (hr : r < ls.length) (hn1 : n ≠ ga) (hn2 : n ≠ mv) (hc : ChainAt H n c) :
    MovesAt (upd H mv (.lst ((ls.map V.ref).set r (.ref n)))) ga mv gs (ms.set r c) := by
  obtain ⟨ls', f1, e2, e3, e4⟩ := h.ex
  rw [e1] at f1
  have : ls' = ls := by
    have f2 := HO.lst.inj (Option.some.inj f1)
    have hinj : ∀ a b : Addr, V.ref a = V.ref b → a = b := fun a b z => V.ref.inj z
    exact (List.map_inj_right (f := V.ref) (fun a b z => hinj a b z)).mp f2.symm
  subst this
  have kp : ∀ a c, ChainAt H a c → a ≠ mv → ChainAt (upd H mv (.lst ((ls'.map V.ref).set r (.ref n)))) a c := fun a c hc hne => hc.keep (fun o e => by rw [upd_ne hne]; exact e) fun t xs e => by
    rw [upd_ne (ne_of e e1 (by intro z; cases z))]; exact e
  refine ⟨h.ne, by rw [upd_ne h.ne]; exact h.g, ls'.set r n, by rw [upd_same, List.map_set], by simp [e2], fun a ha => ?_, fun i a c' h1 h2 => ?_⟩
  · rcases List.mem_or_eq_of_mem_set ha with z | z
    · exact e3 a z
    · rw [z]; exact ⟨hn1, hn2⟩
  · by_cases hi : r = i
    · subst hi
      rw [List.getElem?_set_self hr] at h1
      rw [List.getElem?_set_self (by omega)] at h2
      cases h1
      cases h2
      exact kp _ _ hc hn2
    · rw [List.getElem?_set_ne hi] at h1
      rw [List.getElem?_set_ne hi] at h2
      exact kp _ _ (e4 i a c' h1 h2) (e3 a (List.mem_of_getElem? h1)).2
/-- all but the two lists stays -/
def But2 (ga mv : Addr) (H H' : Hp) : Prop := ∀ b o, H b = some o → b ≠ ga → b ≠ mv → H' b = some o
/-- what a house keeps to, for best_way -/
structure BestOk (beds : List Int) (worths : List (List Int)) : Prop where
  b1 : beds.length ≤ 10
  w1 : worths.length ≤ 10
  rows : ∀ row ∈ worths, row.length = beds.length
theorem bF_out (beds : List Int) : ∀ r, beds.length ≤ r → bF beds r = 0 := fun r h => by simp [bF, List.getD, h]
def Opt (beds : List Int) (worths : List (List Int)) (way : List Nat) : Prop := ∀ v : List Nat, v.length = way.length → Fit (bF beds) v → wsum (wF worths) v ≤ wsum (wF worths) way
theorem fit_lt {beds : List Int} {way : List Nat} (h : Fit (bF beds) way) : ∀ r ∈ way, r < beds.length := fun r hr => by
  refine Classical.byContradiction fun z => ?_
  have h1 := bF_out beds r (by omega)
  have h2 := h r
  have h3 := List.count_pos_iff.mpr hr
  omega
def sp_improve (K : PySem.W.Frag) (C : Addr) : Sp := fun vs H Q _ => ∃ (H0 : Hp) (p a ga mv : Addr) (beds : List Int) (worths : List (List Int)) (rent : Int) (way : List Nat) (st : GM), vs = [.ref p, .ref a, .ref ga, .ref mv] ∧ Same H0 H ∧ H0 ga = none ∧ H0 mv = none ∧
  HouseAt C H0 p beds worths rent ∧ H0 a = some (.lst ((wI way).map V.int)) ∧ BestOk beds worths ∧ way.length < worths.length ∧ Fit (bF beds) way ∧ Opt beds worths way ∧ Ok (wF worths) way beds.length st ∧ MovesAt H ga mv st.1 st.2 ∧
  ∀ H', But2 ga mv H H' → MovesAt H' ga mv (turn (wF worths) way beds.length st).1 (turn (wF worths) way beds.length st).2 → Q .non H'
theorem HouseAt.sameB {C : Addr} {H H' : Hp} {p : Addr} {beds : List Int} {worths : List (List Int)} {rent : Int} (h : HouseAt C H p beds worths rent) (s : SameB H H') : HouseAt C H' p beds worths rent := by
  obtain ⟨dx, b, w, h1, h2, ws, h3, h4, h5⟩ := h.ex
  exact ⟨dx, b, w, s.to _ _ h1 rfl, s.to _ _ h2 rfl, ws, s.to _ _ h3 rfl, h4, fun i a row e1 e2 => s.to _ _ (h5 i a row e1 e2) rfl⟩
theorem Mat.sameB {H H' : Hp} {w : Addr} {worths : List (List Int)} (h : Mat H w worths) (s : SameB H H') : Mat H' w worths := by
  obtain ⟨ws, h3, h4, h5⟩ := h
  exact ⟨ws, s.to _ _ h3 rfl, h4, fun i a row e1 e2 => s.to _ _ (h5 i a row e1 e2) rfl⟩
theorem zsum : ∀ R : Nat, ((List.range R).map fun _ => (0 : Nat)).sum = 0
  | 0 => rfl
  | R + 1 => by
    rw [List.range_succ, List.map_append, List.sum_append, zsum R]
    rfl
theorem ind_sum (x : Nat) : ∀ R : Nat, ((List.range R).map fun r => ind x r).sum ≤ 1 := by
  intro R
  induction R with
  | zero => simp
  | succ R ih =>
    rw [List.range_succ, List.map_append, List.sum_append]
    by_cases h : x = R
    · subst h
      have : ((List.range x).map fun r => ind x r).sum = 0 := by
        have : (List.range x).map (fun r => ind x r) = (List.range x).map fun _ => 0 := List.map_congr_left fun r hr => ind_ne (Nat.ne_of_gt (List.mem_range.mp hr))
        rw [this]
        exact zsum x
      rw [this]
      simp [ind]
    · simp [ind_ne h]
      exact ih
theorem count_sum (way : List Nat) (R : Nat) : ((List.range R).map fun r => way.count r).sum ≤ way.length := by
  induction way with
  | nil =>
    have := zsum R
    simp [this]
  | cons x l ih =>
    have h1 : (List.range R).map (fun r => (x :: l).count r) = (List.range R).map (fun r => l.count r + ind x r) := List.map_congr_left fun r _ => by
      rw [List.count_cons]
      unfold ind
      by_cases h : x = r
      · subst h; simp
      · simp [h]
    have h2 : ∀ R, ((List.range R).map (fun r => l.count r + ind x r)).sum = ((List.range R).map fun r => l.count r).sum + ((List.range R).map fun r => ind x r).sum := by
      intro R
      induction R with
      | zero => rfl
      | succ R ih' =>
        rw [List.range_succ, List.map_append, List.map_append, List.map_append, List.sum_append, List.sum_append, List.sum_append, ih']
        simp
        omega
    rw [h1, h2, List.length_cons]
    have := ind_sum x R
    omega
theorem sum_range_getD (bs : List Int) : bs.sum = ((List.range bs.length).map fun r => bs.getD r 0).sum := by
  congr 1
  refine List.ext_getElem (by simp) fun i h1 h2 => ?_
  simp [List.getD, h1]
/-- fewer people than beds: a room is open -/
theorem open_ex {beds : List Int} {way : List Nat} (h : (way.length : Int) < beds.sum) (hb : ∀ b ∈ beds, 0 ≤ b) : ∃ r, r < beds.length ∧ way.count r < bF beds r := by
  refine Classical.byContradiction fun hn => ?_
  have h1 : ∀ r, r < beds.length → beds.getD r 0 ≤ ((way.count r : Nat) : Int) := fun r hr => by
    have : ¬ way.count r < bF beds r := fun z => hn ⟨r, hr, z⟩
    unfold bF at this
    omega
  have h2 : ∀ R, R ≤ beds.length → ((List.range R).map fun r => beds.getD r 0).sum ≤ ((((List.range R).map fun r => way.count r).sum : Nat) : Int) := by
    intro R hR
    induction R with
    | zero => simp
    | succ R ih =>
      rw [List.range_succ, List.map_append, List.map_append, List.sum_append, List.sum_append]
      have a := ih (by omega)
      have b := h1 R (by omega)
      simp at a b ⊢
      omega
  have h3 := h2 beds.length (Nat.le_refl _)
  rw [← sum_range_getD] at h3
  have h4 := count_sum way beds.length
  omega
theorem mem_open {beds : List Int} {way : List Nat} {z : Int} : z ∈ openL beds (wI way) ↔ ∃ r : Nat, z = r ∧ r < beds.length ∧ way.count r < bF beds r := by
  unfold openL
  rw [List.mem_map]
  constructor
  · rintro ⟨r, h1, rfl⟩
    obtain ⟨h2, h3⟩ := List.mem_filter.mp h1
    have h4 := of_decide_eq_true h3
    rw [wI_count] at h4
    exact ⟨r, rfl, List.mem_range.mp h2, by unfold bF; omega⟩
  · rintro ⟨r, rfl, h1, h2⟩
    refine ⟨r, List.mem_filter.mpr ⟨List.mem_range.mpr h1, decide_eq_true ?_⟩, rfl⟩
    rw [wI_count]
    unfold bF at h2
    omega
end L2

set_option Elab.async false
set_option linter.all false
set_option maxRecDepth 100000
set_option maxHeartbeats 4000000
namespace L2
open PySem PySem.Spec PyProof.Rows BW
/-! ### ways drawn, as rows of room numbers -/
end L2

set_option Elab.async false
set_option linter.all false
set_option maxRecDepth 100000
set_option maxHeartbeats 4000000
namespace L2
open PySem PySem.Spec PyProof.Rows BW
/-! ### the greatest and the least of a list -/
/-! ### one person fewer, one more -/
def zs : List (List Int) → List Nat → Int
  | row :: ws, r :: v => row.getD r 0 + zs ws v
  | _, _ => 0
end L2

set_option Elab.async false
set_option linter.all false
set_option maxRecDepth 100000
set_option maxHeartbeats 4000000
namespace L2
open PySem PySem.Spec PyProof.Rows BW
/-! ### all lists of rooms, by numbers -/
end L2

set_option Elab.async false
set_option linter.all false
set_option maxRecDepth 100000
set_option maxHeartbeats 4000000
namespace L2
open PySem PySem.Spec PyProof.Rows BW
/-! ### fair prices: what breaks first -/
structure Fp where
  beds : List Int
  worths : List (List Int)
  rent : Int
  way : List Nat
  parts : Int
  rows : List Int
def Fp.share (F : Fp) (i r : Nat) : Int := F.parts * wF F.worths i r - F.rows.getD r 0
def Fp.envies (F : Fp) (i r : Nat) : Prop := F.share i (F.way.getD i 0) < F.share i r
def Fp.open_ (F : Fp) (r : Nat) : Prop := F.way.count r < bF F.beds r
def Fp.taken (F : Fp) (r : Nat) : Prop := 0 < F.way.count r
def Fp.dear (F : Fp) (r q : Nat) : Prop := F.open_ r ∧ F.taken q ∧ F.rows.getD q 0 < F.rows.getD r 0
def Fp.sumOk (F : Fp) : Prop := (F.way.map fun r => F.rows.getD r 0).sum = F.parts * F.rent
inductive BR
  | none
  | sum
  | envy (i r : Nat)
  | opn (r q : Nat)
def Fp.noEnvy (F : Fp) : Prop := ∀ i r, i < F.worths.length → r < F.beds.length → ¬ F.envies i r
def Fp.noDear (F : Fp) : Prop := ∀ r q, r < F.beds.length → q < F.beds.length → ¬ F.dear r q
def Fp.firstEnvy (F : Fp) (i r : Nat) : Prop := i < F.worths.length ∧ r < F.beds.length ∧ F.envies i r ∧ (∀ i' r', i' < i → r' < F.beds.length → ¬ F.envies i' r') ∧ ∀ r', r' < r → ¬ F.envies i r'
def Fp.firstDear (F : Fp) (r q : Nat) : Prop := r < F.beds.length ∧ q < F.beds.length ∧ F.dear r q ∧ (∀ r' q', r' < r → q' < F.beds.length → ¬ F.dear r' q') ∧ ∀ q', q' < q → ¬ F.dear r q'
def Fp.is (F : Fp) : BR → Prop
  | .none => F.sumOk ∧ F.noEnvy ∧ F.noDear
  | .sum => ¬ F.sumOk
  | .envy i r => F.sumOk ∧ F.firstEnvy i r
  | .opn r q => F.sumOk ∧ F.noEnvy ∧ F.firstDear r q
/-- an answer as it is told -/
def BrV (H : Hp) (v : V) : BR → Prop
  | .none => v = .non
  | .sum => ∃ t, v = .ref t ∧ H t = some (.tup [.str "sum"])
  | .envy i r => ∃ t, v = .ref t ∧ H t = some (.tup [.str "envy", .int (i : Int), .int (r : Int)])
  | .opn r q => ∃ t, v = .ref t ∧ H t = some (.tup [.str "open", .int (r : Int), .int (q : Int)])
theorem BrV.same {H H' : Hp} {v : V} {b : BR} (h : BrV H v b) (s : Same H H') : BrV H' v b := by
  cases b with
  | none => exact h
  | sum => obtain ⟨t, e, z⟩ := h; exact ⟨t, e, s _ _ z⟩
  | envy i r => obtain ⟨t, e, z⟩ := h; exact ⟨t, e, s _ _ z⟩
  | opn r q => obtain ⟨t, e, z⟩ := h; exact ⟨t, e, s _ _ z⟩
/-- what is handed in keeps to the bounds -/
structure FpOk' (F : Fp) : Prop where
  b1 : F.beds.length ≤ 10
  w1 : F.worths.length ≤ 10
  rw : ∀ row ∈ F.worths, row.length = F.beds.length
  rl : F.rows.length = F.beds.length
  wl : F.way.length = F.worths.length
  fit : Fit (bF F.beds) F.way
  pb : -(10 ^ 100) < F.parts ∧ F.parts < 10 ^ 100
  rb : -(10 ^ 100) < F.rent ∧ F.rent < 10 ^ 100
  wb : ∀ row ∈ F.worths, ∀ x ∈ row, -(10 ^ 100) < x ∧ x < 10 ^ 100
structure FpAt (K : PySem.W.Frag) (C : Addr) (H : Hp) (p a t : Addr) (F : Fp) : Prop where
  house : HouseAt C H p F.beds F.worths F.rent
  way : SqL K H a ((wI F.way).map V.int)
  price : PriceAt H t F.parts F.rows
theorem FpAt.same {K : PySem.W.Frag} {C : Addr} {H H' : Hp} {p a t : Addr} {F : Fp} (h : FpAt K C H p a t F) (s : Same H H') : FpAt K C H' p a t F := ⟨h.house.same s, s.seq h.way, h.price.same s⟩
end L2

set_option Elab.async false
set_option linter.all false
set_option maxRecDepth 100000
set_option maxHeartbeats 4000000
namespace L2
open PySem PySem.Spec PyProof.Rows BW
/-! ### worths made anew: the rows are their own -/
def MatN (H H' : Hp) (w : Addr) (rows : List (List Int)) : Prop := ∃ ws : List Addr, H' w = some (.lst (ws.map V.ref)) ∧ Rows H' ws rows ∧ ws.Nodup ∧ (∀ a ∈ ws, a ≠ w ∧ H a = none) ∧ H w = none
theorem MatN.mat {H H' : Hp} {w : Addr} {rows : List (List Int)} (h : MatN H H' w rows) : Mat H' w rows := by
  obtain ⟨ws, h1, h2, _⟩ := h
  exact ⟨ws, h1, h2⟩
theorem MatN.fresh {H H' : Hp} {w : Addr} {rows : List (List Int)} (h : MatN H H' w rows) : H w = none := by
  obtain ⟨ws, h1, h2, h3, h4, h5⟩ := h
  exact h5
theorem MatN.same {H H' H2 : Hp} {w : Addr} {rows : List (List Int)} (h : MatN H H' w rows) (s : Same H' H2) : MatN H H2 w rows := by
  obtain ⟨ws, h1, h2, h3⟩ := h
  exact ⟨ws, s _ _ h1, h2.same s, h3⟩
theorem MatN.base {H0 H H' : Hp} {w : Addr} {rows : List (List Int)} (h : MatN H H' w rows) (s : Same H0 H) : MatN H0 H' w rows := by
  obtain ⟨ws, h1, h2, h3, h4, h5⟩ := h
  exact ⟨ws, h1, h2, h3, fun a ha => ⟨(h4 a ha).1, s.free (h4 a ha).2⟩, s.free h5⟩
theorem Rows.set {H : Hp} {ws : List Addr} {rows : List (List Int)} {i : Nat} {a : Addr} {row : List Int} (h : Rows H ws rows) (nd : ws.Nodup) (ha : ws[i]? = some a) : Rows (upd H a (.lst (row.map V.int))) ws (rows.set i row) := by
  have hi : i < rows.length := by rw [← h.1]; exact (List.getElem?_eq_some_iff.mp ha).1
  refine ⟨by simp [h.1], fun j c rw' h1 h2 => ?_⟩
  by_cases hj : i = j
  · subst hj
    rw [ha] at h1
    cases h1
    rw [List.getElem?_set_self hi] at h2
    cases h2
    exact upd_same
  · rw [List.getElem?_set_ne hj] at h2
    have hne : c ≠ a := fun z => by
      subst z
      obtain ⟨l1, e1⟩ := List.getElem?_eq_some_iff.mp ha
      obtain ⟨l2, e2⟩ := List.getElem?_eq_some_iff.mp h1
      exact hj ((List.getElem_inj nd).mp (e1.trans e2.symm))
    rw [upd_ne hne]
    exact h.2 j c rw' h1 h2
end L2

set_option Elab.async false
set_option linter.all false
set_option maxRecDepth 100000
set_option maxHeartbeats 4000000
namespace L2
open PySem PySem.Spec PyProof.Rows BW
/-! ### a way with fair prices is of greatest worth -/
end L2

set_option Elab.async false
set_option linter.all false
set_option maxRecDepth 100000
set_option maxHeartbeats 4000000
namespace L2
open PySem PySem.Spec PyProof.Rows BW
/-! ### what breaks first, asked twice -/
end L2
namespace L2
open PySem PySem.Spec PyProof.Rows BW
/-- bounds that leave room -/
structure FpS (F : Fp) : Prop where
  b0 : 1 ≤ F.beds.length
  b1 : F.beds.length ≤ 10
  w0 : 1 ≤ F.worths.length
  w1 : F.worths.length ≤ 10
  rw : ∀ row ∈ F.worths, row.length = F.beds.length
  rl : F.rows.length = F.beds.length
  wl : F.way.length = F.worths.length
  fit : Fit (bF F.beds) F.way
  pb : 1 ≤ F.parts ∧ F.parts ≤ 10000
  rb : -(10 ^ 50) < F.rent ∧ F.rent < 10 ^ 50
  wb : ∀ row ∈ F.worths, ∀ x ∈ row, -(10 ^ 50) < x ∧ x < 10 ^ 50
  sm : (F.worths.length : Int) ≤ F.beds.sum
theorem FpS.ok {F : Fp} (h : FpS F) : FpOk' F := ⟨h.b1, h.w1, h.rw, h.rl, h.wl, h.fit, by have := h.pb; omega, by have := h.rb; omega, fun row hr x hx => by have := h.wb row hr x hx; omega⟩
end L2

set_option Elab.async false
set_option linter.all false
set_option maxRecDepth 100000
set_option maxHeartbeats 4000000
namespace L2
open PySem PySem.Spec PyProof.Rows BW
end L2

set_option Elab.async false
set_option linter.all false
set_option maxRecDepth 100000
set_option maxHeartbeats 4000000
namespace L2
open PySem PySem.Spec PyProof.Rows BW
/-! ### list(reversed(x)) -/
theorem lri_no_len : typeLookup (.type "list_reverseiterator") "__len__" = pure none := by rw [typeLookup_type, builtinLookup_eq_fast]; kernel_rfl
theorem lri_hint : typeLookup (.type "list_reverseiterator") "__length_hint__" = pure (some (.builtin "list_reverseiterator.__length_hint__")) := by rw [typeLookup_type, builtinLookup_eq_fast]; kernel_rfl
section
variable {prog : Program} {w : World} {A : Around} {s : Shared} {R : Result → Shared → Prop}
variable {I : Addr} {fp wr : List Addr} {G : Array GenState → Array GenState → Prop} {n : Nat} {P : Nat → Value → Prop} {St : Nat → Shared → Prop}
theorem extend_rev (W : WalksS prog w A.in1 I fp wr G n P St) (hT : ∀ i s, St i s → s.TypeIs (.ref I) "list_reverseiterator") (S : Addr) (res : Value) (c₀ : Nat) (hst : St 0 s) (hSf : S ∉ fp) (hI : I ∈ fp)
    (hS : s.heap.get? S = some { cls := .type "list", data := .seq #[] c₀ })
    (hR : ∀ s' acc' c', Moved (S :: wr) G s s' → s'.heap.get? S = some { cls := .type "list", dict := none, data := .seq acc' c', slots := #[] } → ItemsOf P acc' n → R (.ok (.ret res)) s') (hn : n ≤ sizeLine) :
    wpAny (model prog w) A.in1 (Builtin.List.listExtendWith (.ref S) (.ref I) res)
      (fun fin s' => match fin with | .done f => R (.ok f) s' | .again c' => c'.quiet = true ∧ codeAny (model prog w) A c' R s') (fun e s' => R (.error e) s') s := by
  have hSI : S ≠ I := fun e => hSf (e ▸ hI)
  unfold Builtin.List.listExtendWith
  refine wpAny_bind (wpAny_typeOf (hT 0 _ hst) ?_)
  have h1 : Builtin.List.listSameRef (.ref S) (.ref I) = false := by simp [Builtin.List.listSameRef, hSI]
  have h2 : (Value.type "list_reverseiterator" == Value.type "list") = false := by decide
  have h3 : (Value.type "list_reverseiterator" == Value.type "tuple") = false := by decide
  simp only [h1, h2, h3, Bool.or_false, Bool.false_eq_true, if_false]
  refine wpAny_bind (W.self 0 _ _ _ hst ?_)
  refine wpAny_bind (wpAny_holding ?_)
  unfold Builtin.List.listLengthHint
  refine wpAny_bind (wpAny_specialOf (hT 0 _ hst) lri_no_len ?_)
  show wpAny _ A.in1 (specialOf (Value.ref I) (Str.ofString "__length_hint__") >>= _) _ _ _
  refine wpAny_bind (wpAny_specialOf (hT 0 _ hst) lri_hint ?_)
  wp_delta
  refine wpAny_bind (wpAny_isInstance (T := "list_reverseiterator") (b := true) (hT 0 _ hst) (by rw [isSubtype_type]; kernel_rfl) ?_)
  refine wpAny_pure ?_
  rw [if_neg (by decide)]
  refine wpAny_pure ⟨plainId_quiet F.plain_extend_loop _, codeAny_extend_loopS W hn _ hSf _ n 0 _ _ _ rfl (Nat.zero_le _) hst hS (ItemsOf.nil P) fun s' acc' c' hm hS' hacc => ?_⟩
  exact hR s' acc' c' hm hS' hacc
theorem list_init_rev (W : WalksS prog w A.in1 I fp wr G n P St) (hT : ∀ i s, St i s → s.TypeIs (.ref I) "list_reverseiterator") (S : Addr) (hst : St 0 s) (hSf : S ∉ fp) (hI : I ∈ fp)
    (hS : s.heap.get? S = some { cls := .type "list", data := .seq #[] })
    (hR : ∀ s' acc' c', Moved (S :: wr) G s s' → s'.heap.get? S = some { cls := .type "list", dict := none, data := .seq acc' c', slots := #[] } → ItemsOf P acc' n → R (.ok (.ret .none)) s') (hn : n ≤ sizeLine) :
    wpAny (model prog w) A.in1 (Builtin.«list.__init__» ⟨[.ref S, .ref I], []⟩)
      (fun fin s' => match fin with | .done f => R (.ok f) s' | .again c' => c'.quiet = true ∧ codeAny (model prog w) A c' R s') (fun e s' => R (.error e) s') s := by
  show wpAny _ A.in1 (do let old ← Builtin.List.listItems (.ref S); Builtin.List.listUpdate (.ref S) (fun _ => #[]); letGo old.toList.reverse; Builtin.List.listExtendWith (.ref S) (.ref I) .none) _ _ s
  refine wpAny_bind ?_
  unfold Builtin.List.listItems
  refine wpAny_bind (wpAny_seqItems hS rfl (wpAny_pure ?_))
  show wpAny _ A.in1 (updateSeq S (fun _ => #[]) >>= fun _ => letGo (#[] : Array Value).toList.reverse >>= fun _ => Builtin.List.listExtendWith (.ref S) (.ref I) .none) _ _ s
  refine wpAny_bind (wpAny_updateSeq hS rfl ?_)
  have hS₂ := Heap.get?_update_self (Obj.mapSeq (fun _ => (#[] : Array Value))) hS rfl
  have oth : ∀ b o, b ≠ S → s.heap.get? b = some o → (s.heap.update S (Obj.mapSeq (fun _ => (#[] : Array Value)))).get? b = some o :=
    fun b o hb e => (Heap.get?_update_other _ _ (Ne.symm hb)).trans e
  refine wpAny_bind (wpAny_letGo ?_)
  refine extend_rev (hn := hn) W hT S .none _ (W.frame 0 s _ s.toks hst (Nat.le_refl _) fun b hb o e => oth b o (fun h => hSf (h ▸ hb)) e) hSf hI hS₂ fun s' acc' c' hm hS' hacc => ?_
  exact hR s' acc' c' (Moved.trans W.gtrans ((Moved.refl W.grefl).then_heap (Nat.le_refl _) fun b o hb e => oth b o (fun h => hb (h ▸ List.mem_cons_self)) e) hm) hS' hacc
end
section
variable {prog : Program} {w : World} {A : Around} {E : Value → Shared → Prop} {s : Shared}
variable {I : Addr} {fp wr : List Addr} {G : Array GenState → Array GenState → Prop} {n : Nat} {P : Nat → Value → Prop} {St : Nat → Shared → Prop}
theorem call_list_rev {Q : Value → Shared → Prop} (W : WalksS prog w A.in1.in1 I fp wr G n P St) (hT : ∀ i s, St i s → s.TypeIs (.ref I) "list_reverseiterator") (hst : St 0 s) (hfp : ∀ b ∈ fp, b < s.heap.objs.size) (hI : I ∈ fp)
    (hQ : ∀ s' acc' c', Moved (s.heap.objs.size :: wr) G { s with heap := s.heap.push { cls := .type "list", data := .seq #[] } } s' →
      s'.heap.get? s.heap.objs.size = some { cls := .type "list", dict := none, data := .seq acc' c', slots := #[] } → ItemsOf P acc' n → Q (.ref s.heap.objs.size) s') (hn : n ≤ sizeLine) :
    wpAny (model prog w) A (call (.type "list") [.ref I]) Q E s := by
  have hSf : s.heap.objs.size ∉ fp := fun hm => Nat.lt_irrefl _ (hfp _ hm)
  refine callType_codes (Q₁ := fun obj s₁ => obj = .ref s.heap.objs.size ∧ s₁ = { s with heap := s.heap.push { cls := .type "list", data := .seq #[] } }) F.called_list (F.typeCall_list_1 _) F.entry_list_init
    (code_list_new _ ⟨rfl, rfl⟩) fun obj s₁ h₁ => ?_
  obtain ⟨rfl, rfl⟩ := h₁
  have hS : (s.heap.push { cls := .type "list", data := .seq #[] }).get? s.heap.objs.size = some { cls := .type "list", data := .seq #[] } := Heap.get?_push_size _ rfl
  refine ⟨⟨_, hS, rfl⟩, F.args_list_init_2 _ _, list_init_rev (hn := hn) W hT _ (W.frame 0 s _ s.toks hst (Nat.le_refl _) fun b _ o e => Heap.get?_push_of_some _ e) hSf hI hS fun s' acc' c' hm hS' hacc => ?_⟩
  exact ⟨rfl, hQ s' acc' c' hm hS' hacc⟩
end
theorem vals_app {xs ys : List V} {us vs : List Value} (a : Vals xs us) (b : Vals ys vs) : Vals (xs ++ ys) (us ++ vs) := by
  induction a with
  | nil => exact b
  | cons h _ ih => exact .cons h ih
theorem vals_rev {xs : List V} {us : List Value} (a : Vals xs us) : Vals xs.reverse us.reverse := by
  induction a with
  | nil => exact .nil
  | cons h _ ih =>
    rw [List.reverse_cons, List.reverse_cons]
    exact vals_app ih (.cons h .nil)
def tListRev (K : PySem.W.Frag) (t : TE) : TE := fun σ H Q => t σ H fun x H1 => ∃ a xs, x = .ref a ∧ SqL K H1 a xs ∧ ∀ l H', New H1 l (.lst xs.reverse) H' → Q (.ref l) H'
theorem call_rev_list {X : Cx} {pins : List (Addr × Obj)} {σ : St} {H : Hp} {Q : VK} {s : Shared} {a : Addr} {xs : List V} (hc : X.calm = true) (I : Inv X pins σ H s) (hq : SqL X.K H a xs) (q : ∀ l H', New H l (.lst xs.reverse) H' → Q (.ref l) H') :
    wpAny (model X.prog X.w) X.A (call (.type "reversed") [.ref a]) (fun v s₁ => wpAny (model X.prog X.w) X.A (call (.type "list") [v]) (EP X pins σ Q) X.xe s₁) X.xe s := by
  obtain ⟨its, rv, pl, hz⟩ := I.list hq
  have hl : its.length = xs.length := rv.length.symm
  have ha : a < s.heap.objs.size := by
    obtain ⟨o, n, e, _⟩ := pl
    exact Heap.lt_size e
  have hhd : X.A.in1.handled = none := I.ok.hd hc
  refine call_reversed_list pl.isList ?_
  have hsz : its.toArray.size = its.length := by simp
  refine call_list_rev (Walks.listRev (A := X.A.in1.in1) hhd s.heap.objs.size a (Nat.ne_of_lt ha) its.toArray).toS (fun i s' h => ?_) ⟨Nat.zero_le _, ⟨_, Heap.get?_push_size _ rfl, rfl, by simp [revObj]⟩, pl.isList.push _⟩ ?_ (by simp) ?_ (by rw [hsz, hl]; exact hz)
  · obtain ⟨_, h1, _⟩ := h
    exact h1.typeIs
  · intro b hb
    rw [Heap.size_push]
    rcases List.mem_cons.mp hb with z | hb
    · rw [z]; exact Nat.lt_succ_self _
    · have z : b = a := by simpa using hb
      rw [z]; exact Nat.lt_succ_of_lt ha
  · intro s' acc' c' hm hS' hacc
    rw [Moved.eq_with hm]
    have e : acc'.toList = its.reverse := by
      refine List.ext_getElem ?_ fun i h1 h2 => ?_
      · rw [Array.length_toList, hacc.1, List.length_reverse, hsz]
      · have h1' : i < acc'.size := by simpa using h1
        have h3 := hacc.2 i _ (Array.getElem?_eq_getElem h1')
        rw [hsz] at h3
        rw [List.getElem_reverse]
        have h4 : its[its.length - 1 - i]? = some acc'[i] := by simpa using h3
        rw [Array.getElem_toList]
        exact (List.getElem?_eq_some_iff.mp h4).2.symm
    have k : ∀ b u, s.heap.get? b = some u → s'.heap.get? b = some u := fun b u e => by
      have hb := Heap.lt_size e
      refine hm.heap b u (fun z => ?_) (Heap.get?_push_of_some _ (Heap.get?_push_of_some _ e))
      rcases List.mem_cons.mp z with z | z
      · have hb2 : b = s.heap.objs.size + 1 := by rw [z]; exact Heap.size_push _ _
        rw [hb2] at hb
        exact absurd (Nat.lt_trans (Nat.lt_succ_self _) hb) (Nat.lt_irrefl _)
      · have hb2 : b = s.heap.objs.size := by simpa using z
        rw [hb2] at hb
        exact absurd hb (Nat.lt_irrefl _)
    have hp : s.heap.objs.size ≤ (s.heap.push (revObj a (↑its.toArray.size - 1))).objs.size := by rw [Heap.size_push]; exact Nat.le_succ _
    refine ⟨.ref _, _, I.laid (t' := s'.toks) (o := .lst xs.reverse) k hp ⟨by rw [List.length_reverse]; exact hz, its.reverse, c', vals_rev rv, by rw [← e]; exact hS'⟩, rfl, q _ _ (new_upd (I.hok.fresh hp))⟩
theorem pe_listRev {X : Cx} {K : PySem.W.Frag} {e : Expr} {t : TE} {p p' pos pos' : Pos} (hK : X.K = K) (hc : X.calm = true) (hgl : Gl X "list") (hml : X.mg "list" = none) (hgr : Gl X "reversed") (hmr : X.mg "reversed" = none) (ha : PE X e t)
    (he : starEach [e] X.env = (false, eval e X.env) :: starEach [] X.env := by rfl) : PE X (.Call (.Name "list" p) [.Call (.Name "reversed" p') [e] [] pos'] [] pos) (tListRev K t) := by
  subst hK
  intro pins s σ H Q I h
  refine wpAny_Call_Name_kw (ld_blt I hgl hml boot_list' ?_ (by decide) (by decide))
  refine PyProof.Rows.callWith_type1 ?_ rfl rfl
  show wpAny _ _ (spliced ((false, eval _ X.env) :: backTo pos (starEach [] X.env))) _ _ s
  refine Calls.spliced_cons ?_
  refine wpAny_Call_Name_kw (ld_blt I hgr hmr (u := .type "reversed") (by decide +kernel) ?_ (by decide) (by decide))
  refine PyProof.Rows.callWith_type1 ?_ he rfl
  rw [he]
  show wpAny _ _ (spliced ((false, eval e X.env) :: backTo pos' (starEach [] X.env))) _ _ s
  refine Calls.spliced_cons (thn (ha pins s σ H _ I h) fun u s1 ⟨x, H1, I1, r1, a, xs, e1, h1, q1⟩ => ?_)
  subst e1
  cases r1
  refine Calls.spliced_nil ?_
  refine thn (call_rev_list (σ := σ) hc I1 h1 q1) fun v s2 h2 => ?_
  exact Calls.spliced_nil h2
end L2

set_option Elab.async false
set_option linter.all false
set_option maxRecDepth 100000
set_option maxHeartbeats 4000000
namespace L2
open PySem PySem.Spec PyProof.Rows BW
/-! ### the same house told in another order -/
structure PermF (n : Nat) (p q : Nat → Nat) : Prop where
  lt : ∀ i, i < n → p i < n
  lt' : ∀ i, i < n → q i < n
  qp : ∀ i, i < n → q (p i) = i
  pq : ∀ i, i < n → p (q i) = i
  sum : ∀ g : Nat → Int, ((List.range n).map fun i => g (p i)).sum = ((List.range n).map g).sum
theorem range_congr {n : Nat} {f g : Nat → Int} (h : ∀ i, i < n → f i = g i) : ((List.range n).map f).sum = ((List.range n).map g).sum := by
  congr 1
  exact List.map_congr_left fun i hi => h i (List.mem_range.mp hi)
theorem PermF.symm {n : Nat} {p q : Nat → Nat} (h : PermF n p q) : PermF n q p := ⟨h.lt', h.lt, h.pq, h.qp, fun g => by
  rw [← h.sum fun i => g (q i)]
  exact range_congr fun i hi => by rw [h.qp i hi]⟩
theorem sum_add (n : Nat) (f g : Nat → Int) : ((List.range n).map fun i => f i + g i).sum = ((List.range n).map f).sum + ((List.range n).map g).sum := by
  induction n with
  | zero => rfl
  | succ n ih =>
    simp only [List.range_succ, List.map_append, List.sum_append, ih, List.map_cons, List.map_nil, List.sum_cons, List.sum_nil]
    omega
theorem cnt_sum (v : List Nat) (r : Nat) : ((v.count r : Nat) : Int) = ((List.range v.length).map fun i => if v.getD i 0 = r then (1 : Int) else 0).sum := by
  induction v with
  | nil => rfl
  | cons x v ih =>
    rw [List.length_cons, List.range_succ_eq_map, List.map_cons, List.sum_cons, List.map_map]
    have e : ((fun i => if (x :: v).getD i 0 = r then (1 : Int) else 0) ∘ Nat.succ) = fun i => if v.getD i 0 = r then (1 : Int) else 0 := by
      funext i
      rfl
    rw [e, ← ih, List.count_cons]
    by_cases h : x = r
    · simp [h]
      omega
    · simp [h]
theorem told1 {n m : Nat} {p q s t : Nat → Nat} (hp : PermF n p q) (hs : PermF m s t) {w w' : Nat → Nat → Int} {more : Nat → Int} (hw : ∀ i r, i < n → r < m → w' i r = w (p i) (s r) + more (p i)) {b b' : Nat → Nat} (hb : ∀ r, r < m → b' r = b (s r))
    {v : List Nat} (hl : v.length = n) (hv : ∀ r ∈ v, r < m) (hf : Fit b v) : ∃ v' : List Nat, v'.length = n ∧ Fit b' v' ∧ wsum w' v' = wsum w v + ((List.range n).map more).sum := by
  have hg : ∀ i, i < n → v.getD i 0 < m := fun i hi => by
    have hi' : i < v.length := by omega
    rw [List.getD, List.getElem?_eq_getElem hi']
    exact hv _ (List.getElem_mem hi')
  refine ⟨(List.range n).map fun i => t (v.getD (p i) 0), by simp, fun r => ?_, ?_⟩
  · have hlen : ((List.range n).map fun i => t (v.getD (p i) 0)).length = n := by simp
    have hgd : ∀ i, i < n → ((List.range n).map fun i => t (v.getD (p i) 0)).getD i 0 = t (v.getD (p i) 0) := fun i hi => by simp [List.getD, hi]
    by_cases hr : r < m
    · have h1 := cnt_sum ((List.range n).map fun i => t (v.getD (p i) 0)) r
      rw [hlen] at h1
      have h2 : ((List.range n).map fun i => if ((List.range n).map fun i => t (v.getD (p i) 0)).getD i 0 = r then (1 : Int) else 0).sum = ((List.range n).map fun i => (fun j => if v.getD j 0 = s r then (1 : Int) else 0) (p i)).sum := range_congr fun i hi => by
        rw [hgd i hi]
        have hx := hg (p i) (hp.lt i hi)
        show (if t (v.getD (p i) 0) = r then (1 : Int) else 0) = if v.getD (p i) 0 = s r then (1 : Int) else 0
        by_cases e : t (v.getD (p i) 0) = r
        · rw [if_pos e, if_pos (by rw [← e, hs.pq _ hx])]
        · rw [if_neg e, if_neg fun z => e (by rw [z, hs.qp r hr])]
      have h2' := hp.sum fun j => if v.getD j 0 = s r then (1 : Int) else 0
      rw [h2, h2'] at h1
      have h3 := cnt_sum v (s r)
      rw [hl] at h3
      have h4 := hf (s r)
      rw [hb r hr]
      have h5 : (((List.range n).map fun i => t (v.getD (p i) 0)).count r : Int) = ((v.count (s r) : Nat) : Int) := by rw [h1, h3]
      omega
    · have : ((List.range n).map fun i => t (v.getD (p i) 0)).count r = 0 := List.count_eq_zero.mpr fun z => by
        obtain ⟨i, hi, e⟩ := List.mem_map.mp z
        have := hs.lt' _ (hg (p i) (hp.lt i (List.mem_range.mp hi)))
        omega
      omega
  · unfold wsum
    rw [show ((List.range n).map fun i => t (v.getD (p i) 0)).length = n by simp, hl, ← sum_add, ← hp.sum fun i => w i (v.getD i 0) + more i]
    refine range_congr fun i hi => ?_
    have e : ((List.range n).map fun i => t (v.getD (p i) 0)).getD i 0 = t (v.getD (p i) 0) := by simp [List.getD, hi]
    have hx := hg (p i) (hp.lt i hi)
    rw [e, hw i _ hi (hs.lt' _ hx), hs.pq _ hx]
theorem told {n m : Nat} {p q s t : Nat → Nat} (hp : PermF n p q) (hs : PermF m s t) {w w' : Nat → Nat → Int} {more : Nat → Int} (hw : ∀ i r, i < n → r < m → w' i r = w (p i) (s r) + more (p i)) {b b' : Nat → Nat} (hb : ∀ r, r < m → b' r = b (s r))
    {v v' : List Nat} (hl : v.length = n) (hv : ∀ r ∈ v, r < m) (hf : Fit b v) (ho : ∀ u : List Nat, u.length = v.length → Fit b u → wsum w u ≤ wsum w v)
    (hl' : v'.length = n) (hv' : ∀ r ∈ v', r < m) (hf' : Fit b' v') (ho' : ∀ u : List Nat, u.length = v'.length → Fit b' u → wsum w' u ≤ wsum w' v') : wsum w' v' = wsum w v + ((List.range n).map more).sum := by
  obtain ⟨u, u1, u2, u3⟩ := told1 hp hs hw hb hl hv hf
  have h1 := ho' u (by omega) u2
  obtain ⟨x, x1, x2, x3⟩ := told1 (w := w') (w' := w) (more := fun j => - more (p j)) hp.symm hs.symm (fun i r hi hr => by
    rw [hw (q i) (t r) (hp.lt' i hi) (hs.lt' r hr), hp.pq i hi, hs.pq r hr]
    omega) (b := b') (b' := b) (fun r hr => by rw [hb (t r) (hs.lt' r hr), hs.pq r hr]) hl' hv' hf'
  have h2 := ho x (by omega) x2
  have h3 : ((List.range n).map fun j => - more (p j)).sum + ((List.range n).map more).sum = 0 := by
    rw [← hp.sum more, ← sum_add]
    have : ∀ k : Nat, ((List.range k).map fun i => - more (p i) + more (p i)).sum = 0 := fun k => by
      induction k with
      | zero => rfl
      | succ k ih =>
        rw [List.range_succ, List.map_append, List.sum_append, ih]
        simp
        omega
    exact this n
  omega
/-- what the law's own turning of a list leaves -/
def turnL {α : Type} (cut : Nat) (back : Bool) (xs : List α) : List α := if back = true then (xs.drop cut ++ xs.take cut).reverse else xs.drop cut ++ xs.take cut
theorem turnL_map {α β : Type} (f : α → β) (cut : Nat) (back : Bool) (xs : List α) : turnL cut back (xs.map f) = (turnL cut back xs).map f := by
  unfold turnL
  cases back <;> simp [List.map_drop, List.map_take]
theorem turnL_perm {α : Type} (cut : Nat) (back : Bool) (xs : List α) : (turnL cut back xs).Perm xs := by
  unfold turnL
  have h : (xs.drop cut ++ xs.take cut).Perm xs := by
    have := (List.perm_append_comm (l₁ := xs.drop cut) (l₂ := xs.take cut))
    rwa [List.take_append_drop] at this
  cases back
  · simpa using h
  · simpa using (List.reverse_perm _).trans h
end L2
namespace L2
open PySem PySem.Spec PyProof.Rows BW
end L2
namespace L2
open PySem PySem.Spec PyProof.Rows BW
theorem turnL_len {α : Type} (c : Nat) (b : Bool) (xs : List α) : (turnL c b xs).length = xs.length := (turnL_perm c b xs).length_eq
theorem Rows.turn {H : Hp} {ws : List Addr} {rows : List (List Int)} (h : Rows H ws rows) (c : Nat) (b : Bool) : Rows H (turnL c b ws) (turnL c b rows) := by
  have e1 : ws = (ws.zip rows).map Prod.fst := by rw [List.map_fst_zip (by rw [h.1]; exact Nat.le_refl _)]
  have e2 : rows = (ws.zip rows).map Prod.snd := by rw [List.map_snd_zip (by rw [h.1]; exact Nat.le_refl _)]
  refine ⟨by rw [turnL_len, turnL_len, h.1], fun i a row h1 h2 => ?_⟩
  rw [e1, turnL_map, List.getElem?_map] at h1
  rw [e2, turnL_map, List.getElem?_map] at h2
  cases hz : (turnL c b (ws.zip rows))[i]? with
  | none => rw [hz] at h1; cases h1
  | some x =>
    rw [hz] at h1 h2
    cases h1
    cases h2
    have hm : x ∈ ws.zip rows := (turnL_perm c b _).mem_iff.mp (List.mem_of_getElem? hz)
    obtain ⟨j, hj, e⟩ := List.mem_iff_getElem.mp hm
    have hj' : j < ws.length ∧ j < rows.length := by rw [List.length_zip] at hj; omega
    rw [List.getElem_zip] at e
    exact h.2 j x.1 x.2 (by rw [List.getElem?_eq_getElem hj'.1, ← e]) (by rw [List.getElem?_eq_getElem hj'.2, ← e])
end L2

set_option Elab.async false
set_option linter.all false
set_option maxRecDepth 100000
set_option maxHeartbeats 4000000
namespace L2
open PySem PySem.Spec PyProof.Rows
/-! ### the places of a set's table -/
def Rise (xs : Array Nat) : Prop := ∀ i k, i < k → k < xs.size → xs.getD i 0 < xs.getD k 0
structure SInv (led : Bool) (t : SetTable) : Prop where
  rise : Rise t.place
  dum : t.dummies = #[]
  led_ : t.led = led
end L2

set_option Elab.async false
set_option linter.all false
set_option maxRecDepth 100000
set_option maxHeartbeats 4000000
namespace L2
open PySem PySem.Spec PyProof.Rows
/-! ### a number put into a set: its table stays in order -/
section
variable {prog : Program} {w : World} {K : Type} [DecidableEq K] {knd : KeyKind prog w K} {A : Around} {E : Value → Shared → Prop} {s : Shared}
def LedAt (led : Bool) (h : Heap) (a : Addr) : Prop := ∃ o es ep t, h.get? a = some o ∧ o.data = .set es ep t ∧ SInv led t
theorem SInv.plain {led : Bool} {t : SetTable} (h : SInv led t) (b : Bool) : SInv led { t with plain := b } := ⟨h.rise, h.dum, h.led_⟩
end
end L2

set_option Elab.async false
set_option linter.all false
set_option maxRecDepth 100000
set_option maxHeartbeats 4000000
namespace L2
open PySem PySem.Spec PyProof.Rows
/-! ### set(xs) of whole numbers, its table in order -/
def IntSet (prog : Program) (w : World) (led : Bool) (h : Heap) (a : Addr) (ks : List Int) : Prop := h.SetOf (intKind prog w) a (fun k' => ks.any (· == k')) ks.length ∧ LedAt led h a
theorem IntSet.at_ {prog : Program} {w : World} {led : Bool} {h h' : Heap} {a : Addr} {ks : List Int} (x : IntSet prog w led h a ks) (k : ∀ o, h.get? a = some o → h'.get? a = some o) : IntSet prog w led h' a ks := by
  obtain ⟨⟨o, es, ep, t, ho, rest⟩, ⟨o', es', ep', t', ho', rest'⟩⟩ := x
  exact ⟨⟨o, es, ep, t, k _ ho, rest⟩, ⟨o', es', ep', t', k _ ho', rest'⟩⟩
section
variable {prog : Program} {w : World} {A : Around} {R : Result → Shared → Prop} {I : Addr} {fp wr : List Addr} {G : Array GenState → Array GenState → Prop} {n : Nat} {P : Nat → Value → Prop} {St : Nat → Shared → Prop} {led : Bool}
end
section
variable {prog : Program} {w : World} {A : Around} {E : Value → Shared → Prop} {s : Shared}
end
end L2

set_option Elab.async false
set_option linter.all false
set_option maxRecDepth 100000
set_option maxHeartbeats 4000000
namespace L2
open PySem PySem.Spec PyProof.Rows
section
variable {prog : Program} {w : World} {A : Around} {E : Value → Shared → Prop} {s : Shared}
end
end L2

set_option Elab.async false
set_option linter.all false
set_option maxRecDepth 100000
set_option maxHeartbeats 4000000
namespace L2
open PySem PySem.Spec PyProof.Rows
/-! ### facts of a set's iterator -/
section
variable {prog : Program} {w : World} {A : Around} {E : Value → Shared → Prop} {s : Shared}
end
end L2

set_option Elab.async false
set_option linter.all false
set_option maxRecDepth 100000
set_option maxHeartbeats 4000000
namespace L2
open PySem PySem.Spec PyProof.Rows
section
variable {prog : Program} {w : World} {A : Around} {E : Value → Shared → Prop} {s : Shared}
def SitAt (h : Heap) (it S : Addr) (slot i : Int) (n ep : Nat) : Prop := ∃ o, h.get? it = some o ∧ o.cls = .type "set_iterator" ∧ o.data = .fields #[rawInt slot, rawInt i, .ref S, rawInt n, rawInt ep]
theorem SitAt.typeIs {it S : Addr} {slot i : Int} {n ep : Nat} (x : SitAt s.heap it S slot i n ep) : s.TypeIs (.ref it) "set_iterator" := let ⟨o, ho, hc, _⟩ := x; ⟨o, ho, hc⟩
end
end L2

set_option Elab.async false
set_option linter.all false
set_option maxRecDepth 100000
set_option maxHeartbeats 4000000
namespace L2
open PySem PySem.Spec PyProof.Rows
/-! ### by text, and drawn -/
section
variable {prog : Program} {w : World} {A : Around} {E : Value → Shared → Prop} {s : Shared}
end
end L2

set_option Elab.async false
set_option linter.all false
set_option maxRecDepth 100000
set_option maxHeartbeats 4000000
namespace L2
open PySem PySem.Spec PyProof.Rows BW
/-! ### x in a list of things that are read as data -/
/-! ### numbers or None -/
def oV : Option Int → V
  | none => .non
  | some m => .int m
def oD : Option Int → PyData
  | none => .none
  | some m => .int m
theorem oV_at {os : List (Option Int)} {i : Nat} (h : i < os.length) : (os.map oV)[i]? = some (oV (os.getD i none)) := by
  simp [h, List.getD]
/-! ### who stays -/
def keepsN (old : List (Option Int)) (v : List Nat) : Nat := ((List.range v.length).filter fun i => decide (old.getD i none = some ((v.getD i 0 : Nat) : Int))).length
def wgh (worths : List (List Int)) (old : List (Option Int)) (R : Nat) : List (List Int) :=
  (List.range worths.length).map fun p => (List.range R).map fun r => wF worths p r * ((worths.length : Int) + 1) + (if old.getD p none = some (r : Int) then 1 else 0)
theorem wgh_len (worths : List (List Int)) (old : List (Option Int)) (R : Nat) : (wgh worths old R).length = worths.length := by simp [wgh]
theorem wgh_rows {worths : List (List Int)} {old : List (Option Int)} {R : Nat} : ∀ row ∈ wgh worths old R, row.length = R := fun row h => by
  obtain ⟨p, _, rfl⟩ := List.mem_map.mp h
  simp
theorem wgh_at {worths : List (List Int)} {old : List (Option Int)} {R p r : Nat} (hp : p < worths.length) (hr : r < R) : wF (wgh worths old R) p r = wF worths p r * ((worths.length : Int) + 1) + (if old.getD p none = some (r : Int) then 1 else 0) := by
  have h1 : (wgh worths old R).getD p [] = (List.range R).map fun r => wF worths p r * ((worths.length : Int) + 1) + (if old.getD p none = some (r : Int) then 1 else 0) := by
    unfold wgh
    rw [List.getD_eq_getElem?_getD, List.getElem?_map, List.getElem?_range hp]
    rfl
  show ((wgh worths old R).getD p []).getD r 0 = _
  rw [h1, List.getD_eq_getElem?_getD, List.getElem?_map, List.getElem?_range hr]
  rfl
theorem sum_lin (f g : Nat → Int) (c : Int) : ∀ n : Nat, ((List.range n).map fun i => f i * c + g i).sum = ((List.range n).map f).sum * c + ((List.range n).map g).sum
  | 0 => by simp
  | n + 1 => by
    rw [List.range_succ, List.map_append, List.map_append, List.map_append, List.sum_append, List.sum_append, List.sum_append, sum_lin f g c n]
    simp [Int.add_mul]
    omega
theorem sum_ones (p : Nat → Bool) : ∀ n : Nat, ((List.range n).map fun i => if p i = true then (1 : Int) else 0).sum = (((List.range n).filter p).length : Int)
  | 0 => by simp
  | n + 1 => by
    rw [List.range_succ, List.map_append, List.sum_append, sum_ones p n, List.filter_append, List.length_append]
    cases h : p n <;> simp [h]
theorem wgh_sum {worths : List (List Int)} {old : List (Option Int)} {R : Nat} {v : List Nat} (hl : v.length = worths.length) (hv : ∀ r ∈ v, r < R) : wsum (wF (wgh worths old R)) v = wsum (wF worths) v * ((worths.length : Int) + 1) + (keepsN old v : Int) := by
  unfold wsum keepsN
  rw [← sum_ones, ← sum_lin]
  congr 1
  refine List.map_congr_left fun i hi => ?_
  have hi := List.mem_range.mp hi
  have hr : v.getD i 0 < R := by
    have : v.getD i 0 = v[i] := by simp [List.getD, hi]
    rw [this]
    exact hv _ (List.getElem_mem hi)
  rw [wgh_at (by omega) hr]
  simp
theorem keeps_le (old : List (Option Int)) (v : List Nat) : keepsN old v ≤ v.length := by
  unfold keepsN
  exact Nat.le_trans (List.length_filter_le _ _) (by simp)
theorem kept_best {beds : List Int} {worths : List (List Int)} {old : List (Option Int)} {way : List Nat} (hl : way.length = worths.length) (hf : Fit (bF beds) way) (ho : Opt beds (wgh worths old beds.length) way) :
    Opt beds worths way ∧ ∀ v : List Nat, v.length = way.length → Fit (bF beds) v → wsum (wF worths) way ≤ wsum (wF worths) v → keepsN old v ≤ keepsN old way := by
  have key : ∀ v : List Nat, v.length = way.length → Fit (bF beds) v → wsum (wF worths) v * ((worths.length : Int) + 1) + (keepsN old v : Int) ≤ wsum (wF worths) way * ((worths.length : Int) + 1) + (keepsN old way : Int) := fun v h1 h2 => by
    have := ho v h1 h2
    rw [wgh_sum (by omega) (fit_lt h2), wgh_sum hl (fit_lt hf)] at this
    exact this
  have hk := keeps_le old way
  have h1 : Opt beds worths way := fun v hv hfv => by
    have h3 := key v hv hfv
    refine Classical.byContradiction fun z => ?_
    have h4 : (wsum (wF worths) way + 1) * ((worths.length : Int) + 1) ≤ wsum (wF worths) v * ((worths.length : Int) + 1) := Int.mul_le_mul_of_nonneg_right (by omega) (by omega)
    rw [Int.add_mul, Int.one_mul] at h4
    omega
  refine ⟨h1, fun v hv hfv he => ?_⟩
  have h3 := key v hv hfv
  have h5 : wsum (wF worths) v = wsum (wF worths) way := Int.le_antisymm (h1 v hv hfv) he
  rw [h5] at h3
  omega
/-! ### all ways, gone through -/
theorem Rows.app {H : Hp} {ws1 ws2 : List Addr} {r1 r2 : List (List Int)} (h1 : Rows H ws1 r1) (h2 : Rows H ws2 r2) : Rows H (ws1 ++ ws2) (r1 ++ r2) := by
  refine ⟨by simp [h1.1, h2.1], fun i a row z1 z2 => ?_⟩
  by_cases hi : i < ws1.length
  · rw [List.getElem?_append_left hi] at z1
    rw [List.getElem?_append_left (by rw [← h1.1]; exact hi)] at z2
    exact h1.2 i a row z1 z2
  · rw [List.getElem?_append_right (by omega)] at z1
    rw [List.getElem?_append_right (by rw [← h1.1]; omega), ← h1.1] at z2
    exact h2.2 _ a row z1 z2
def sp_weighed (K : PySem.W.Frag) (C : Addr) : Sp := fun vs H Q _ => ∃ (p a : Addr) (i : Nat) (beds : List Int) (worths : List (List Int)) (rent : Int) (old : List (Option Int)), vs = [.ref p, .ref a, .int (i : Int)] ∧ HouseAt C H p beds worths rent ∧ BestOk beds worths ∧
  (∀ row ∈ worths, ∀ x ∈ row, -(10 ^ 42) < x ∧ x < 10 ^ 42) ∧ SqL K H a (old.map oV) ∧ old.length = worths.length ∧ i < worths.length ∧ ∀ l H', New H l (.lst (((wgh worths old beds.length).getD i []).map V.int)) H' → Q (.ref l) H'
end L2

set_option Elab.async false
set_option linter.all false
set_option maxRecDepth 100000
set_option maxHeartbeats 4000000
namespace L2
open PySem PySem.Spec PyProof.Rows BW
/-! ### a list walked from its end -/
def Itv (K : PySem.W.Frag) (a : Addr) (n : Nat) : It :=
  ⟨fun i H => ∃ xs x, SqL K H a xs ∧ xs.length = n ∧ xs.reverse[i]? = some x, fun i H x H' => H' = H ∧ ∀ xs, SqL K H a xs → xs.reverse[i]? = some x, fun i H => i = n⟩
theorem turn_rev {P : Program} {w : World} {K : PySem.W.Frag} {tg : Expr} (a it : Addr) (n : Nat) : Turn P w K tg (Itv K a n) [it] it (fun i h => h.IsRevIter it a ((n : Int) - 1 - (i : Int))) where
  mem := by simp
  obj := fun i h st b hb => by
    have e : b = it := by simpa using hb
    subst e
    obtain ⟨o, e, c, d⟩ := st
    exact ⟨o, e, fun v z => by rw [d] at z; cases z⟩
  keep := fun i h h' st k => st.at fun o e => k it (by simp) o e
  item := by
    intro X hP hw hK hc i pins s σ H E I hf st hg
    subst hP hw hK
    obtain ⟨xs, x, hq, hn, hx⟩ := hg
    have hi : i < n := by
      have := (List.getElem?_eq_some_iff.mp hx).1
      simp at this
      omega
    obtain ⟨its, rv, p, hz⟩ := I.list hq
    obtain ⟨u, hu, ru⟩ := (vals_rev rv).get hx
    obtain ⟨f0, f1, f2, f3, f4, f5⟩ := hf it (by simp)
    have hl := rv.length
    have e1 : (n : Int) - 1 - (i : Int) = ((n - 1 - i : Nat) : Int) := by omega
    have e2 : ((n - 1 - i : Nat) : Int) - 1 = (n : Int) - 1 - ((i + 1 : Nat) : Int) := by omega
    have hu2 : its.toArray[n - 1 - i]? = some u := by
      rw [List.getElem?_reverse (by omega)] at hu
      have e3 : its.length - 1 - i = n - 1 - i := by omega
      rw [e3] at hu
      simpa using hu
    rw [e1] at st
    refine wpAny_pyNext_rev_item st p.isList (x := u) hu2 fun h' st' sb => ?_
    rw [e2] at st'
    have I1 : Inv X pins σ H { s with heap := h' } := I.turned (t' := s.toks) (fun b o hb e => (sb.2 b hb).trans e) f0 f1 f3 f4 f5
    obtain ⟨o, e, c, d⟩ := id st'
    exact ⟨u, rfl, go_of (s := { s with heap := h' }) e c d (by decide) ⟨x, H, I1, ru, ⟨rfl, fun ys hy => by rw [I.list_inj hy hq]; exact hx⟩, st', fun b hb => (hf b hb).1⟩⟩
  done := by
    intro X hP hw hK hc i pins s σ H E I hf st hg
    subst hP hw hK
    have hg' : i = n := hg
    subst hg'
    obtain ⟨f0, f1, f2, f3, f4, f5⟩ := hf it (by simp)
    have e1 : (i : Int) - 1 - (i : Int) = -1 := by omega
    rw [e1] at st
    exact wpAny_pyNext_rev_end (I.ok.hd hc) st fun h' eb => ⟨rfl, I.turned (t' := s.toks) (fun b o hb e => eb b o hb e) f0 f1 f3 f4 f5⟩
  self := fun _ _ _ _ _ st h => wpAny_pyIter_revIter st h
def iRev (K : PySem.W.Frag) (tl : TE) : TI := fun σ H R => tl σ H fun x H1 => ∃ a xs, x = .ref a ∧ SqL K H1 a xs ∧ R (Itv K a xs.length) H1
theorem pi_revK {X : Cx} {K : PySem.W.Frag} {tg e : Expr} {t : TE} {p pos : Pos} (hK : X.K = K) (hg : Gl X "reversed") (hm : X.mg "reversed" = none) (ha : PE X e t)
    (he : starEach [e] X.env = (false, eval e X.env) :: starEach [] X.env := by rfl) : PI X tg (.Call (.Name "reversed" p) [e] [] pos) (iRev K t) := by
  subst hK
  intro pins s σ H R I h
  refine wpAny_Call_Name_kw (ld_blt I hg hm (u := .type "reversed") (by decide +kernel) ?_ (by decide) (by decide))
  refine PyProof.Rows.callWith_type1 ?_ he rfl
  rw [he]
  show wpAny _ _ (spliced ((false, eval e X.env) :: backTo pos (starEach [] X.env))) _ _ s
  refine Calls.spliced_cons (thn (ha pins s σ H _ I h) fun u s1 ⟨x, H1, I1, r1, a, xs, e1, h1, q1⟩ => ?_)
  subst e1
  cases r1
  refine Calls.spliced_nil ?_
  obtain ⟨its, rv, pl, hz⟩ := I1.list h1
  have hl := rv.length
  refine call_reversed_list pl.isList ?_
  have hit : (s1.heap.push (revObj a ((its.toArray.size : Int) - 1))).IsRevIter s1.heap.objs.size a ((xs.length : Int) - 1 - ((0 : Nat) : Int)) := by
    refine ⟨_, Heap.get?_push_size _ rfl, rfl, ?_⟩
    have e2 : (its.toArray.size : Int) - 1 = (xs.length : Int) - 1 - ((0 : Nat) : Int) := by rw [List.size_toArray, hl]; simp
    rw [e2]
    rfl
  refine wpAny_pyIter_revIter hit ?_
  refine ⟨s1.heap.objs.size, [s1.heap.objs.size], _, _, H1, rfl, I1.kept (t' := s1.toks) fun b o e => Heap.get?_push_of_some _ e, turn_rev a _ xs.length, hit, fun b hb => ?_, q1⟩
  have e : b = s1.heap.objs.size := by simpa using hb
  subst e
  exact I1.fpOk (Nat.le_refl _) (I1.hok.fresh (Nat.le_refl _))
theorem comp_rev {K : PySem.W.Frag} {a D : Addr} {xs : List V} {te : TE} {σf : St} {H1 : Hp} {Q : VK} (R : Nat → V → Hp → Prop) (hS : SqL K H1 a xs) (hz : xs.length < sizeLine) (hD1 : H1 D = none)
    (mono : ∀ i y H H', Keep D H H' → R i y H → R i y H')
    (hs : ∀ (i : Nat) x H ys (N : VK), xs.reverse[i]? = some x → Same H1 H → H D = some (.lst ys) → (∀ y H', Same H H' → R i y H' → N y H') → te (some x :: σf) H N)
    (hd : ∀ ys H, Same H1 H → H D = some (.lst ys) → ys.length = xs.length → (∀ (i : Nat) y, ys[i]? = some y → R i y H) → Q (.ref D) H) : CompW (Itv K a xs.length) D (gName 0) tYes te (none :: σf) (upd H1 D (.lst [])) Q := by
  have hl : xs.reverse.length = xs.length := List.length_reverse
  refine comp1 xs.length (fun i => (xs.reverse[i]?).getD .non) R hz hD1 (fun i H hi s => ⟨xs, xs.reverse[i]'(by omega), s.seq hS, rfl, List.getElem?_eq_getElem _⟩) (fun H s => rfl) (fun i H x H' hi s y => ?_) mono (fun i H ys N hi s d hN => ?_) hd
  · obtain ⟨rfl, y⟩ := y
    have := y xs (s.seq hS)
    exact ⟨by simp [this], rfl⟩
  · have e : xs.reverse[i]? = some (xs.reverse[i]'(by omega)) := List.getElem?_eq_getElem _
    have q := hs i _ H ys N e s d hN
    rw [e]
    exact q
theorem Rows.tk {H : Hp} {ws : List Addr} {rs : List (List Int)} (h : Rows H ws rs) (n : Nat) : Rows H (ws.take n) (rs.take n) := by
  refine ⟨by simp [h.1], fun i a row z1 z2 => ?_⟩
  rw [List.getElem?_take] at z1 z2
  by_cases hi : i < n
  · rw [if_pos hi] at z1 z2
    exact h.2 i a row z1 z2
  · rw [if_neg hi] at z1
    cases z1
theorem Rows.dr {H : Hp} {ws : List Addr} {rs : List (List Int)} (h : Rows H ws rs) (n : Nat) : Rows H (ws.drop n) (rs.drop n) := by
  refine ⟨by simp [h.1], fun i a row z1 z2 => ?_⟩
  rw [List.getElem?_drop] at z1 z2
  exact h.2 _ a row z1 z2
theorem Rows.one {H : Hp} {c : Addr} {row : List Int} (h : H c = some (.lst (row.map V.int))) : Rows H [c] [row] := by
  refine ⟨rfl, fun i a r z1 z2 => ?_⟩
  have hi : i = 0 := by have := (List.getElem?_eq_some_iff.mp z1).1; simp at this; omega
  subst hi
  simp at z1 z2
  subst z1 z2
  exact h
end L2

set_option Elab.async false
set_option linter.all false
set_option maxRecDepth 100000
set_option maxHeartbeats 4000000
namespace L2
open PySem PySem.Spec PyProof.Rows
/-! ### drawing -/
section
variable {prog : Program} {w : World} {A : Around} {E : Value → Shared → Prop} {s : Shared}
/-! ### a set's iterator is made -/
/-! ### its turns -/
def SitF (h : Heap) (it S : Addr) (first : Value) (i : Int) (n ep : Nat) : Prop := ∃ o, h.get? it = some o ∧ o.cls = .type "set_iterator" ∧ o.data = .fields #[first, rawInt i, .ref S, rawInt n, rawInt ep]
theorem SitF.typeIs {it S : Addr} {first : Value} {i : Int} {n ep : Nat} (x : SitF s.heap it S first i n ep) : s.TypeIs (.ref it) "set_iterator" := let ⟨o, ho, hc, _⟩ := x; ⟨o, ho, hc⟩
theorem SitF.at_ {h h' : Heap} {it S : Addr} {first : Value} {i : Int} {n ep : Nat} (x : SitF h it S first i n ep) (e : ∀ o, h.get? it = some o → h'.get? it = some o) : SitF h' it S first i n ep := let ⟨o, ho, r⟩ := x; ⟨o, e _ ho, r⟩
end
end L2

set_option Elab.async false
set_option linter.all false
set_option maxRecDepth 100000
set_option maxHeartbeats 4000000
namespace L2
open PySem PySem.Spec PyProof.Rows
section
variable {prog : Program} {w : World} {A : Around} {E : Value → Shared → Prop} {s : Shared}
end
end L2

set_option Elab.async false
set_option linter.all false
set_option maxRecDepth 100000
set_option maxHeartbeats 4000000
namespace L2
open PySem PySem.Spec PyProof.Rows
section
variable {prog : Program} {w : World} {A : Around} {E : Value → Shared → Prop} {s : Shared}
/-! ### its items are the set's numbers, in some order -/
end
end L2

set_option Elab.async false
set_option linter.all false
set_option maxRecDepth 100000
set_option maxHeartbeats 4000000
namespace L2
open PySem PySem.Spec PyProof.Rows
/-! ### sorted(set(x)) -/
theorem Inv.like {X : Cx} {pins : List (Addr × Obj)} {σ : St} {H : Hp} {s s' : Shared} (I : Inv X pins σ H s) (h1 : s'.heap = s.heap) (h2 : s'.gens = s.gens) (h3 : s'.os = s.os) : Inv X pins σ H s' := by
  obtain ⟨hp, gs, dr, tk, os⟩ := s'
  have e1 : hp = s.heap := h1
  have e2 : gs = s.gens := h2
  have e3 : os = s.os := h3
  subst e1 e2 e3
  exact ⟨I.ok, I.os, I.bare, I.base, I.loc, I.cell, I.free, I.freeC, I.pin, I.hok, I.len⟩
end L2

set_option Elab.async false
set_option linter.all false
set_option maxRecDepth 100000
set_option maxHeartbeats 4000000
namespace L2
open PySem PySem.Spec PyProof.Rows BW
/-! ### one rule or the other -/
/-! ### rising lists -/
def IsRise (ms ns : List Int) : Prop := ms.Pairwise (· < ·) ∧ ∀ z, z ∈ ms ↔ z ∈ ns
theorem rise_eq : ∀ {a b : List Int}, a.Pairwise (· < ·) → b.Pairwise (· < ·) → (∀ z, z ∈ a ↔ z ∈ b) → a = b
  | [], [], _, _, _ => rfl
  | [], y :: b, _, _, h => by have := (h y).mpr List.mem_cons_self; cases this
  | x :: a, [], _, _, h => by have := (h x).mp List.mem_cons_self; cases this
  | x :: a, y :: b, ha, hb, h => by
    obtain ⟨a1, a2⟩ := List.pairwise_cons.mp ha
    obtain ⟨b1, b2⟩ := List.pairwise_cons.mp hb
    have hxy : x = y := by
      rcases List.mem_cons.mp ((h x).mp List.mem_cons_self) with e | e
      · exact e
      · rcases List.mem_cons.mp ((h y).mpr List.mem_cons_self) with e' | e'
        · exact e'.symm
        · have h1 := b1 x e
          have h2 := a1 y e'
          omega
    subst hxy
    congr 1
    refine rise_eq a2 b2 fun z => ?_
    have hz := h z
    constructor
    · intro hm
      have hlt := a1 z hm
      rcases List.mem_cons.mp (hz.mp (List.mem_cons_of_mem _ hm)) with e | e
      · omega
      · exact e
    · intro hm
      have hlt := b1 z hm
      rcases List.mem_cons.mp (hz.mpr (List.mem_cons_of_mem _ hm)) with e | e
      · omega
      · exact e
theorem IsRise.eq {a b ns : List Int} (h1 : IsRise a ns) (h2 : IsRise b ns) : a = b := rise_eq h1.1 h2.1 fun z => (h1.2 z).trans (h2.2 z).symm
theorem rise_len : ∀ {ms ns : List Int}, ms.Nodup → (∀ z ∈ ms, z ∈ ns) → ms.length ≤ ns.length
  | [], ns, _, _ => Nat.zero_le _
  | m :: r, ns, hn, hs => by
    obtain ⟨n1, n2⟩ := List.nodup_cons.mp hn
    have hm := hs m List.mem_cons_self
    have := rise_len (ms := r) (ns := ns.erase m) n2 fun z hz => (List.mem_erase_of_ne (fun (e : z = m) => n1 (by rw [← e]; exact hz))).mpr (hs z (List.mem_cons_of_mem _ hz))
    rw [List.length_erase_of_mem hm] at this
    have hp : 0 < ns.length := List.length_pos_of_mem hm
    simp
    omega
theorem IsRise.len {ms ns : List Int} (h : IsRise ms ns) : ms.length ≤ ns.length := rise_len (h.1.imp fun z => Int.ne_of_lt z) fun z hz => (h.2 z).mp hz
/-! ### aims -/
structure AimCls (K : PySem.W.Frag) (mg : Str → Option Value) (C : Addr) (x : Str) : Prop where
  mgC : mg x = some (.ref C)
  cl : Cls K C
  mks : PySem.W.makesIn K C = true
  kp : PySem.W.keepIn K (.ref C) = true
  nH : NoAttr K C "house"
  nW : NoAttr K C "way"
structure ACls (K : PySem.W.Frag) (C : Addr) : Prop where
  cl : Cls K C
  nH : NoAttr K C "house"
  nW : NoAttr K C "way"
theorem AimCls.a {K : PySem.W.Frag} {mg : Str → Option Value} {C : Addr} {x : Str} (h : AimCls K mg C x) : ACls K C := ⟨h.cl, h.nH, h.nW⟩
def aflds (h w : Addr) : List (Str × V) := putF "way" (.ref w) (putF "house" (.ref h) [])
/-- an aim of the class C stands at p -/
structure AimAt (CH C : Addr) (H : Hp) (p : Addr) (beds : List Int) (worths : List (List Int)) (rent : Int) (way : List Nat) : Prop where
  ex : ∃ dx hp wa, H p = some (.ins C dx (aflds hp wa)) ∧ HouseAt CH H hp beds worths rent ∧ H wa = some (.lst ((wI way).map V.int))
theorem AimAt.same {CH C : Addr} {H H' : Hp} {p : Addr} {beds : List Int} {worths : List (List Int)} {rent : Int} {way : List Nat} (h : AimAt CH C H p beds worths rent way) (s : Same H H') : AimAt CH C H' p beds worths rent way := by
  obtain ⟨dx, hp, wa, h1, h2, h3⟩ := h.ex
  exact ⟨dx, hp, wa, s _ _ h1, h2.same s, s _ _ h3⟩
theorem AimAt.sameB {CH C : Addr} {H H' : Hp} {p : Addr} {beds : List Int} {worths : List (List Int)} {rent : Int} {way : List Nat} (h : AimAt CH C H p beds worths rent way) (s : SameB H H') : AimAt CH C H' p beds worths rent way := by
  obtain ⟨dx, hp, wa, h1, h2, h3⟩ := h.ex
  exact ⟨dx, hp, wa, s.to _ _ h1 rfl, h2.sameB s, s.to _ _ h3 rfl⟩
/-- what an aim keeps to -/
structure AimOk (beds : List Int) (worths : List (List Int)) (way : List Nat) : Prop where
  bok : BestOk beds worths
  len : way.length = worths.length
  lt : ∀ r ∈ way, r < beds.length
theorem AimOk.at_ {beds : List Int} {worths : List (List Int)} {way : List Nat} (h : AimOk beds worths way) {i : Nat} (hi : i < worths.length) : way[i]? = some (way.getD i 0) ∧ way.getD i 0 < beds.length := by
  have hi' : i < way.length := by rw [h.len]; exact hi
  have e : way.getD i 0 = way[i] := by simp [List.getD, hi']
  rw [e]
  exact ⟨by simp [hi'], h.lt _ (List.getElem_mem hi')⟩
end L2

set_option Elab.async false
set_option linter.all false
set_option maxRecDepth 100000
set_option maxHeartbeats 4000000
namespace L2
open PySem PySem.Spec PyProof.Rows BW
/-! ### what a law says of aims -/
/-- the things that a law hands on: the aim, the free rooms, worths, way -/
structure Held (CH C : Addr) (H : Hp) (p sp w wy : Addr) (beds : List Int) (worths : List (List Int)) (rent : Int) (way : List Nat) : Prop where
  aim : AimAt CH C H p beds worths rent way
  ok : AimOk beds worths way
  sp_ : H sp = some (.lst ((openL beds (wI way)).map V.int))
  mat : Mat H w worths
  way_ : H wy = some (.lst ((wI way).map V.int))
theorem Held.same {CH C : Addr} {H H' : Hp} {p sp w wy : Addr} {beds : List Int} {worths : List (List Int)} {rent : Int} {way : List Nat} (h : Held CH C H p sp w wy beds worths rent way) (s : Same H H') : Held CH C H' p sp w wy beds worths rent way :=
  ⟨h.aim.same s, h.ok, s _ _ h.sp_, h.mat.same s, s _ _ h.way_⟩
theorem Held.sameB {CH C : Addr} {H H' : Hp} {p sp w wy : Addr} {beds : List Int} {worths : List (List Int)} {rent : Int} {way : List Nat} (h : Held CH C H p sp w wy beds worths rent way) (s : SameB H H') : Held CH C H' p sp w wy beds worths rent way :=
  ⟨h.aim.sameB s, h.ok, s.to _ _ h.sp_ rfl, h.mat.sameB s, s.to _ _ h.way_ rfl⟩
/-! ### a method of an aim, whichever of the two it is -/
section
variable {CH CW CE p : Addr} {wo : Bool} {beds : List Int} {worths : List (List Int)} {rent : Int} {way : List Nat} {σ : St} {H : Hp} {Q : VK} {ta : TE} {t : TA}
end
end L2

set_option Elab.async false
set_option linter.all false
set_option maxRecDepth 100000
set_option maxHeartbeats 4000000
namespace L2
open PySem PySem.Spec PyProof.Rows BW
/-! ### a lambda as key, where other lambdas' tables are known too -/
section
variable {X : Cx} {pins : List (Addr × Obj)} {σ : St} {H : Hp} {s : Shared} {c P : Addr} {scope : Scope} {params : Arguments} {body : Expr} {lpos : Pos}
theorem lam_make2 {Q : Value → Shared → Prop} {E : Value → Shared → Prop} (J : Inv X pins σ H s) (ok : compOk scope X.env.scope = true) (hcode : X.env.code = .ref c) (C : PySem.W.codeHdIn X.K c P = true) (BA : X.base.BuiltinsAt X.mg P) (hdef : defaultsOf params X.env = ([], []))
    (hT : LamAt H P lpos (X.env.qual ++ "<lambda>"))
    (hQ : ∀ f c' pm ctv H' s', Inv X (pins ++ [(f, PySem.W.kla_obj "<lambda>" (X.env.qual ++ "<lambda>") params body scope (clOf X.env.cells scope.names []) pm c' ctv)]) σ H' s' → (∃ oc vs t, H' c' = some (.frz oc (.own 0)) ∧ oc.data = .fields vs ∧ vs[1]? = some (.str (X.env.qual ++ "<lambda>") t)) →
      SameB H H' → (∀ b o, H b = some o → b ≠ P → H' b = some o) → LamAt H' P lpos (X.env.qual ++ "<lambda>") → Q (.ref f) s') :
    wpAny (model X.prog X.w) X.A (eval (.Lambda params body scope lpos) X.env) Q E s := by
  refine PySem.W.kla_eval hdef ?_
  have CH : PySem.W.CodeHd s.heap c P := PySem.W.codeHd_of_K J.kIn C
  have hcl : closureFor scope X.env = pure (clOf X.env.cells scope.names []) := closureFor_clOf (comp_cells J ok)
  have hgs : s.heap.Ns mainGlobals X.mg := J.mod.glob.keeps J.bk
  have hgP : mainGlobals ≠ P := fun z => by
    obtain ⟨o, es, ep, e, _⟩ := J.mod.glob
    have := (J.bs _ _ e).2
    rw [z] at this
    rcases hT with h | ⟨_, _, _, _, h, _⟩ <;> rw [this] at h <;> cases h
  have BS : s.heap.BuiltinsAt X.mg P := by
    obtain ⟨bm, o, b1, b2, b3, b4, b5, b6⟩ := BA
    exact ⟨bm, o, b1, b2, b3, b4, J.bk _ _ b5, b6⟩
  rcases hT with hT | ⟨c', oc, vs, t, hT, hc', hd, hv⟩
  · have hP : s.heap.get? P = some (PySem.W.tabObj #[]) := J.hok P _ hT
    refine PySem.W.kla_makeFunction (mg := X.mg) hcl J.ok.glob hgs hcode CH hP trivial rfl hgP BS fun c' ctv h' tk hx hge hlt hrec htb => ?_
    obtain ⟨c2, oc, vs, t, e2, hoc, hd, hv⟩ := hrec
    cases e2
    have hPlt : P < s.heap.objs.size := Heap.lt_size hP
    have nPc : P ≠ c' := Nat.ne_of_lt (Nat.lt_of_lt_of_le hPlt hge)
    have lt' : ∀ b o, s.heap.get? b = some o → b ≠ c' := fun b o e => Nat.ne_of_lt (Nat.lt_of_lt_of_le (Heap.lt_size e) hge)
    have hfc : H c' = none := J.hok.fresh hge
    have eP : upd (upd H P (.tbl (#[] ++ #[rawInt lpos.line, rawInt lpos.col, .ref c']))) c' (.frz oc (.own 0)) P = some (.tbl #[rawInt lpos.line, rawInt lpos.col, .ref c']) := by
      rw [upd_ne nPc, upd_same]; rfl
    have eo : ∀ b, b ≠ P → b ≠ c' → upd (upd H P (.tbl (#[] ++ #[rawInt lpos.line, rawInt lpos.col, .ref c']))) c' (.frz oc (.own 0)) b = H b := fun b h1 h2 => by rw [upd_ne h2, upd_ne h1]
    have hk : ∀ b o, b ≠ P → s.heap.get? b = some o → (h'.push (PySem.W.kla_obj "<lambda>" (X.env.qual ++ "<lambda>") params body scope (clOf X.env.cells scope.names []) ((X.mg "__name__").getD .none) c' ctv)).get? b = some o := fun b o hb e => Heap.get?_push_of_some _ (hx b o hb e)
    have keepH : ∀ b u, H b = some u → b ≠ P → upd (upd H P (.tbl (#[] ++ #[rawInt lpos.line, rawInt lpos.col, .ref c']))) c' (.frz oc (.own 0)) b = some u := fun b u e h1 => by
      rw [eo b h1 (ne_of_none e hfc)]; exact e
    have J1 : Inv X pins σ (upd (upd H P (.tbl (#[] ++ #[rawInt lpos.line, rawInt lpos.col, .ref c']))) c' (.frz oc (.own 0))) { s with heap := h'.push (PySem.W.kla_obj "<lambda>" (X.env.qual ++ "<lambda>") params body scope (clOf X.env.cells scope.names []) ((X.mg "__name__").getD .none) c' ctv), toks := tk } := by
      refine J.un ⟨fun b o e n _ _ => hk b o (fun z => by rw [z, hT] at n; cases n) e, fun b o e n _ _ => ⟨o.slots, hk b o (fun z => by rw [z, hT] at n; cases n) e⟩, fun b o e n _ => ?_, fun b o e _ => ?_, fun b xs e => ?_, fun b o u e => ?_, fun b ps e => ?_⟩ fun b u e => ?_
      · rw [eo b (fun z => by rw [z, hT] at n; cases n) (lt' b o e)]
        exact n
      · by_cases hb : b = P
        · subst hb
          exact ⟨_, Heap.get?_push_of_some _ htb⟩
        · exact ⟨o, hk b o hb e⟩
      · exact keepH b _ e fun z => by rw [z, hT] at e; cases e
      · exact keepH b _ e fun z => by rw [z, hT] at e; cases e
      · by_cases hb : b = P
        · subst hb
          rw [hT] at e
          cases e
          exact ⟨_, by rw [upd_ne nPc, upd_same]⟩
        · exact ⟨#[], by rw [keepH b _ e hb]; simp⟩
      · by_cases hb : b = P
        · subst hb
          rw [eP] at e
          cases e
          exact Heap.get?_push_of_some _ htb
        · by_cases hb2 : b = c'
          · subst hb2
            rw [upd_same] at e
            cases e
            exact ⟨Heap.get?_push_of_some _ hoc, _, Heap.get?_push_of_some _ hoc⟩
          · rw [eo b hb hb2] at e
            have nP : ∀ b' u', H b' = some u' → isTbl u' = false → b' ≠ P := fun b' u' e' z w => by rw [w, hT] at e'; cases e'; cases z
            refine (J.hok b u e).stay (fun b' o' hb' e' => hk b' o' ?_ e') (fun b' e' => keepH b' _ e' (nP b' _ e' rfl)) fun b' xs e' => keepH b' _ e' (nP b' _ e' rfl)
            rcases hb' with rfl | hb'
            · exact hb
            · exact nP b' _ hb' rfl
    have hfr : s.heap.objs.size ≤ h'.objs.size := Nat.le_trans hge (Nat.le_of_lt hlt)
    have ff := J.fpOk (H' := upd (upd H P (.tbl (#[] ++ #[rawInt lpos.line, rawInt lpos.col, .ref c']))) c' (.frz oc (.own 0))) (b := h'.objs.size) hfr (by
      rw [eo _ (Nat.ne_of_gt (Nat.lt_of_lt_of_le hPlt hfr)) (Nat.ne_of_gt hlt)]
      exact J.hok.fresh hfr)
    refine hQ _ c' ((X.mg "__name__").getD .none) ctv _ _ (J1.pins_of fun p hp => ?_) ⟨oc, vs, t, upd_same, hd, hv⟩ ⟨fun b u e z => keepH b u e (fun w => by rw [w, hT] at e; cases e; cases z), fun b e => by
      by_cases hb : b = P
      · subst hb; rw [eP] at e; cases e
      · by_cases hb2 : b = c'
        · subst hb2; exact hfc
        · rw [eo b hb hb2] at e; exact e⟩ keepH (.inr ⟨c', oc, vs, t, eP, upd_same, hd, hv⟩)
    rcases List.mem_append.mp hp with z | z
    · exact J1.pin p (List.mem_append_right _ z)
    · have : p = (h'.objs.size, PySem.W.kla_obj "<lambda>" (X.env.qual ++ "<lambda>") params body scope (clOf X.env.cells scope.names []) ((X.mg "__name__").getD .none) c' ctv) := by simpa using z
      subst this
      exact ⟨Heap.get?_push_size _ rfl, ff.1, ff.2.1, ff.2.2.1, fun v z => by cases z⟩
  · have hP : s.heap.get? P = some (PySem.W.tabObj #[rawInt lpos.line, rawInt lpos.col, .ref c']) := J.hok P _ hT
    refine PySem.W.kla_makeFunctionHit (cv := .ref c') (mg := X.mg) hcl J.ok.glob hgs hcode CH hP trivial (by show (if (((lpos.line : Nat) : Int) == lpos.line && ((lpos.col : Nat) : Int) == lpos.col) = true then _ else _) = _; simp) BS fun ctv h' tk hk hsz => ?_
    have hk2 : ∀ b o, s.heap.get? b = some o → (h'.push (PySem.W.kla_obj "<lambda>" (X.env.qual ++ "<lambda>") params body scope (clOf X.env.cells scope.names []) ((X.mg "__name__").getD .none) c' ctv)).get? b = some o := fun b o e => Heap.get?_push_of_some _ (hk b o e)
    have J1 := J.kept (t' := tk) hk2
    have ff := J.fpOk (H' := H) (b := h'.objs.size) hsz (J.hok.fresh hsz)
    refine hQ _ c' ((X.mg "__name__").getD .none) ctv H _ (J1.pins_of fun p hp => ?_) ⟨oc, vs, t, hc', hd, hv⟩ (SameB.refl _) (fun b o e _ => e) (.inr ⟨c', oc, vs, t, hT, hc', hd, hv⟩)
    rcases List.mem_append.mp hp with z | z
    · exact J1.pin p (List.mem_append_right _ z)
    · have : p = (h'.objs.size, PySem.W.kla_obj "<lambda>" (X.env.qual ++ "<lambda>") params body scope (clOf X.env.cells scope.names []) ((X.mg "__name__").getD .none) c' ctv) := by simpa using z
      subst this
      exact ⟨Heap.get?_push_size _ rfl, ff.1, ff.2.1, ff.2.2.1, fun v z => by cases z⟩
def tMaxLam2 (K : PySem.W.Frag) (P : Addr) (lpos : Pos) (qual : Str) (ix : List (Option Nat)) (t1 : TA) (te : TE) : TE := fun σ H Q => t1 σ H fun vs H1 => ∃ (a : Addr) (ns : List Int) (kf : Int → Int), vs = [.ref a] ∧ SqL K H1 a (ns.map V.int) ∧ 0 < ns.length ∧ LamAt H1 P lpos qual ∧
  (∀ z ∈ ns, ∀ H2, SameB H1 H2 → te (some (.int z) :: cSt σ ix) H2 fun y H3 => y = .int (kf z) ∧ H3 = H2) ∧ ∀ z ∈ ns, (∀ z' ∈ ns, kf z' ≤ kf z) → ∀ H2, SameB H1 H2 → (∀ b o, H1 b = some o → b ≠ P → H2 b = some o) → LamAt H2 P lpos qual → Q (.int z) H2
/-- max(e, key=lambda x: body) -/
theorem pe_maxLam2 {e : Expr} {p pos kpos : Pos} {x : Str} {Nc : List Str} {ix : List (Option Nat)} {t1 : TA} {te : TE} (C : PySem.W.codeHdIn X.K c P = true) (BA : X.base.BuiltinsAt X.mg P) (hcode : X.env.code = .ref c) (hc : X.calm = true) (hm : X.mg "max" = none) (hroom : X.A.depth < recursionLimit)
    (he1 : PA X [e] t1) (he : ∀ L f cd s0 H0, PE (lamCx X (X.env.qual ++ "<lambda>") scope L f cd s0 H0 (x :: Nc)) body te)
    (ok : compOk scope X.env.scope = true) (hix : ixOk scope X.N (x :: Nc) (none :: ix) = true) (hx : scope.names.lookup x = some .local) (hco : scope.isCoroutine = false) (hgen : scope.isGenerator = false)
    (hdef : defaultsOf params X.env = ([], [])) (hbind : ∀ (cl : List (Str × Addr)) (pm cd ctv u : Value), bindArgs (PySem.W.kla_fn "<lambda>" (X.env.qual ++ "<lambda>") params body scope cl pm cd ctv) ⟨[u], []⟩ = pure [(x, u)]) (hg : Gl X "max") (h1 : starEach [e] X.env = [(false, eval e X.env)]) :
    PE X (.Call (.Name "max" p) [e] [⟨some "key", .Lambda params body scope lpos, kpos⟩] pos) (tMaxLam2 X.K P lpos (X.env.qual ++ "<lambda>") ix t1 te) := by
  intro pins s σ H Q I h
  refine wpAny_Call_Name_kw (ld_blt I hg hm boot_max' ?_)
  refine PyProof.Rows.callWith_kw ?_ (by rw [h1]; rfl) (by rw [h1]; rfl)
  refine thn (he1 pos pins s σ H _ I h) fun us s1 ⟨vs, H1, I1, r1, a, ns, kf, e1, hS, hne, hL, hk, hQ⟩ => ?_
  subst e1
  obtain ⟨u, rfl, ru⟩ := vals1 r1
  cases ru
  show wpAny _ _ (evalAll [(do let v ← eval (.Lambda params body scope lpos) X.env; standAt pos; pure v)]) _ _ s1
  refine wpAny_evalAll_cons (wpAny_bind (lam_make2 I1 ok hcode C BA hdef hL fun f c' pm ctv H2 s2 I2 hrec sb so hL2 => wpAny_bind (wpAny_standAt (wpAny_pure (wpAny_evalAll_nil ?_)))))
  refine max_key kf hc I2 (sb.seq hS) hne (fun z hz t pl s3 hpl I3 => ?_) fun z t s3 hz hmax I3 => ?_
  · have hpin := I3.pin _ (List.mem_append_right _ (hpl _ (List.mem_append_right pins List.mem_cons_self)))
    obtain ⟨oc, vs', t', h4, h5, h6⟩ := hrec
    have hcd : s3.heap.CodeRec (.ref c') (X.env.qual ++ "<lambda>") := ⟨c', oc, vs', t', rfl, (I3.hok c' _ h4).1, h5, h6⟩
    exact lam_call I3 hc ok hix hx hco hgen hpin.1 hcd hroom (fun u => hbind _ _ _ _ u) (v := .int z) ⟨t, rfl⟩ he (hk z hz H2 sb)
  · exact ⟨.int z, H2, I3.sub fun p hp => List.mem_append_left _ hp, ⟨t, rfl⟩, hQ z hz hmax H2 sb so hL2⟩
end
/-- all but P's table stays -/
def SameO (P : Addr) (H H' : Hp) : Prop := ∀ b o, H b = some o → b ≠ P → H' b = some o
theorem Same.o {P : Addr} {H H' : Hp} (s : Same H H') : SameO P H H' := fun b o e _ => s b o e
theorem SameO.trans {P : Addr} {H H1 H2 : Hp} (a : SameO P H H1) (b : SameO P H1 H2) : SameO P H H2 := fun c o e h => b c o (a c o e h) h
theorem LamAt.o {H H' : Hp} {P P2 : Addr} {pos : Pos} {qual : Str} (h : LamAt H P2 pos qual) (hP : ∃ ps, H P = some (.tbl ps)) (hne : P2 ≠ P) (s : SameO P H H') : LamAt H' P2 pos qual := by
  rcases h with h | ⟨c', oc, vs, t, h1, h2, h3⟩
  · exact .inl (s _ _ h hne)
  · refine .inr ⟨c', oc, vs, t, s _ _ h1 hne, s _ _ h2 ?_, h3⟩
    intro e
    obtain ⟨ps, hp⟩ := hP
    rw [e, hp] at h2
    cases h2
theorem LamAt.tbl {H : Hp} {P : Addr} {pos : Pos} {qual : Str} (h : LamAt H P pos qual) : ∃ ps, H P = some (.tbl ps) := by
  rcases h with h | ⟨c', oc, vs, t, h1, h2, h3⟩
  · exact ⟨_, h⟩
  · exact ⟨_, h1⟩
def sp_bring2 (K : PySem.W.Frag) (C PT : Addr) (lpos : Pos) (qual : Str) : Sp := fun vs H Q _ => ∃ (p a : Addr) (beds : List Int) (worths : List (List Int)) (rent : Int) (way : List Nat), vs = [.ref p, .ref a] ∧ HouseAt C H p beds worths rent ∧ H a = some (.lst ((wI way).map V.int)) ∧ BestOk beds worths ∧ way.length < worths.length ∧
  (way.length : Int) < beds.sum ∧ (∀ b ∈ beds, 0 ≤ b) ∧ Fit (bF beds) way ∧ Opt beds worths way ∧ LamAt H PT lpos qual ∧
  ∀ (l : Addr) (way' : List Nat) (H' : Hp), SameB H H' → SameO PT H H' → H l = none → H' l = some (.lst ((wI way').map V.int)) → LamAt H' PT lpos qual → way'.length = way.length + 1 → Fit (bF beds) way' → Opt beds worths way' → Q (.ref l) H'
def sp_best2 (K : PySem.W.Frag) (C PT : Addr) (lpos : Pos) (qual : Str) : Sp := fun vs H Q _ => ∃ (p : Addr) (beds : List Int) (worths : List (List Int)) (rent : Int), vs = [.ref p] ∧ HouseAt C H p beds worths rent ∧ BestOk beds worths ∧
  (worths.length : Int) ≤ beds.sum ∧ (∀ b ∈ beds, 0 ≤ b) ∧ LamAt H PT lpos qual ∧
  ∀ (l : Addr) (way : List Nat) (H' : Hp), SameB H H' → SameO PT H H' → H l = none → H' l = some (.lst ((wI way).map V.int)) → LamAt H' PT lpos qual → way.length = worths.length → Fit (bF beds) way → Opt beds worths way → Q (.ref l) H'
end L2

set_option Elab.async false
set_option linter.all false
set_option maxRecDepth 100000
set_option maxHeartbeats 4000000
/-! Pairs of people, wings, and who lies near. -/
namespace L2
open PySem PySem.Spec PyProof.Rows
def Prs (H : Hp) (as : List Addr) (ps : List (Int × Int)) : Prop := as.length = ps.length ∧ ∀ (i : Nat) a (p : Int × Int), as[i]? = some a → ps[i]? = some p → H a = some (.tup [.int p.1, .int p.2])
theorem Prs.keep {H H' : Hp} {as : List Addr} {ps : List (Int × Int)} (h : Prs H as ps) (k : ∀ a ∈ as, ∀ o, H a = some o → H' a = some o) : Prs H' as ps := ⟨h.1, fun i a p h1 h2 => k a (List.mem_of_getElem? h1) _ (h.2 i a p h1 h2)⟩
theorem Prs.same {H H' : Hp} {as : List Addr} {ps : List (Int × Int)} (h : Prs H as ps) (s : Same H H') : Prs H' as ps := h.keep fun a _ o e => s a o e
theorem Prs.nil {H : Hp} : Prs H [] [] := ⟨rfl, fun i a p h => by simp at h⟩
theorem Prs.snoc {H : Hp} {as : List Addr} {ps : List (Int × Int)} {a : Addr} {p : Int × Int} (h : Prs H as ps) (ha : H a = some (.tup [.int p.1, .int p.2])) : Prs H (as ++ [a]) (ps ++ [p]) := by
  refine ⟨by simp [h.1], fun i b q h1 h2 => ?_⟩
  by_cases hi : i < as.length
  · rw [List.getElem?_append_left hi] at h1
    rw [List.getElem?_append_left (by rw [← h.1]; exact hi)] at h2
    exact h.2 i b q h1 h2
  · have hl := (List.getElem?_eq_some_iff.mp h1).1
    have e : i = as.length := by simp at hl; omega
    subst e
    have e1 : a = b := by simpa using h1
    have e2 : p = q := by rw [h.1] at h2; simpa using h2
    subst e1 e2
    exact ha
/-! what is handed in, as data -/
/-! who lies near -/
structure NearOk (way : List Int) (wings : List Str) (ps : List (Int × Int)) : Prop where
  lw : way.length ≤ 1000
  lz : wings.length ≤ 1000
  lp : ps.length ≤ 1000
  wr : ∀ r ∈ way, 0 ≤ r ∧ r < (wings.length : Int)
  pr : ∀ p ∈ ps, (0 ≤ p.1 ∧ p.1 < (way.length : Int)) ∧ 0 ≤ p.2 ∧ p.2 < (way.length : Int)
/-! a room with fewer than four: there is one, going round -/
/-- the i-th pair: where it stands -/
theorem Prs.get {H : Hp} {as : List Addr} {ps : List (Int × Int)} {i : Nat} {x : V} (h : Prs H as ps) (hx : (as.map V.ref)[i]? = some x) : ∃ a, x = .ref a ∧ as[i]? = some a ∧ i < ps.length ∧ ps[i]? = some (ps.getD i (0, 0)) ∧ H a = some (.tup [.int (ps.getD i (0, 0)).1, .int (ps.getD i (0, 0)).2]) := by
  rw [List.getElem?_map] at hx
  cases ha : as[i]? with
  | none => rw [ha] at hx; cases hx
  | some a =>
    rw [ha] at hx
    have e : V.ref a = x := by simpa using hx
    have hi : i < as.length := (List.getElem?_eq_some_iff.mp ha).1
    have hi2 : i < ps.length := by rw [← h.1]; exact hi
    have e2 : ps[i]? = some (ps.getD i (0, 0)) := by simp [hi2]
    exact ⟨a, e.symm, rfl, hi2, e2, h.2 i a _ ha e2⟩
theorem vals_of {P : Nat → V → Prop} {α : Type} (f : α → V) (R : Nat → α → Prop) : ∀ (ys : List V) (k : Nat), (∀ (i : Nat) y, ys[i]? = some y → ∃ z, y = f z ∧ R (k + i) z) → ∃ zs : List α, ys = zs.map f ∧ ∀ (i : Nat) z, zs[i]? = some z → R (k + i) z
  | [], _, _ => ⟨[], rfl, fun i z h => by simp at h⟩
  | y :: r, k, h => by
    obtain ⟨z, e, hz⟩ := h 0 y rfl
    obtain ⟨zs, e2, hzs⟩ := vals_of (P := P) f R r (k + 1) fun i y hy => by
      obtain ⟨z, e, hz⟩ := h (i + 1) y (by simpa using hy)
      exact ⟨z, e, by rw [show k + 1 + i = k + (i + 1) by omega]; exact hz⟩
    refine ⟨z :: zs, by rw [e, e2]; rfl, fun i z' hi => ?_⟩
    cases i with
    | zero =>
      have : z = z' := by simpa using hi
      rw [← this]
      exact hz
    | succ i =>
      have := hzs i z' (by simpa using hi)
      rw [show k + (i + 1) = k + 1 + i by omega]
      exact this
theorem Prs.turned {H : Hp} {as' : List Addr} {ps : List (Int × Int)} (hl : as'.length = ps.length) (hz : ∀ (i : Nat) t, as'[i]? = some t → H t = some (.tup [.int (ps.reverse.getD i (0, 0)).2, .int (ps.reverse.getD i (0, 0)).1])) : Prs H as' (ps.reverse.map fun p => (p.2, p.1)) := by
  refine ⟨by simp [hl], fun i a p h1 h2 => ?_⟩
  have := hz i a h1
  rw [List.getElem?_map] at h2
  cases hq : ps.reverse[i]? with
  | none => rw [hq] at h2; cases h2
  | some q =>
    rw [hq] at h2
    have e : (q.2, q.1) = p := by simpa using h2
    rw [List.getD_eq_getElem?_getD, hq] at this
    rw [← e]
    exact this
theorem NearOk.turned {way : List Int} {wings : List Str} {ps : List (Int × Int)} (h : NearOk way wings ps) : NearOk way wings (ps.reverse.map fun p => (p.2, p.1)) :=
  ⟨h.lw, h.lz, by simpa using h.lp, h.wr, fun p hp => by
    obtain ⟨q, hq, rfl⟩ := List.mem_map.mp hp
    have := h.pr q (List.mem_reverse.mp hq)
    exact ⟨this.2, this.1⟩⟩
end L2

set_option Elab.async false
set_option linter.all false
set_option maxRecDepth 100000
set_option maxHeartbeats 4000000
/-! sorted(a list of numbers, key=a lambda): some order of them -/
namespace L2
open PySem PySem.Spec PyProof.Rows
abbrev Cx.in1 (X : Cx) : Cx := { X with A := X.A.in1 }
section
variable {X : Cx} {pins : List (Addr × Obj)} {σ : St} {H : Hp} {s : Shared}
theorem Inv.in1 (I : Inv X pins σ H s) : Inv X.in1 pins σ H s :=
  ⟨⟨I.ok.mod, I.ok.kind, I.ok.glob, I.ok.blt, I.ok.above, I.ok.inj, I.ok.has, I.ok.cab, I.ok.hd, I.ok.frames, I.ok.stk, I.ok.exf, I.ok.bs, I.ok.bsz, I.ok.noex, I.ok.exfs, I.ok.funs, I.ok.frf⟩, I.os, I.bare, I.base, I.loc, I.cell, I.free, I.freeC, I.pin, I.hok, I.len⟩
theorem Inv.out1 (I : Inv X.in1 pins σ H s) : Inv X pins σ H s :=
  ⟨⟨I.ok.mod, I.ok.kind, I.ok.glob, I.ok.blt, I.ok.above, I.ok.inj, I.ok.has, I.ok.cab, I.ok.hd, I.ok.frames, I.ok.stk, I.ok.exf, I.ok.bs, I.ok.bsz, I.ok.noex, I.ok.exfs, I.ok.funs, I.ok.frf⟩, I.os, I.bare, I.base, I.loc, I.cell, I.free, I.freeC, I.pin, I.hok, I.len⟩
/-- a pinned list is tracked from here on -/
theorem Inv.adopt {D : Addr} {o : Obj} {h' : Heap} {t' : Nat} {xs : List V} (I : Inv X (pins ++ [(D, o)]) σ H s) (fD : FpOk X pins H D) (k : ∀ b u, b ≠ D → s.heap.get? b = some u → h'.get? b = some u)
    (new : ObjOk X.prog X.w (upd H D (.lst xs)) h' D (.lst xs)) : Inv X pins σ (upd H D (.lst xs)) { s with heap := h', toks := t' } := by
  have I0 : Inv X pins σ H s := I.sub fun p hp => List.mem_append_left _ hp
  have hn : H D = none := fD.1
  have nD : ∀ b, b ∉ [D] → b ≠ D := fun b hb z => hb (by simp [z])
  refine I0.step (g' := s.gens) (d' := s.drawn) (ch := [D]) (fun b hb => ?_) (fun b u _ _ hc q _ => k b u (nD b hc) q) (fun b u _ _ hc q _ => ⟨u.slots, k b u (nD b hc) q⟩) (fun b u hc q n => by rw [upd_ne (nD b hc)]; exact n)
    (fun b u hc q => ⟨u, k b u (nD b hc) q⟩) (fun b ys q => by rw [upd_ne (ne_of_none q hn)]; exact q) (fun b u w q => by rw [upd_ne (ne_of_none q hn)]; exact q) (fun b ps q => ⟨#[], by rw [upd_ne (ne_of_none q hn), q]; simp⟩) (fun m hm => ?_) (fun b u q => ?_) I.bare
  · have z : b = D := by simpa using hb
    subst z
    exact ⟨fD.2.2.2.1, fD.2.1, fD.2.2.2.2.1, fD.2.2.2.2.2⟩
  · obtain ⟨u, es, ep, ho, r⟩ := hm
    exact ⟨u, es, ep, k _ u (fun z => fD.2.1 z.symm) ho, r⟩
  · by_cases hb : b = D
    · subst hb
      rw [upd_same] at q
      cases q
      exact new
    · rw [upd_ne hb] at q
      have ne : ∀ c w, H c = some w → c ≠ D := fun c w z => ne_of_none z hn
      refine (I.hok b u q).stay (fun c v hc z => ?_) (fun c z => by rw [upd_ne (ne_of_none z hn)]; exact z) fun c ys z => by rw [upd_ne (ne_of_none z hn)]; exact z
      rcases hc with w | w
      · rw [w] at z ⊢
        exact k b v (ne b u q) z
      · exact k c v (ne c _ w) z
theorem numsAre : ∀ {ns : List Int} {us : List Value}, Vals (ns.map V.int) us → IntsAre us ns
  | [], _, h => by cases h; exact .nil
  | n :: r, _, h => by
    cases h with
    | cons a b =>
      obtain ⟨t, rfl⟩ := a
      exact .cons n t (numsAre b)
/-- what came out of the sorting: the same values, so the same numbers, in some order -/
theorem outPerm {ns kz : List Int} {vs out : List Value} (hv : Vals (ns.map V.int) vs) (hk : kz.length = vs.length) (h : KskOut false kz vs out) : ∃ zs : List Int, zs.Perm ns ∧ Vals (zs.map V.int) out := by
  obtain ⟨ps, hp, rfl, _⟩ := h
  have h1 : (ps.map Prod.snd).Perm vs := by
    have := hp.map Prod.snd
    rw [List.map_snd_zip (by omega)] at this
    exact this
  have hi := numsAre hv
  refine ⟨(ps.map Prod.snd).map numOf, ?_, ?_⟩
  · have := h1.map numOf
    rw [hi.nums] at this
    exact this
  · have all : ∀ v ∈ ps.map Prod.snd, ∃ n t, v = Value.int n t := fun v hv' => hi.all v (h1.mem_iff.mp hv')
    generalize ps.map Prod.snd = us at all
    clear h1 hp
    induction us with
    | nil => exact .nil
    | cons u r ih =>
      obtain ⟨n, t, rfl⟩ := all u (List.mem_cons_self ..)
      exact .cons ⟨t, rfl⟩ (ih fun v hv' => all v (List.mem_cons_of_mem _ hv'))
variable {ns kz : List Int} {vs : List Value} {D kS l q : Addr} {keys : Array Value} {e e1 : Nat} {A : Around} {E : Value → Shared → Prop} {P : PySem.Fin → Shared → Prop}
/-- the end of a sorting by keys: what was held goes back into the list, in the order found -/
theorem key_tail {st : SortSt} (J : Inv X (pins ++ [(D, seqObj "list" #[] e1), (kS, seqObj "list" keys e)]) σ H s) (fD : FpOk X pins H D) (fS : FpOk X pins H kS) (hne : kS ≠ D) (hv : Vals (ns.map V.int) vs) (hk : IntsAre keys.toList kz)
    (hlen : kz.length = vs.length) (h64 : vs.length < 64) (hp : (arrOf st).Perm (keys.zip vs.toArray)) (hs : SortedTo (arrOf st) (arrOf st).size) (hfl : failedOf st = none)
    (hQ : ∀ (zs : List Int) (s' : Shared), zs.Perm ns → Inv X pins σ (upd H D (.lst (zs.map V.int))) s' → P (.done (.ret .none)) s') : wpAny (model X.prog X.w) A (ksk_tail D false e1 (.ref kS) st) P E s := by
  have pD := J.pin (D, seqObj "list" #[] e1) (by simp)
  have pS := J.pin (kS, seqObj "list" keys e) (by simp)
  have lk : keys.size = vs.length := by have := hk.length; rw [Array.length_toList] at this; omega
  have la : (arrOf st).size = vs.length := by rw [hp.size_eq, Array.size_zip, lk, List.size_toArray, Nat.min_self]
  have lo : ((arrOf st).map (·.2)).size = vs.length := by rw [Array.size_map, la]
  have u1 := Heap.SameBut.update s.heap kS (Obj.mapSeq fun _ => (#[] : Array Value))
  have pD1 : (s.heap.update kS (Obj.mapSeq fun _ => (#[] : Array Value))).get? D = some (seqObj "list" #[] e1) := (u1.2 D hne.symm).trans pD.1
  have u2 := Heap.SameBut.update (s.heap.update kS (Obj.mapSeq fun _ => (#[] : Array Value))) D (Obj.mapSeq fun _ => (arrOf st).map (·.2))
  obtain ⟨c2, g2⟩ : ∃ c2, ((s.heap.update kS (Obj.mapSeq fun _ => (#[] : Array Value))).update D (Obj.mapSeq fun _ => (arrOf st).map (·.2))).get? D = some (seqObj "list" ((arrOf st).map (·.2)) c2) := ⟨_, get?_update_seq pD1 fun _ => (arrOf st).map (·.2)⟩
  obtain ⟨zs, hz, hzv⟩ := outPerm hv hlen (ksk_out (b := false) hk hp hs)
  rw [if_neg Bool.false_ne_true] at hzv
  unfold ksk_tail
  try dsimp only
  refine wpAny_bind (listUpdate_at pS.1 rfl ?_ (by rw [lk, sizeLine_eq]; omega) (Nat.zero_le _))
  refine wpAny_bind (wpAny_letGo ?_)
  refine wpAny_bind (seqEpoch_at pD1 rfl ?_)
  refine wpAny_bind (listUpdate_at pD1 rfl ?_ (Nat.zero_le _) (by show ((arrOf st).map (·.2)).size ≤ _; rw [lo, sizeLine_eq]; omega))
  rw [hfl]
  simp only [bne_self_eq_false, Bool.false_eq_true, if_false]
  have J1 : Inv X (pins ++ [(D, seqObj "list" #[] e1)]) σ H { s with heap := s.heap.update kS (Obj.mapSeq fun _ => (#[] : Array Value)), toks := s.toks } :=
    (J.sub (pl' := pins ++ [(D, seqObj "list" #[] e1)]) fun p hp => by
      rcases List.mem_append.mp hp with z | z
      · simp [z]
      · have : p = (D, seqObj "list" #[] e1) := by simpa using z
        simp [this]).turned (fun b o hb e => (u1.2 b hb).trans e) fS.1 fS.2.1 fS.2.2.2.1 fS.2.2.2.2.1 fun p hp => by
      rcases List.mem_append.mp hp with z | z
      · exact fS.2.2.2.2.2 p (List.mem_append_left _ z)
      · rcases List.mem_append.mp z with z | z
        · exact fS.2.2.2.2.2 p (List.mem_append_right _ z)
        · have : p = (D, seqObj "list" #[] e1) := by simpa using z
          rw [this]
          exact hne.symm
  refine wpAny_pure (hQ zs _ hz (J1.adopt (t' := s.toks) fD (fun b u hb e => (u2.2 b hb).trans e) ⟨?_, ((arrOf st).map (·.2)).toList, c2, hzv, ?_⟩))
  · rw [List.length_map, hz.length_eq, sizeLine_eq]
    have := hv.length
    rw [List.length_map] at this
    omega
  · rw [Array.toArray_toList]
    exact g2
theorem key_end (J : Inv X (pins ++ [(D, seqObj "list" #[] e1), (kS, seqObj "list" keys e)]) σ H s) (fD : FpOk X pins H D) (fS : FpOk X pins H kS) (hne : kS ≠ D) (hv : Vals (ns.map V.int) vs) (hk : IntsAre keys.toList kz)
    (hlen : kz.length = vs.length) (h64 : vs.length < 64) (hQ : ∀ (zs : List Int) (s' : Shared), zs.Perm ns → Inv X pins σ (upd H D (.lst (zs.map V.int))) s' → P (.done (.ret .none)) s') :
    wpAny (model X.prog X.w) A (ksk_end D false vs.toArray e1 (.ref kS) keys) P E s := by
  have lk : keys.size = vs.length := by have := hk.length; rw [Array.length_toList] at this; omega
  have lz : (keys.zip vs.toArray).size = vs.length := by rw [Array.size_zip, lk, List.size_toArray, Nat.min_self]
  unfold ksk_end
  try dsimp only
  rw [if_neg Bool.false_ne_true]
  by_cases h2 : vs.toArray.size < 2
  · rw [if_pos h2, if_pos h2]
    refine wpAny_bind (wpAny_pure ?_)
    rw [StateT.run_pure]
    refine wpAny_bind (wpAny_pure ?_)
    try dsimp only
    refine key_tail (st := SortSt.mk' general' (if false = true then (keys.zip vs.toArray).reverse else keys.zip vs.toArray) #[] 7 none) J fD fS hne hv hk hlen h64 (Array.Perm.refl _) ?_ rfl hQ
    intro i j hij hj
    have hj2 : j < (keys.zip vs.toArray).size := hj
    rw [lz] at hj2
    rw [List.size_toArray] at h2
    have : i = j := by omega
    subst this
    exact Int.le_refl _
  · rw [if_neg h2, if_neg h2]
    rw [List.size_toArray] at h2
    rw [ksk_kind hk (by rw [lk]; omega)]
    refine wpAny_bind (wpAny_pure ?_)
    refine wpAny_bind (wpAny_mono (wpS_sortRuns (a₀ := keys.zip vs.toArray) (st := SortSt.mk' oneType' (if false = true then (keys.zip vs.toArray).reverse else keys.zip vs.toArray) #[] 7 none)
      (Q := fun _ st' => (arrOf st').Perm (keys.zip vs.toArray) ∧ failedOf st' = none ∧ SortedTo (arrOf st') (keys.zip vs.toArray).size)
      (ksk_intKeys hk) ⟨Array.Perm.refl _, rfl, rfl, rfl⟩ (by rw [lz]; omega) (by rw [lz]; exact h64) fun st' a1 a2 a3 => ⟨a1, a2, a3⟩) ?_ fun _ _ z => z)
    rintro ⟨⟨⟩, st'⟩ s' ⟨rfl, hp, hf, hs⟩
    try dsimp only
    exact key_tail J fD fS hne hv hk hlen h64 hp (by rw [hp.size_eq]; exact hs) hf hQ
theorem key_rest (J : Inv X (pins ++ [(D, seqObj "list" #[] e1), (kS, seqObj "list" #[] 0)]) σ H s) (fD : FpOk X pins H D) (fS : FpOk X pins H kS) (hne : kS ≠ D) (hv : Vals (ns.map V.int) vs) (h64 : vs.length < 64)
    (turn : ∀ z ∈ ns, ∀ (t : Tok) (pl : List (Addr × Obj)) (s : Shared), (∀ p ∈ pins, p ∈ pl) → Inv X pl σ H s → wpAny (model X.prog X.w) A (call (.ref q) [.int z t]) (EP X pl σ fun y H' => (∃ k : Int, y = .int k) ∧ H' = H) (fun _ _ => False) s)
    (hQ : ∀ (zs : List Int) (s' : Shared), zs.Perm ns → Inv X pins σ (upd H D (.lst (zs.map V.int))) s' → P (.done (.ret .none)) s') :
    wpAny (model X.prog X.w) A (ksk_rest D (.ref q) false vs.toArray e1 (.ref kS)) P E s := by
  unfold ksk_rest
  refine wpAny_bind (wpAny_rule ?_)
  first
    | rw [List.forIn_toArray]
    | (rw [← Array.forIn_toList]; simp only [List.toList_toArray])
  refine wpAny_bind (ksk_fold (fun i s' => ∃ kA e kz, Inv X (pins ++ [(D, seqObj "list" #[] e1), (kS, seqObj "list" kA e)]) σ H s' ∧ IntsAre kA.toList kz ∧ kz.length = i) vs 0 s ⟨#[], 0, [], J, IntsAre.nil, rfl⟩ ?step ?done)
  case step =>
    rintro j x s' hx ⟨kA, e, kz, J', hk, hl⟩
    have hj : j < vs.length := (List.getElem?_eq_some_iff.mp hx).1
    have hlv := hv.length
    rw [List.length_map] at hlv
    have hjn : j < ns.length := by omega
    obtain ⟨u, hu, t, hut⟩ := hv.get (i := j) (x := .int ns[j]) (by simp [hjn])
    rw [hx] at hu
    cases hu
    subst hut
    refine wpAny_bind (wpAny_attempt (wpAny_mono (turn _ (List.getElem_mem hjn) t _ _ (fun p hp => List.mem_append_left _ hp) J') (fun v s'' he => ?_) fun _ _ hF => hF.elim))
    obtain ⟨y, H', J2, ry, ⟨k, rfl⟩, rfl⟩ := he
    obtain ⟨t2, rfl⟩ := ry
    try dsimp only
    have pS := J2.pin (kS, seqObj "list" kA e) (by simp)
    have ka : kA.size = j := by have := hk.length; rw [Array.length_toList] at this; omega
    have u1 := Heap.SameBut.update s''.heap kS (Obj.mapSeq (·.push (.int k t2)))
    obtain ⟨c2, g2⟩ : ∃ c2, (s''.heap.update kS (Obj.mapSeq (·.push (.int k t2)))).get? kS = some (seqObj "list" (kA.push (.int k t2)) c2) := ⟨_, get?_update_seq pS.1 (·.push (.int k t2))⟩
    refine wpAny_bind (listUpdate_at pS.1 rfl ?_ (by rw [sizeLine_eq]; omega) (by show (kA.push _).size ≤ _; rw [Array.size_push, sizeLine_eq]; omega))
    have J3 := J2.turn1 (t' := s''.toks) (pl' := pins ++ [(D, seqObj "list" #[] e1)]) (it := kS) ⟨fS.1, fS.2.1, fS.2.2.1, fS.2.2.2.1, fS.2.2.2.2.1, fun p hp => fS.2.2.2.2.2 p (by
      rcases List.mem_append.mp hp with z | z
      · exact List.mem_append_left _ z
      · cases z)⟩ (fun p hp => by
      rcases List.mem_append.mp hp with z | z
      · exact ⟨by simp [z], fS.2.2.2.2.2 p (List.mem_append_right _ z)⟩
      · have : p = (D, seqObj "list" #[] e1) := by simpa using z
        rw [this]
        exact ⟨by simp, hne.symm⟩) (fun b o hb z => (u1.2 b hb).trans z) g2 (fun w z => by cases z)
    refine wpAny_pure ⟨rfl, kA.push (.int k t2), c2, kz ++ [k], J3.sub fun p hp => ?_, ?_, by rw [List.length_append, hl]; simp⟩
    · simp only [List.mem_append, List.mem_cons, List.not_mem_nil, or_false] at hp ⊢
      rcases hp with h | h | h <;> simp [h]
    · have ea : (kA.push (Value.int k t2)).toList = kA.toList ++ [Value.int k t2] := by simp
      rw [ea]
      exact ksk_snoc hk
  case done =>
    rintro s' ⟨kA, e, kz, J', hk, hl⟩
    have pS := J'.pin (kS, seqObj "list" kA e) (by simp)
    try dsimp only
    refine wpAny_bind (listItems_at pS.1 rfl ?_)
    exact key_end J' fD fS hne hv hk (by omega) h64 hQ
theorem sorted_key {Q : Value → Shared → Prop} (J : Inv X pins σ H s) (hq : SqL X.K H l (ns.map V.int)) (h64 : ns.length < 64)
    (turn : ∀ z ∈ ns, ∀ (t : Tok) (pl : List (Addr × Obj)) (s : Shared), (∀ p ∈ pins, p ∈ pl) → Inv X pl σ H s → wpAny (model X.prog X.w) X.A.in1.in1 (call (.ref q) [.int z t]) (EP X pl σ fun y H' => (∃ k : Int, y = .int k) ∧ H' = H) (fun _ _ => False) s)
    (hQ : ∀ (D : Addr) (zs : List Int) (s' : Shared), zs.Perm ns → H D = none → Inv X pins σ (upd H D (.lst (zs.map V.int))) s' → Q (.ref D) s') :
    wpAny (model X.prog X.w) X.A (call (.builtin "sorted") [.ref l] [(Str.ofString "key", .ref q)]) Q E s := by
  obtain ⟨its, rv, pl, hz⟩ := J.list hq
  have hl : its.length = ns.length := by have := rv.length; simpa using this.symm
  have hli : s.heap.IsList l its.toArray := pl.isList
  refine call_function_entry_kw kind_sorted plain_sorted entry_sorted (ksk_s1 _ _) ?_
  unfold Builtin.«sorted»
  refine wpAny_bind (m := checkCount "sorted" 1 1 _) (wpAny_pure ?_)
  refine wpAny_bind (collect_list hli ?_ (by rw [sizeLine_eq]; omega))
  refine wpAny_bind (wpAny_newList ?_ (by rw [sizeLine_eq]; omega))
  have z1 : ((s.heap.push (seqObj "list" #[] 0)).update s.heap.objs.size (Obj.mapSeq (· ++ its.toArray))).objs.size = s.heap.objs.size + 1 := by
    rw [Heap.size_update, size_push']
  have keep : ∀ b o, s.heap.get? b = some o → (((s.heap.push (seqObj "list" #[] 0)).update s.heap.objs.size (Obj.mapSeq (· ++ its.toArray))).push (seqObj "list" its.toArray 0)).get? b = some o := fun b o w => by
    have hlt : b < s.heap.objs.size := Heap.lt_size w
    rw [Heap.get?_push_ne _ _ _ (by rw [z1]; exact Nat.ne_of_lt (Nat.lt_succ_of_lt hlt)), Heap.get?_update_ne _ _ _ _ (Nat.ne_of_lt hlt), Heap.get?_push_ne _ _ _ (Nat.ne_of_lt hlt)]
    exact w
  have oD : (((s.heap.push (seqObj "list" #[] 0)).update s.heap.objs.size (Obj.mapSeq (· ++ its.toArray))).push (seqObj "list" its.toArray 0)).get? (s.heap.objs.size + 1) = some (seqObj "list" its.toArray 0) := by
    rw [← z1]; exact Heap.get?_push_size _ rfl
  have zH : (((s.heap.push (seqObj "list" #[] 0)).update s.heap.objs.size (Obj.mapSeq (· ++ its.toArray))).push (seqObj "list" its.toArray 0)).objs.size = s.heap.objs.size + 2 := by rw [size_push', z1]
  show wpAny _ _ _ _ _ { s with heap := ((s.heap.push (seqObj "list" #[] 0)).update s.heap.objs.size (Obj.mapSeq (· ++ its.toArray))).push (seqObj "list" its.toArray 0) }
  rw [z1]
  generalize ((s.heap.push (seqObj "list" #[] 0)).update s.heap.objs.size (Obj.mapSeq (· ++ its.toArray))).push (seqObj "list" its.toArray 0) = hh at *
  refine wpAny_bind (wpAny_holding (wpAny_call_entry_kw slot_list_sort ⟨_, oD, rfl⟩ entry_list_sort ?body (ksk_l1 _ _)))
  case body =>
    show wpAny (model X.prog X.w) X.A.in1.in1 (Builtin.«list.sort» ⟨[.ref (s.heap.objs.size + 1)], [(Str.ofString "key", .ref q)]⟩) _ _ _
    rw [ksk_t1]
    have u1 := Heap.SameBut.update hh (s.heap.objs.size + 1) (Obj.mapSeq fun _ => (#[] : Array Value))
    obtain ⟨e1, g1⟩ : ∃ e1, (hh.update (s.heap.objs.size + 1) (Obj.mapSeq fun _ => (#[] : Array Value))).get? (s.heap.objs.size + 1) = some (seqObj "list" #[] e1) := ⟨_, get?_update_seq oD fun _ => #[]⟩
    unfold ksk_tree
    refine wpAny_bind (listItems_at oD rfl ?_)
    refine wpAny_bind (listUpdate_at oD rfl ?_ (by rw [List.size_toArray, sizeLine_eq]; omega) (Nat.zero_le _))
    refine wpAny_bind (seqEpoch_at g1 rfl ?_)
    refine wpAny_bind (wpAny_newTuple ?_ (by show its.length ≤ _; rw [sizeLine_eq]; omega))
    refine wpAny_bind (wpAny_newList ?_ (Nat.zero_le _))
    refine wpAny_holding ?_
    have zS : ((hh.update (s.heap.objs.size + 1) (Obj.mapSeq fun _ => (#[] : Array Value))).push (seqObj "tuple" its.toArray 0)).objs.size = s.heap.objs.size + 3 := by rw [size_push', Heap.size_update, zH]
    have kp : ∀ b o, s.heap.get? b = some o → (((hh.update (s.heap.objs.size + 1) (Obj.mapSeq fun _ => (#[] : Array Value))).push (seqObj "tuple" its.toArray 0)).push (seqObj "list" #[] 0)).get? b = some o := fun b o w =>
      Heap.get?_push_of_some _ (Heap.get?_push_of_some _ ((u1.2 b (Nat.ne_of_lt (Nat.lt_succ_of_lt (Heap.lt_size w)))).trans (keep b o w)))
    have gD : (((hh.update (s.heap.objs.size + 1) (Obj.mapSeq fun _ => (#[] : Array Value))).push (seqObj "tuple" its.toArray 0)).push (seqObj "list" #[] 0)).get? (s.heap.objs.size + 1) = some (seqObj "list" #[] e1) := Heap.get?_push_of_some _ (Heap.get?_push_of_some _ g1)
    have gS : (((hh.update (s.heap.objs.size + 1) (Obj.mapSeq fun _ => (#[] : Array Value))).push (seqObj "tuple" its.toArray 0)).push (seqObj "list" #[] 0)).get? ((hh.update (s.heap.objs.size + 1) (Obj.mapSeq fun _ => (#[] : Array Value))).push (seqObj "tuple" its.toArray 0)).objs.size = some (seqObj "list" #[] 0) := Heap.get?_push_size _ rfl
    have fD := J.fpOk (H' := H) (b := s.heap.objs.size + 1) (Nat.le_succ _) (J.hok.fresh (Nat.le_succ _))
    have fS := J.fpOk (H' := H) (b := s.heap.objs.size + 3) (by omega) (J.hok.fresh (by omega))
    have J0 := J.kept (t' := s.toks) kp
    rw [zS] at gS
    show wpAny _ _ (ksk_rest (s.heap.objs.size + 1) (.ref q) false its.toArray e1 (.ref ((hh.update (s.heap.objs.size + 1) (Obj.mapSeq fun _ => (#[] : Array Value))).push (seqObj "tuple" its.toArray 0)).objs.size)) _ _ _
    rw [zS]
    refine key_rest (J0.pins_of fun p hp => ?_) fD fS (by show @Ne Nat _ _; omega) rv (by omega) turn fun zs s' hp J' => ⟨_, rfl, ?_⟩
    · rcases List.mem_append.mp hp with z | z
      · exact J0.pin p (List.mem_append_right _ z)
      · simp only [List.mem_cons, List.not_mem_nil, or_false] at z
        rcases z with z | z
        · subst z
          exact ⟨gD, fD.1, fD.2.1, fD.2.2.1, fun v z => by cases z⟩
        · subst z
          exact ⟨gS, fS.1, fS.2.1, fS.2.2.1, fun v z => by cases z⟩
    · exact wpAny_pure ⟨_, rfl, hQ _ zs s' hp fD.1 J'⟩
end
end L2

set_option Elab.async false
set_option linter.all false
set_option maxRecDepth 100000
set_option maxHeartbeats 4000000
/-! a lambda made where the table of its def's inner code has others; sorted(e, key=lambda x: body) -/
namespace L2
open PySem PySem.Spec PyProof.Rows BW
section
variable {X : Cx} {pins : List (Addr × Obj)} {σ : St} {H : Hp} {s : Shared} {c P : Addr} {scope : Scope} {params : Arguments} {body : Expr} {lpos : Pos}
theorem lam_makeG {ps : Array Value} {Q : Value → Shared → Prop} {E : Value → Shared → Prop} (J : Inv X pins σ H s) (ok : compOk scope X.env.scope = true) (hcode : X.env.code = .ref c) (C : PySem.W.codeHdIn X.K c P = true) (BA : X.base.BuiltinsAt X.mg P) (hdef : defaultsOf params X.env = ([], []))
    (hT : H P = some (.tbl ps)) (ht : TriplesOk ps.toList) (hnf : codeAmong lpos ps.toList = none)
    (hQ : ∀ f c' pm ctv H' s', Inv X (pins ++ [(f, PySem.W.kla_obj "<lambda>" (X.env.qual ++ "<lambda>") params body scope (clOf X.env.cells scope.names []) pm c' ctv)]) σ H' s' → (∃ oc vs t, H' c' = some (.frz oc (.own 0)) ∧ oc.data = .fields vs ∧ vs[1]? = some (.str (X.env.qual ++ "<lambda>") t)) →
      SameB H H' → SameO P H H' → H' P = some (.tbl (ps ++ #[rawInt lpos.line, rawInt lpos.col, .ref c'])) → Q (.ref f) s') :
    wpAny (model X.prog X.w) X.A (eval (.Lambda params body scope lpos) X.env) Q E s := by
  refine PySem.W.kla_eval hdef ?_
  have CH : PySem.W.CodeHd s.heap c P := PySem.W.codeHd_of_K J.kIn C
  have hcl : closureFor scope X.env = pure (clOf X.env.cells scope.names []) := closureFor_clOf (comp_cells J ok)
  have hgs : s.heap.Ns mainGlobals X.mg := J.mod.glob.keeps J.bk
  have hgP : mainGlobals ≠ P := fun z => by
    obtain ⟨o, es, ep, e, _⟩ := J.mod.glob
    have := (J.bs _ _ e).2
    rw [z] at this
    rw [this] at hT
    cases hT
  have BS : s.heap.BuiltinsAt X.mg P := by
    obtain ⟨bm, o, b1, b2, b3, b4, b5, b6⟩ := BA
    exact ⟨bm, o, b1, b2, b3, b4, J.bk _ _ b5, b6⟩
  · have hP : s.heap.get? P = some (PySem.W.tabObj ps) := J.hok P _ hT
    refine PySem.W.kla_makeFunction (mg := X.mg) hcl J.ok.glob hgs hcode CH hP ht hnf hgP BS fun c' ctv h' tk hx hge hlt hrec htb => ?_
    obtain ⟨c2, oc, vs, t, e2, hoc, hd, hv⟩ := hrec
    cases e2
    have hPlt : P < s.heap.objs.size := Heap.lt_size hP
    have nPc : P ≠ c' := Nat.ne_of_lt (Nat.lt_of_lt_of_le hPlt hge)
    have lt' : ∀ b o, s.heap.get? b = some o → b ≠ c' := fun b o e => Nat.ne_of_lt (Nat.lt_of_lt_of_le (Heap.lt_size e) hge)
    have hfc : H c' = none := J.hok.fresh hge
    have eP : upd (upd H P (.tbl (ps ++ #[rawInt lpos.line, rawInt lpos.col, .ref c']))) c' (.frz oc (.own 0)) P = some (.tbl (ps ++ #[rawInt lpos.line, rawInt lpos.col, .ref c'])) := by
      rw [upd_ne nPc, upd_same]
    have eo : ∀ b, b ≠ P → b ≠ c' → upd (upd H P (.tbl (ps ++ #[rawInt lpos.line, rawInt lpos.col, .ref c']))) c' (.frz oc (.own 0)) b = H b := fun b h1 h2 => by rw [upd_ne h2, upd_ne h1]
    have hk : ∀ b o, b ≠ P → s.heap.get? b = some o → (h'.push (PySem.W.kla_obj "<lambda>" (X.env.qual ++ "<lambda>") params body scope (clOf X.env.cells scope.names []) ((X.mg "__name__").getD .none) c' ctv)).get? b = some o := fun b o hb e => Heap.get?_push_of_some _ (hx b o hb e)
    have keepH : ∀ b u, H b = some u → b ≠ P → upd (upd H P (.tbl (ps ++ #[rawInt lpos.line, rawInt lpos.col, .ref c']))) c' (.frz oc (.own 0)) b = some u := fun b u e h1 => by
      rw [eo b h1 (ne_of_none e hfc)]; exact e
    have J1 : Inv X pins σ (upd (upd H P (.tbl (ps ++ #[rawInt lpos.line, rawInt lpos.col, .ref c']))) c' (.frz oc (.own 0))) { s with heap := h'.push (PySem.W.kla_obj "<lambda>" (X.env.qual ++ "<lambda>") params body scope (clOf X.env.cells scope.names []) ((X.mg "__name__").getD .none) c' ctv), toks := tk } := by
      refine J.un ⟨fun b o e n _ _ => hk b o (fun z => by rw [z, hT] at n; cases n) e, fun b o e n _ _ => ⟨o.slots, hk b o (fun z => by rw [z, hT] at n; cases n) e⟩, fun b o e n _ => ?_, fun b o e _ => ?_, fun b xs e => ?_, fun b o u e => ?_, fun b ps e => ?_⟩ fun b u e => ?_
      · rw [eo b (fun z => by rw [z, hT] at n; cases n) (lt' b o e)]
        exact n
      · by_cases hb : b = P
        · subst hb
          exact ⟨_, Heap.get?_push_of_some _ htb⟩
        · exact ⟨o, hk b o hb e⟩
      · exact keepH b _ e fun z => by rw [z, hT] at e; cases e
      · exact keepH b _ e fun z => by rw [z, hT] at e; cases e
      · by_cases hb : b = P
        · subst hb
          rw [hT] at e
          cases e
          exact ⟨_, by rw [upd_ne nPc, upd_same]⟩
        · exact ⟨#[], by rw [keepH b _ e hb]; simp⟩
      · by_cases hb : b = P
        · subst hb
          rw [eP] at e
          cases e
          exact Heap.get?_push_of_some _ htb
        · by_cases hb2 : b = c'
          · subst hb2
            rw [upd_same] at e
            cases e
            exact ⟨Heap.get?_push_of_some _ hoc, _, Heap.get?_push_of_some _ hoc⟩
          · rw [eo b hb hb2] at e
            have nP : ∀ b' u', H b' = some u' → isTbl u' = false → b' ≠ P := fun b' u' e' z w => by rw [w, hT] at e'; cases e'; cases z
            refine (J.hok b u e).stay (fun b' o' hb' e' => hk b' o' ?_ e') (fun b' e' => keepH b' _ e' (nP b' _ e' rfl)) fun b' xs e' => keepH b' _ e' (nP b' _ e' rfl)
            rcases hb' with rfl | hb'
            · exact hb
            · exact nP b' _ hb' rfl
    have hfr : s.heap.objs.size ≤ h'.objs.size := Nat.le_trans hge (Nat.le_of_lt hlt)
    have ff := J.fpOk (H' := upd (upd H P (.tbl (ps ++ #[rawInt lpos.line, rawInt lpos.col, .ref c']))) c' (.frz oc (.own 0))) (b := h'.objs.size) hfr (by
      rw [eo _ (Nat.ne_of_gt (Nat.lt_of_lt_of_le hPlt hfr)) (Nat.ne_of_gt hlt)]
      exact J.hok.fresh hfr)
    refine hQ _ c' ((X.mg "__name__").getD .none) ctv _ _ (J1.pins_of fun p hp => ?_) ⟨oc, vs, t, upd_same, hd, hv⟩ ⟨fun b u e z => keepH b u e (fun w => by rw [w, hT] at e; cases e; cases z), fun b e => by
      by_cases hb : b = P
      · subst hb; rw [eP] at e; cases e
      · by_cases hb2 : b = c'
        · subst hb2; exact hfc
        · rw [eo b hb hb2] at e; exact e⟩ keepH eP
    rcases List.mem_append.mp hp with z | z
    · exact J1.pin p (List.mem_append_right _ z)
    · have : p = (h'.objs.size, PySem.W.kla_obj "<lambda>" (X.env.qual ++ "<lambda>") params body scope (clOf X.env.cells scope.names []) ((X.mg "__name__").getD .none) c' ctv) := by simpa using z
      subst this
      exact ⟨Heap.get?_push_size _ rfl, ff.1, ff.2.1, ff.2.2.1, fun v z => by cases z⟩
def tSortLam (K : PySem.W.Frag) (P : Addr) (lpos : Pos) (ix : List (Option Nat)) (t1 : TA) (te : TE) : TE := fun σ H Q => t1 σ H fun vs H1 => ∃ (a : Addr) (ns : List Int) (ps : Array Value), vs = [.ref a] ∧ SqL K H1 a (ns.map V.int) ∧ ns.length < 64 ∧ H1 P = some (.tbl ps) ∧ TriplesOk ps.toList ∧ codeAmong lpos ps.toList = none ∧
  (∀ z ∈ ns, ∀ H2, SameB H1 H2 → te (some (.int z) :: cSt σ ix) H2 fun y H3 => (∃ k : Int, y = .int k) ∧ H3 = H2) ∧
  ∀ (D c' : Addr) (zs : List Int) (H2 : Hp), zs.Perm ns → SameB H1 H2 → SameO P H1 H2 → H2 D = none → H2 P = some (.tbl (ps ++ #[rawInt lpos.line, rawInt lpos.col, .ref c'])) → Q (.ref D) (upd H2 D (.lst (zs.map V.int)))
theorem boot_sorted' : bootBuiltins "sorted" = some (.builtin "sorted") := by decide +kernel
theorem pe_sortLam {e : Expr} {p pos kpos : Pos} {x : Str} {Nc : List Str} {ix : List (Option Nat)} {t1 : TA} {te : TE} (C : PySem.W.codeHdIn X.K c P = true) (BA : X.base.BuiltinsAt X.mg P) (hcode : X.env.code = .ref c) (hc : X.calm = true) (hm : X.mg "sorted" = none) (hroom : X.A.depth < recursionLimit)
    (he1 : PA X [e] t1) (he : ∀ L f cd s0 H0, PE (lamCx X.in1 (X.env.qual ++ "<lambda>") scope L f cd s0 H0 (x :: Nc)) body te)
    (ok : compOk scope X.env.scope = true) (hix : ixOk scope X.N (x :: Nc) (none :: ix) = true) (hx : scope.names.lookup x = some .local) (hco : scope.isCoroutine = false) (hgen : scope.isGenerator = false)
    (hdef : defaultsOf params X.env = ([], [])) (hbind : ∀ (cl : List (Str × Addr)) (pm cd ctv u : Value), bindArgs (PySem.W.kla_fn "<lambda>" (X.env.qual ++ "<lambda>") params body scope cl pm cd ctv) ⟨[u], []⟩ = pure [(x, u)]) (hg : Gl X "sorted") (h1 : starEach [e] X.env = [(false, eval e X.env)]) :
    PE X (.Call (.Name "sorted" p) [e] [⟨some "key", .Lambda params body scope lpos, kpos⟩] pos) (tSortLam X.K P lpos ix t1 te) := by
  intro pins s σ H Q I h
  refine wpAny_Call_Name_kw (ld_blt I hg hm boot_sorted' ?_)
  refine PyProof.Rows.callWith_kw ?_ (by rw [h1]; rfl) (by rw [h1]; rfl)
  refine thn (he1 pos pins s σ H _ I h) fun us s1 ⟨vs, H1, I1, r1, a, ns, ps, e1, hS, hne, hP, ht, hnf, hk, hQ⟩ => ?_
  subst e1
  obtain ⟨u, rfl, ru⟩ := vals1 r1
  cases ru
  show wpAny _ _ (evalAll [(do let v ← eval (.Lambda params body scope lpos) X.env; standAt pos; pure v)]) _ _ s1
  refine wpAny_evalAll_cons (wpAny_bind (lam_makeG I1 ok hcode C BA hdef hP ht hnf fun f c' pm ctv H2 s2 I2 hrec sb so hP2 => wpAny_bind (wpAny_standAt (wpAny_pure (wpAny_evalAll_nil ?_)))))
  refine sorted_key I2 (sb.seq hS) hne (fun z hz t pl s3 hpl I3 => ?_) fun D zs s3 hp hD I3 => ?_
  · have hpin := I3.pin _ (List.mem_append_right _ (hpl _ (List.mem_append_right pins List.mem_cons_self)))
    obtain ⟨oc, vs', t', h4, h5, h6⟩ := hrec
    have hcd : s3.heap.CodeRec (.ref c') (X.env.qual ++ "<lambda>") := ⟨c', oc, vs', t', rfl, (I3.hok c' _ h4).1, h5, h6⟩
    refine thn (lam_call (X := X.in1) I3.in1 hc ok hix hx hco hgen hpin.1 hcd hroom (fun u => hbind _ _ _ _ u) (v := .int z) ⟨t, rfl⟩ he (hk z hz H2 sb)) fun v s4 ⟨y, H', J', ry, q'⟩ => ⟨y, H', J'.out1, ry, q'⟩
  · exact ⟨.ref D, _, I3.sub fun p hp => List.mem_append_left _ hp, rfl, hQ D c' zs H2 hp sb so hD hP2⟩
end
end L2

set_option Elab.async false
set_option linter.all false
set_option maxRecDepth 100000
set_option maxHeartbeats 4000000
/-! who stays: the mathematics of law k72 -/
namespace BW
open L2
theorem filt_sub {α : Type} {p q : α → Bool} : ∀ {l : List α}, (∀ x ∈ l, p x = true → q x = true) → (l.filter q).length ≤ (l.filter p).length → ∀ x ∈ l, q x = true → p x = true
  | [], _, _, x, hx, _ => by cases hx
  | a :: l, h, hl, x, hx, hq => by
    have hsub : ∀ {l : List α}, (∀ x ∈ l, p x = true → q x = true) → (l.filter p).length ≤ (l.filter q).length := fun {l} h => by
      induction l with
      | nil => simp
      | cons b r ih =>
        have i2 := ih fun x hx => h x (List.mem_cons_of_mem _ hx)
        have hb := h b (List.mem_cons_self ..)
        simp only [List.filter_cons]
        cases hp : p b <;> cases hq' : q b <;> simp_all <;> omega
    have h2 := hsub (l := l) fun x hx => h x (List.mem_cons_of_mem _ hx)
    have ha := h a (List.mem_cons_self ..)
    simp only [List.filter_cons] at hl
    rcases List.mem_cons.mp hx with e | hx
    · subst e
      cases hp : p x with
      | true => rfl
      | false =>
        rw [hp, hq] at hl
        simp at hl
        omega
    · refine filt_sub (l := l) (fun x hx => h x (List.mem_cons_of_mem _ hx)) ?_ x hx hq
      cases hp : p a <;> cases hq' : q a <;> rw [hp, hq'] at hl <;> simp_all <;> omega
/-- who had a room of a way of greatest worth keeps it -/
theorem all_keep {beds : List Int} {worths : List (List Int)} {old : List (Option Int)} {way v : List Nat} (hl : v.length = way.length) (hf : Fit (bF beds) v) (hov : Opt beds worths v) (ho : Opt beds worths way) (hfw : Fit (bF beds) way)
    (hold : ∀ i, i < v.length → old.getD i none = none ∨ old.getD i none = some ((v.getD i 0 : Nat) : Int))
    (hk : ∀ u : List Nat, u.length = way.length → Fit (bF beds) u → wsum (wF worths) way ≤ wsum (wF worths) u → keepsN old u ≤ keepsN old way) :
    wsum (wF worths) way = wsum (wF worths) v ∧ ∀ i, i < way.length → old.getD i none = none ∨ old.getD i none = some ((way.getD i 0 : Nat) : Int) := by
  have e1 := ho v hl hf
  have e2 := hov way hl.symm hfw
  refine ⟨by omega, fun i hi => ?_⟩
  have h1 := hk v hl hf e2
  unfold keepsN at h1
  rw [hl] at h1
  have key := filt_sub (l := List.range way.length) (p := fun i => decide (old.getD i none = some ((way.getD i 0 : Nat) : Int))) (q := fun i => decide (old.getD i none = some ((v.getD i 0 : Nat) : Int))) (fun x hx hp => by
    have hp' := of_decide_eq_true hp
    rcases hold x (by rw [hl]; exact List.mem_range.mp hx) with z | z
    · rw [z] at hp'; cases hp'
    · exact decide_eq_true z) h1 i (List.mem_range.mpr hi)
  rcases hold i (by omega) with z | z
  · exact .inl z
  · exact .inr (of_decide_eq_true (key (decide_eq_true z)))
/-- sums that meet their bounds -/
theorem sum_meet {f g : Nat → Int} : ∀ {n : Nat}, (∀ i, i < n → f i ≤ g i) → ((List.range n).map g).sum ≤ ((List.range n).map f).sum → ∀ i, i < n → f i = g i
  | 0, _, _, i, hi => absurd hi (Nat.not_lt_zero _)
  | n + 1, h, hs, i, hi => by
    have le : ∀ {n : Nat}, (∀ i, i < n → f i ≤ g i) → ((List.range n).map f).sum ≤ ((List.range n).map g).sum := fun {n} h => by
      induction n with
      | zero => simp
      | succ n ih =>
        have := ih fun i hi => h i (by omega)
        have := h n (by omega)
        rw [List.range_succ, List.map_append, List.map_append, List.sum_append, List.sum_append]
        simp
        omega
    have l1 := le (n := n) fun i hi => h i (by omega)
    have l2 := h n (by omega)
    rw [List.range_succ, List.map_append, List.map_append, List.sum_append, List.sum_append] at hs
    simp at hs
    by_cases e : i = n
    · subst e; omega
    · exact sum_meet (n := n) (fun i hi => h i (by omega)) (by omega) i (by omega)
theorem two_count {v : List Nat} {i j r : Nat} (hij : i < j) (hj : j < v.length) (h1 : v.getD i 0 = r) (h2 : v.getD j 0 = r) : 2 ≤ v.count r := by
  have e : v.count r = (v.take j).count r + (v.drop j).count r := by rw [← List.count_append, List.take_append_drop]
  have a1 : 0 < (v.take j).count r := List.count_pos_iff.mpr (by
    have hi : i < (v.take j).length := by rw [List.length_take]; omega
    have : (v.take j)[i] = r := by
      rw [List.getElem_take, ← h1, List.getD_eq_getElem?_getD, List.getElem?_eq_getElem (by omega)]
      rfl
    rw [← this]
    exact List.getElem_mem hi)
  have a2 : 0 < (v.drop j).count r := List.count_pos_iff.mpr (by
    have hi : 0 < (v.drop j).length := by rw [List.length_drop]; omega
    have : (v.drop j)[0] = r := by
      rw [List.getElem_drop, ← h2, List.getD_eq_getElem?_getD, List.getElem?_eq_getElem (by omega)]
      rfl
    rw [← this]
    exact List.getElem_mem hi)
  omega
theorem fit_one {B : Nat → Nat} {v : List Nat} (hf : Fit B v) {i j : Nat} (hi : i < v.length) (hj : j < v.length) (hB : B (v.getD i 0) ≤ 1) (h : v.getD i 0 = v.getD j 0) : i = j := by
  have := hf (v.getD i 0)
  rcases Nat.lt_trichotomy i j with h1 | h1 | h1
  · have := two_count h1 hj rfl h.symm
    omega
  · exact h1
  · have := two_count h1 hi h.symm rfl
    omega
theorem rot_is {i k n : Nat} (hi : i < n) : (i + k) % n = if i + k % n < n then i + k % n else i + k % n - n := by
  have hk := Nat.mod_lt k (show 0 < n by omega)
  rw [Nat.add_mod, Nat.mod_eq_of_lt hi]
  split
  · rename_i h
    exact Nat.mod_eq_of_lt h
  · rename_i h
    rw [Nat.mod_eq_sub_mod (by omega), Nat.mod_eq_of_lt (by omega)]
theorem rot_inj {i j k n : Nat} (hi : i < n) (hj : j < n) (h : (i + k) % n = (j + k) % n) : i = j := by
  rw [rot_is hi, rot_is hj] at h
  have hk := Nat.mod_lt k (show 0 < n by omega)
  split at h <;> split at h <;> omega
theorem map_fit {n : Nat} {f : Nat → Nat} {B : Nat → Nat} (hB : ∀ r, r < n → 1 ≤ B r) (hf : ∀ i, i < n → f i < n) (inj : ∀ i j, i < n → j < n → f i = f j → i = j) : Fit B ((List.range n).map f) := by
  intro r
  have nd : ((List.range n).map f).Nodup := by
    refine List.pairwise_map.mpr (List.Pairwise.imp_of_mem (fun {a b} ha hb hne h => ?_) List.nodup_range)
    exact hne (inj a b (List.mem_range.mp ha) (List.mem_range.mp hb) h)
  have h1 := List.nodup_iff_count.mp nd r
  by_cases hr : r < n
  · exact Nat.le_trans h1 (hB r hr)
  · have : ((List.range n).map f).count r = 0 := List.count_eq_zero.mpr fun hm => by
      obtain ⟨i, hi, e⟩ := List.mem_map.mp hm
      have := hf i (List.mem_range.mp hi)
      omega
    omega
/-- where everybody's next room is worth as much and one person's a bit more, all move on -/
theorem all_move {n s lucky : Nat} {beds : List Int} {worths : List (List Int)} {way : List Nat} {c : Nat → Int} (hn : 2 ≤ n) (hl : way.length = n) (hlu : lucky < n) (hb : ∀ r, bF beds r = if r < n then 1 else 0)
    (own : ∀ i, i < n → wF worths i ((i + s) % n) = c i) (nxt : ∀ i, i < n → wF worths i ((i + 1 + s) % n) = c i + (if i = lucky then 1 else 0))
    (oth : ∀ i r, i < n → r < n → r ≠ (i + s) % n → r ≠ (i + 1 + s) % n → wF worths i r ≤ c i - 1) (hf : Fit (bF beds) way) (ho : Opt beds worths way) : ∀ i, i < n → way.getD i 0 = (i + 1 + s) % n := by
  have hlt : ∀ i, i < n → way.getD i 0 < n := fun i hi => by
    have h0 : way.getD i 0 ∈ way := by
      rw [List.getD_eq_getElem?_getD, List.getElem?_eq_getElem (show i < way.length by omega)]
      exact List.getElem_mem _
    have h1 := List.count_pos_iff.mpr h0
    have h2 := hf (way.getD i 0)
    rw [hb] at h2
    split at h2 <;> omega
  have hle : ∀ i, i < n → wF worths i (way.getD i 0) ≤ c i + (if i = lucky then 1 else 0) := fun i hi => by
    by_cases h1 : way.getD i 0 = (i + s) % n
    · rw [h1, own i hi]; split <;> omega
    · by_cases h2 : way.getD i 0 = (i + 1 + s) % n
      · rw [h2, nxt i hi]; omega
      · have := oth i _ hi (hlt i hi) h1 h2
        split <;> omega
  have hv := ho ((List.range n).map fun i => (i + 1 + s) % n) (by simp [hl]) (map_fit (fun r hr => by rw [hb, if_pos hr]; exact Nat.le_refl 1) (fun i hi => Nat.mod_lt _ (by omega)) fun i j hi hj h => by
    rw [Nat.add_assoc, Nat.add_assoc] at h
    exact rot_inj hi hj h)
  have hs : ((List.range n).map fun i => c i + (if i = lucky then 1 else 0)).sum ≤ ((List.range n).map fun i => wF worths i (way.getD i 0)).sum := by
    have e1 : wsum (wF worths) ((List.range n).map fun i => (i + 1 + s) % n) = ((List.range n).map fun i => c i + (if i = lucky then 1 else 0)).sum := by
      unfold wsum
      rw [List.length_map, List.length_range]
      congr 1
      refine List.map_congr_left fun i hi => ?_
      have hi := List.mem_range.mp hi
      have : ((List.range n).map fun i => (i + 1 + s) % n).getD i 0 = (i + 1 + s) % n := by simp [hi]
      rw [this, nxt i hi]
    rw [← e1]
    unfold wsum at hv ⊢
    rw [hl] at hv
    exact hv
  have eq := sum_meet hle hs
  have hown : ∀ i, i < n → (i + s) % n ≠ (i + 1 + s) % n := fun i hi h => by
    rw [rot_is hi, show i + 1 + s = i + (1 + s) by omega, rot_is hi, Nat.add_mod 1 s n, Nat.mod_eq_of_lt (show 1 < n by omega)] at h
    have hk := Nat.mod_lt s (show 0 < n by omega)
    have e : (1 + s % n) % n = if 1 + s % n < n then 1 + s % n else 0 := by
      split
      · rename_i h; exact Nat.mod_eq_of_lt h
      · rename_i h
        have : 1 + s % n = n := by omega
        rw [this, Nat.mod_self]
    rw [e] at h
    split at h <;> split at h <;> split at h <;> omega
  have two : ∀ i, i < n → way.getD i 0 = (i + s) % n ∧ i ≠ lucky ∨ way.getD i 0 = (i + 1 + s) % n := fun i hi => by
    have e := eq i hi
    by_cases h2 : way.getD i 0 = (i + 1 + s) % n
    · exact .inr h2
    · by_cases h1 : way.getD i 0 = (i + s) % n
      · refine .inl ⟨h1, fun z => ?_⟩
        rw [h1, own i hi, if_pos z] at e
        omega
      · have := oth i _ hi (hlt i hi) h1 h2
        split at e <;> omega
  have chain : ∀ k, k < n → way.getD ((lucky + k) % n) 0 = ((lucky + k) % n + 1 + s) % n := fun k => by
    induction k with
    | zero =>
      intro _
      rw [Nat.add_zero, Nat.mod_eq_of_lt hlu]
      rcases two lucky hlu with ⟨_, h⟩ | h
      · exact absurd rfl h
      · exact h
    | succ k ih =>
      intro hk
      have ih := ih (by omega)
      have hp := Nat.mod_lt (lucky + k) (show 0 < n by omega)
      have hp' := Nat.mod_lt (lucky + (k + 1)) (show 0 < n by omega)
      rcases two _ hp' with ⟨h, _⟩ | h
      · exfalso
        have e : ((lucky + (k + 1)) % n + s) % n = ((lucky + k) % n + 1 + s) % n := by
          rw [Nat.mod_add_mod, show (lucky + k) % n + 1 + s = (lucky + k) % n + (1 + s) by omega, Nat.mod_add_mod]
          congr 1
          omega
        have ij := fit_one hf (i := (lucky + k) % n) (j := (lucky + (k + 1)) % n) (by omega) (by omega) (by rw [hb]; split <;> omega) (by rw [ih, h, e])
        have : k = k + 1 := by
          have := rot_inj (i := k) (j := k + 1) (k := lucky) (n := n) (by omega) hk (by rw [Nat.add_comm k, Nat.add_comm (k + 1)]; exact ij)
          exact this
        omega
      · exact h
  intro i hi
  have e : (lucky + (i + (n - lucky)) % n) % n = i := by
    rw [Nat.add_mod_mod, show lucky + (i + (n - lucky)) = i + n by omega, Nat.add_mod_right, Nat.mod_eq_of_lt hi]
  have := chain ((i + (n - lucky)) % n) (Nat.mod_lt _ (by omega))
  rw [e] at this
  exact this
end BW

set_option Elab.async false
set_option linter.all false
set_option maxRecDepth 100000
set_option maxHeartbeats 4000000
namespace BW
open L2
theorem filt_ix {α : Type} (d : α) (P : α → Bool) : ∀ ps : List α, ((List.range ps.length).filter fun i => P (ps.getD i d)).length = (ps.filter P).length := by
  intro ps
  have e : ps = (List.range ps.length).map fun i => ps.getD i d := by
    refine List.ext_getElem (by simp) fun i h1 h2 => ?_
    simp [h1]
  conv => rhs; rw [e, List.filter_map, List.length_map]
  rfl
theorem two_out {n a b : Nat} {P : Nat → Bool} (ha : a < n) (hb : b < n) (hne : a ≠ b) (h1 : P a = false) (h2 : P b = false) : ((List.range n).filter P).length + 2 ≤ n := by
  have e := List.length_eq_countP_add_countP (p := P) (l := List.range n)
  rw [List.length_range, List.countP_eq_length_filter, List.countP_eq_length_filter] at e
  have m1 : a ∈ (List.range n).filter fun x => decide ¬ P x = true := List.mem_filter.mpr ⟨List.mem_range.mpr ha, by simp [h1]⟩
  have m2 : b ∈ (List.range n).filter fun x => decide ¬ P x = true := List.mem_filter.mpr ⟨List.mem_range.mpr hb, by simp [h2]⟩
  have l2 : 2 ≤ ((List.range n).filter fun x => decide ¬ P x = true).length := by
    generalize (List.range n).filter (fun x => decide ¬ P x = true) = l at *
    match l with
    | [] => cases m1
    | [x] =>
      have z1 : a = x := by simpa using m1
      have z2 : b = x := by simpa using m2
      omega
    | x :: y :: r => simp
  omega
def inP (p : Nat × Nat) (r : Nat) : Bool := r == p.1 || r == p.2
/-- what is asked of the lists, the rooms had, the beds and a way that lets eight stay -/
def okR (L : List (Nat × Nat)) (hd : List (Option Nat)) (bd g : List Nat) : Bool :=
  (List.range 10).all (fun i => inP (L.getD i (0, 0)) (g.getD i 0)) && (List.range 10).all (fun i => decide (g.getD i 0 < bd.length)) &&
  (List.range bd.length).all (fun r => decide (((List.range 10).filter fun i => g.getD i 0 == r).length ≤ bd.getD r 0)) &&
  ((List.range 10).filter fun i => decide (hd.getD i none = some (g.getD i 0))).length == 8 && decide (hd.getD 1 none = none) && decide (hd.getD 0 none = some 0) && decide (hd.getD 2 none = some 2) &&
  decide (bd.getD 0 0 = 1) && decide (bd.getD 2 0 = 1) && decide (2 < bd.length) && decide (L.getD 1 (0, 0) = (0, 2)) && (List.range 10).all (fun i => (hd.getD i none).all fun r => decide (r < bd.length))
theorem row_moves {L : List (Nat × Nat)} {hd : List (Option Nat)} {bd g order rooms : List Nat} {c : Nat → Int} {pen : Nat → Nat → Int} {beds : List Int} {worths : List (List Int)} {old : List (Option Int)} {way : List Nat} (hok : okR L hd bd g = true)
    (ord : order.Perm (List.range 10)) (rms : rooms.Perm (List.range bd.length)) (hb : ∀ q, bF beds q = if q < bd.length then bd.getD (rooms.getD q 0) 0 else 0)
    (hw : ∀ j q, j < 10 → q < bd.length → wF worths j q = c j - (if inP (L.getD (order.getD j 0) (0, 0)) (rooms.getD q 0) = true then 0 else pen j q)) (hpen : ∀ j q, 1 ≤ pen j q)
    (hold : ∀ j, j < 10 → old.getD j none = (hd.getD (order.getD j 0) none).map fun r => ((rooms.idxOf r : Nat) : Int)) (hl : way.length = 10) (hf : Fit (bF beds) way) (ho : Opt beds worths way)
    (hk : ∀ u : List Nat, u.length = way.length → Fit (bF beds) u → wsum (wF worths) way ≤ wsum (wF worths) u → keepsN old u ≤ keepsN old way) :
    (∀ j, j < 10 → inP (L.getD (order.getD j 0) (0, 0)) (rooms.getD (way.getD j 0) 0) = true) ∧ keepsN old way = 8 := by
  unfold okR at hok
  simp only [Bool.and_eq_true, decide_eq_true_eq, List.all_eq_true, List.mem_range, beq_iff_eq] at hok
  obtain ⟨⟨⟨⟨⟨⟨⟨⟨⟨⟨⟨k1, k2⟩, k3⟩, k4⟩, k5⟩, k6⟩, k7⟩, k8⟩, k9⟩, k10⟩, k11⟩, k12⟩ := hok
  have lo : order.length = 10 := by rw [ord.length_eq, List.length_range]
  have lr : rooms.length = bd.length := by rw [rms.length_eq, List.length_range]
  have o1 : ∀ j, j < 10 → order.getD j 0 < 10 := fun j hj => by
    have : order.getD j 0 ∈ order := by
      rw [List.getD_eq_getElem?_getD, List.getElem?_eq_getElem (by omega)]
      exact List.getElem_mem _
    exact List.mem_range.mp (ord.mem_iff.mp this)
  have o2 : ∀ i, i < 10 → ∃ j, j < 10 ∧ order.getD j 0 = i := fun i hi => by
    obtain ⟨j, hj, e⟩ := List.mem_iff_getElem.mp (ord.mem_iff.mpr (List.mem_range.mpr hi))
    exact ⟨j, by omega, by rw [List.getD_eq_getElem?_getD, List.getElem?_eq_getElem hj, e]; rfl⟩
  have nd : rooms.Nodup := rms.nodup_iff.mpr List.nodup_range
  have ix1 : ∀ r, r < bd.length → rooms.idxOf r < bd.length ∧ rooms.getD (rooms.idxOf r) 0 = r := fun r hr => by
    have hm : r ∈ rooms := rms.mem_iff.mpr (List.mem_range.mpr hr)
    have hi := List.idxOf_lt_length_iff.mpr hm
    refine ⟨by omega, ?_⟩
    rw [List.getD_eq_getElem?_getD, List.getElem?_eq_getElem hi, List.getElem_idxOf hi]
    rfl
  have ix2 : ∀ q, q < bd.length → rooms.idxOf (rooms.getD q 0) = q := fun q hq => by
    rw [List.getD_eq_getElem?_getD, List.getElem?_eq_getElem (by omega)]
    exact nd.idxOf_getElem q (by omega)
  have hq : ∀ j, j < 10 → way.getD j 0 < bd.length := fun j hj => by
    have h0 : way.getD j 0 ∈ way := by
      rw [List.getD_eq_getElem?_getD, List.getElem?_eq_getElem (show j < way.length by omega)]
      exact List.getElem_mem _
    have h1 := List.count_pos_iff.mpr h0
    have h2 := hf (way.getD j 0)
    rw [hb] at h2
    split at h2 <;> omega
  have hvd : ∀ j, j < 10 → (order.map fun i => rooms.idxOf (g.getD i 0)).getD j 0 = rooms.idxOf (g.getD (order.getD j 0) 0) := fun j hj => by
    simp [show j < order.length by omega]
  have hvf : Fit (bF beds) (order.map fun i => rooms.idxOf (g.getD i 0)) := fun q => by
    have e := (ord.map fun i => rooms.idxOf (g.getD i 0)).count_eq q
    rw [e, hb, List.count_eq_countP, List.countP_map, List.countP_eq_length_filter]
    by_cases h : q < bd.length
    · rw [if_pos h]
      refine Nat.le_trans (Nat.le_of_eq ?_) (k3 _ (by
        have : rooms.getD q 0 ∈ rooms := by
          rw [List.getD_eq_getElem?_getD, List.getElem?_eq_getElem (by omega)]
          exact List.getElem_mem _
        exact List.mem_range.mp (rms.mem_iff.mp this)))
      congr 1
      refine List.filter_congr fun i hi => ?_
      have hg := k2 i (List.mem_range.mp hi)
      show (rooms.idxOf (g.getD i 0) == q) = (g.getD i 0 == rooms.getD q 0)
      by_cases e1 : g.getD i 0 = rooms.getD q 0
      · rw [e1, ix2 q h]
        simp
      · have : rooms.idxOf (g.getD i 0) ≠ q := fun z => e1 (by rw [← (ix1 _ hg).2, z])
        rw [beq_eq_false_iff_ne.mpr this, beq_eq_false_iff_ne.mpr e1]
    · rw [if_neg h]
      refine Nat.le_of_eq (List.length_eq_zero_iff.mpr (List.filter_eq_nil_iff.mpr fun i hi => ?_))
      have := (ix1 _ (k2 i (List.mem_range.mp hi))).1
      show ¬ (rooms.idxOf (g.getD i 0) == q) = true
      simp only [beq_iff_eq]
      omega
  have hvl : (order.map fun i => rooms.idxOf (g.getD i 0)).length = way.length := by rw [List.length_map, lo, hl]
  have hle : ∀ j, j < 10 → wF worths j (way.getD j 0) ≤ c j := fun j hj => by
    rw [hw j _ hj (hq j hj)]
    have := hpen j (way.getD j 0)
    split <;> omega
  have ev : wsum (wF worths) (order.map fun i => rooms.idxOf (g.getD i 0)) = ((List.range 10).map c).sum := by
    unfold wsum
    rw [List.length_map, lo]
    congr 1
    refine List.map_congr_left fun j hj => ?_
    have hj := List.mem_range.mp hj
    have x := ix1 _ (k2 _ (o1 j hj))
    rw [hvd j hj, hw j _ hj x.1, x.2, if_pos (k1 _ (o1 j hj))]
    omega
  have hv := ho _ hvl hvf
  have ew : wsum (wF worths) way = ((List.range 10).map fun j => wF worths j (way.getD j 0)).sum := by unfold wsum; rw [hl]
  have eq := sum_meet hle (by rw [← ev, ← ew]; exact hv)
  have hin : ∀ j, j < 10 → inP (L.getD (order.getD j 0) (0, 0)) (rooms.getD (way.getD j 0) 0) = true := fun j hj => by
    have e := eq j hj
    rw [hw j _ hj (hq j hj)] at e
    have := hpen j (way.getD j 0)
    split at e
    · assumption
    · omega
  refine ⟨hin, ?_⟩
  have same : wsum (wF worths) way = wsum (wF worths) (order.map fun i => rooms.idxOf (g.getD i 0)) := by
    rw [ev, ew]
    congr 1
    exact List.map_congr_left fun j hj => eq j (List.mem_range.mp hj)
  have h8 := hk _ hvl hvf (Int.le_of_eq same)
  have e8 : keepsN old (order.map fun i => rooms.idxOf (g.getD i 0)) = 8 := by
    unfold keepsN
    have ef := filt_ix 0 (fun i => decide (hd.getD i none = some (g.getD i 0))) order
    rw [← k4, List.length_map, lo, ← (ord.filter fun i => decide (hd.getD i none = some (g.getD i 0))).length_eq, ← ef, lo]
    congr 1
    refine List.filter_congr fun j hj => ?_
    have hj := List.mem_range.mp hj
    rw [hvd j hj, hold j hj]
    refine decide_eq_decide.mpr ⟨fun e => ?_, fun e => by rw [e]; rfl⟩
    have h12 := k12 _ (o1 j hj)
    cases hh : hd.getD (order.getD j 0) none with
    | none => rw [hh] at e; cases e
    | some r =>
      rw [hh] at e h12
      have hr : r < bd.length := by simpa using h12
      have e' : rooms.idxOf r = rooms.idxOf (g.getD (order.getD j 0) 0) := Int.ofNat.inj (Option.some.inj e)
      rw [← (ix1 r hr).2, e', (ix1 _ (k2 _ (o1 j hj))).2]
  obtain ⟨j0, hj0, e0⟩ := o2 0 (by decide)
  obtain ⟨j1, hj1, e1⟩ := o2 1 (by decide)
  obtain ⟨j2, hj2, e2⟩ := o2 2 (by decide)
  have n1 : old.getD j1 none = none := by rw [hold j1 hj1, e1, k5]; rfl
  have hup : keepsN old way + 2 ≤ 10 := by
    unfold keepsN
    rw [hl]
    by_cases p0 : old.getD j0 none = some ((way.getD j0 0 : Nat) : Int)
    · by_cases p2 : old.getD j2 none = some ((way.getD j2 0 : Nat) : Int)
      · exfalso
        rw [hold j0 hj0, e0, k6] at p0
        rw [hold j2 hj2, e2, k7] at p2
        have w0 : rooms.idxOf 0 = way.getD j0 0 := Int.ofNat.inj (Option.some.inj p0)
        have w2 : rooms.idxOf 2 = way.getD j2 0 := Int.ofNat.inj (Option.some.inj p2)
        have h1 := hin j1 hj1
        rw [e1, k11] at h1
        have r1 := ix2 _ (hq j1 hj1)
        unfold inP at h1
        simp only [Bool.or_eq_true, beq_iff_eq] at h1
        rcases h1 with h1 | h1
        · rw [h1, w0] at r1
          have := fit_one hf (i := j0) (j := j1) (by omega) (by omega) (by rw [hb, if_pos (hq j0 hj0), ← w0, (ix1 0 (by omega)).2, k8]; exact Nat.le_refl 1) r1
          rw [← this, e0] at e1
          cases e1
        · rw [h1, w2] at r1
          have := fit_one hf (i := j2) (j := j1) (by omega) (by omega) (by rw [hb, if_pos (hq j2 hj2), ← w2, (ix1 2 k10).2, k9]; exact Nat.le_refl 1) r1
          rw [← this, e2] at e1
          cases e1
      · exact two_out hj1 hj2 (fun z => by rw [z, e2] at e1; cases e1) (decide_eq_false (by rw [n1]; simp)) (decide_eq_false p2)
    · exact two_out hj1 hj0 (fun z => by rw [z, e0] at e1; cases e1) (decide_eq_false (by rw [n1]; simp)) (decide_eq_false p0)
  omega
end BW

set_option Elab.async false
set_option linter.all false
set_option maxRecDepth 100000
set_option maxHeartbeats 4000000
/-! any(a list of truths), list(range(n)), list.index of a number -/
namespace L2
open PySem PySem.Spec PyProof.Rows BW
section
variable {X : Cx} {K : PySem.W.Frag}
def rAny (K : PySem.W.Frag) : List V → Hp → VK → Prop := fun xs H Q => ∃ (a : Addr) (bs : List Bool), xs = [.ref a] ∧ SqL K H a (bs.map V.bl) ∧ Q (.bl (bs.any id)) H
theorem range_any (bs : List Bool) : (List.range bs.length).any (fun i => bs.getD i false) = bs.any id := by
  rw [Bool.eq_iff_iff, List.any_eq_true, List.any_eq_true]
  constructor
  · rintro ⟨i, hi, h⟩
    have hi' := List.mem_range.mp hi
    exact ⟨bs[i], List.getElem_mem hi', by simpa [hi'] using h⟩
  · rintro ⟨b, hb, h⟩
    obtain ⟨i, hi, rfl⟩ := List.mem_iff_getElem.mp hb
    exact ⟨i, List.mem_range.mpr hi, by simpa [hi] using h⟩
theorem call_anyK (hK : X.K = K) (hc : X.calm = true) : CallR X (.builtin "any") (rAny K) := by
  subst hK
  intro pins s σ H xs us Q I r h
  obtain ⟨a, bs, rfl, hq, q⟩ := h
  obtain ⟨u, rfl, rx⟩ := vals1 r
  cases rx
  obtain ⟨its, rv, pl, hz⟩ := I.list hq
  have hl := rv.length
  have ha : a < s.heap.objs.size := by
    obtain ⟨o, n, e, _⟩ := pl
    exact Heap.lt_size e
  have hhd : X.A.in1.handled = none := I.ok.hd hc
  refine call_any_walkS (wpAny_pyIter_list pl.isList ?_)
  refine ⟨s.heap.objs.size, _, _, _, its.toArray.size, _, _, fun i => bs.getD i false, rfl, (Walks.list hhd s.heap.objs.size a (Nat.ne_of_lt ha) its.toArray).toS, ⟨⟨_, Heap.get?_push_size _ rfl, rfl, rfl⟩, pl.isList.push _⟩, ?_, ?_⟩
  · intro i v s1 Q1 E1 hv hQ
    have hv' : its[i]? = some v := by simpa using hv
    have hi : i < bs.length := by
      have := (List.getElem?_eq_some_iff.mp hv').1
      simp at hl
      omega
    obtain ⟨u, h1, h2⟩ := rv.get (i := i) (x := .bl bs[i]) (by simp [hi])
    rw [hv'] at h1
    cases h1
    have h2' : v = Value.bool bs[i] := h2
    subst h2'
    refine wpAny_truthy_bool ?_
    have e : bs.getD i false = bs[i] := by simp [hi]
    rw [← e]
    exact hQ
  · intro s' m
    refine ⟨.bl (bs.any id), H, I.moved m, ?_, q⟩
    have e : its.toArray.size = bs.length := by
      rw [List.size_toArray, ← hl]; simp
    rw [e, range_any]
    rfl
/-! list(range(e)) -/
def tListRange (t : TE) : TE := fun σ H Q => t σ H fun x H1 => ∃ n : Nat, x = .int n ∧ n ≤ 1000 ∧ ∀ l H', New H1 l (.lst ((List.range n).map fun (i : Nat) => V.int (i : Int))) H' → Q (.ref l) H'
theorem pe_listRange {e : Expr} {t : TE} {p p' pos pos' : Pos} (hc : X.calm = true) (hgl : Gl X "list") (hml : X.mg "list" = none) (hgr : Gl X "range") (hmr : X.mg "range" = none) (ha : PE X e t)
    (he : starEach [e] X.env = (false, eval e X.env) :: starEach [] X.env := by rfl) : PE X (.Call (.Name "list" p) [.Call (.Name "range" p') [e] [] pos'] [] pos) (tListRange t) := by
  intro pins s σ H Q I h
  refine wpAny_Call_Name_kw (ld_blt I hgl hml boot_list' ?_ (by decide) (by decide))
  refine PyProof.Rows.callWith_type1 ?_ rfl rfl
  show wpAny _ _ (spliced ((false, eval _ X.env) :: backTo pos (starEach [] X.env))) _ _ s
  refine Calls.spliced_cons ?_
  refine wpAny_Call_Name_kw (ld_blt I hgr hmr boot_range ?_ (by decide) (by decide))
  refine PyProof.Rows.callWith_type1 ?_ he rfl
  rw [he]
  show wpAny _ _ (spliced ((false, eval e X.env) :: backTo pos' (starEach [] X.env))) _ _ s
  refine Calls.spliced_cons (thn (ha pins s σ H _ I h) fun u s1 ⟨x, H1, I1, r1, n, e1, h1, q1⟩ => ?_)
  subst e1
  obtain ⟨tk, rfl⟩ := r1
  refine Calls.spliced_nil (call_range_1 (Calls.spliced_nil ?_))
  have hs : Builtin.Range.rangeSize 0 (n : Int) 1 = n := by
    unfold Builtin.Range.rangeSize
    simp only [show (1 : Int) > 0 by decide, if_true]
    split <;> omega
  refine call_list_range (a := 0) (b := (n : Int)) (c := 1) (n := n) (I1.ok.hd hc) (IsRange.new _ _ _ _ _ _ _) ?_ hs (by omega) fun h' tk' acc' c' hk hS hacc => ?_
  · unfold Builtin.Range.small
    rw [hs]
    have f : ∀ z : Int, 0 ≤ z → z ≤ 1000 → Builtin.Range.rangeFitsLong z = true := fun z h0 h1 => by
      unfold Builtin.Range.rangeFitsLong
      simp
      omega
    rw [f 0 (by omega) (by omega), f (n : Int) (by omega) (by omega), f 1 (by omega) (by omega)]
    simp only [show (1 : Int) > 0 by decide, if_true]
    rw [show ((n : Int) + (1 - 1)) = (n : Int) by omega, f (n : Int) (by omega) (by omega)]
    simp
  have hp : s1.heap.objs.size ≤ (s1.heap.push { cls := .type "range", data := .fields #[.int 0 s1.toks, .int (n : Int) tk, .int 1 (s1.toks + 1)] }).objs.size := by rw [Heap.size_push]; exact Nat.le_succ _
  have hv : Vals ((List.range n).map fun (i : Nat) => V.int (i : Int)) acc'.toList := by
    have key : ∀ (us : List Value) (k : Nat), (∀ (i : Nat) u, us[i]? = some u → ∃ t, u = Value.int ((k + i : Nat) : Int) t) → Vals ((List.range' k us.length).map fun (i : Nat) => V.int (i : Int)) us := by
      intro us
      induction us with
      | nil => intro k _; exact .nil
      | cons u r ih =>
        intro k h
        obtain ⟨t, e⟩ := h 0 u rfl
        refine .cons ⟨t, e⟩ (ih (k + 1) fun i v hv => ?_)
        obtain ⟨t, e⟩ := h (i + 1) v (by simpa using hv)
        exact ⟨t, by rw [e]; congr 2; omega⟩
    have := key acc'.toList 0 fun i u hu => by
      obtain ⟨t, e⟩ := hacc.2 i u (by simpa using hu)
      exact ⟨t, by rw [e]; congr 1; omega⟩
    rw [Array.length_toList, hacc.1, ← List.range_eq_range'] at this
    exact this
  exact ⟨.ref _, _, I1.laid (t' := tk') (o := .lst ((List.range n).map fun (i : Nat) => V.int (i : Int))) (fun b u z => hk b u (Heap.get?_push_of_some _ z)) hp ⟨by rw [List.length_map, List.length_range, sizeLine_eq]; omega, acc'.toList, c', hv, by rw [Array.toArray_toList]; exact hS⟩, rfl, q1 _ _ (new_upd (I1.hok.fresh hp))⟩
/-! list.index of a number that is there -/
def rIndexL (K : PySem.W.Frag) : V → List V → Hp → VK → Prop := fun x xs H Q => ∃ (a : Addr) (ns : List Int) (k : Int), x = .ref a ∧ xs = [.int k] ∧ H a = some (.lst (ns.map V.int)) ∧ k ∈ ns ∧ Q (.int ((ns.idxOf k : Nat) : Int)) H
theorem mt_indexL : MtR X "list.index" (rIndexL K) := by
  intro pins s σ H x xs v us Q I rx r h
  obtain ⟨a, ns, k, rfl, rfl, ha, hm, q⟩ := h
  cases rx
  obtain ⟨u, rfl, t, rfl⟩ := vals1 r
  obtain ⟨z, its, n, rv, hl, e⟩ := I.lstM ha
  have hlen : its.length = ns.length := by have := rv.length; simpa using this.symm
  have hi := List.idxOf_lt_length_iff.mpr hm
  have hia := numsAre rv
  have item : ∀ (j : Nat) (hj : j < ns.length), ∃ t, its.toArray[j]'(by simp; omega) = Value.int ns[j] t := fun j hj => by
    obtain ⟨u, hu, t, hut⟩ := rv.get (i := j) (x := .int ns[j]) (by simp [hj])
    refine ⟨t, ?_⟩
    rw [← hut]
    have := (List.getElem?_eq_some_iff.mp hu).2
    simpa using this
  refine call_meets PySem.F.slot_list_index ⟨_, e, rfl⟩ PySem.F.entry_list_index (PySem.F.args_list_index_2 _ _)
    (MeetsSeq.list_index a its.toArray n (.int k t) (Value.isInt k) (fun y hy => ?_) (ns.idxOf k) (by simp; omega) (by rw [sizeLine_eq] at z; rw [List.length_map] at z; omega) ?_ fun m hm2 hlt => ?_) ⟨e, ?_⟩
  · obtain ⟨b, t', rfl⟩ := hia.all y (by simpa using hy)
    exact MeetsSeq.EqGives.int b k t' t
  · obtain ⟨t', h⟩ := item _ hi
    rw [h, List.getElem_idxOf hi]
    simp [Value.isInt]
  · obtain ⟨t', h⟩ := item m (by simp at hm2; omega)
    rw [h]
    have := List.not_of_lt_findIdx (p := (· == k)) (xs := ns) (i := m) hlt
    simpa [Value.isInt] using this
  · exact ⟨.int _, H, I.tok _, ⟨_, rfl⟩, q⟩
end
end L2

set_option Elab.async false
set_option linter.all false
set_option maxRecDepth 100000
set_option maxHeartbeats 4000000
/-! specs of law k72 -/
namespace L2
open PySem PySem.Spec PyProof.Rows BW
def sp_kept2 (K : PySem.W.Frag) (C PT : Addr) (lpos : Pos) (qual : Str) : Sp := fun vs H Q _ => ∃ (p a : Addr) (beds : List Int) (worths : List (List Int)) (rent : Int) (old : List (Option Int)), vs = [.ref p, .ref a] ∧ HouseAt C H p beds worths rent ∧ BestOk beds worths ∧
  (∀ row ∈ worths, ∀ x ∈ row, -(10 ^ 42) < x ∧ x < 10 ^ 42) ∧ SqL K H a (old.map oV) ∧ old.length = worths.length ∧ (worths.length : Int) ≤ beds.sum ∧ (∀ b ∈ beds, 0 ≤ b) ∧ LamAt H PT lpos qual ∧
  ∀ (l : Addr) (way : List Nat) (H' : Hp), SameB H H' → SameO PT H H' → H l = none → H' l = some (.lst ((wI way).map V.int)) → LamAt H' PT lpos qual → way.length = worths.length → Fit (bF beds) way → Opt beds worths way →
    (∀ v : List Nat, v.length = way.length → Fit (bF beds) v → wsum (wF worths) way ≤ wsum (wF worths) v → keepsN old v ≤ keepsN old way) → Q (.ref l) H'
def sp_stays72 (K : PySem.W.Frag) (C PT : Addr) (lpos : Pos) (qual : Str) : Sp := fun vs H Q _ => ∃ (p w o : Addr) (beds : List Int) (worths : List (List Int)) (rent : Int) (old : List (Option Int)) (v : List Nat), vs = [.ref p, .ref w, .ref o, .int (wsum (wF worths) v)] ∧ HouseAt C H p beds worths rent ∧ Mat H w worths ∧ BestOk beds worths ∧
  (∀ row ∈ worths, ∀ x ∈ row, -(10 ^ 41) < x ∧ x < 10 ^ 41) ∧ H o = some (.lst (old.map oV)) ∧ old.length = worths.length ∧ (worths.length : Int) ≤ beds.sum ∧ (∀ b ∈ beds, 0 ≤ b) ∧ LamAt H PT lpos qual ∧ v.length = worths.length ∧ Fit (bF beds) v ∧ Opt beds worths v ∧
  (∀ i, i < v.length → old.getD i none = none ∨ old.getD i none = some ((v.getD i 0 : Nat) : Int)) ∧ ∀ (H' : Hp), SameB H H' → SameO PT H H' → LamAt H' PT lpos qual → Q (.bl true) H'
def sp_allmove72 (K : PySem.W.Frag) (PT : Addr) (lpos : Pos) (qual : Str) : Sp := fun vs H Q _ => ∃ (a : Addr) (ns : List Int), vs = [.ref a] ∧ SqL K H a (ns.map V.int) ∧ LamAt H PT lpos qual ∧ ∀ (H' : Hp), SameB H H' → SameO PT H H' → LamAt H' PT lpos qual → Q (.bl true) H'
def sp_rowmoves72 (K : PySem.W.Frag) (PT : Addr) (lpos : Pos) (qual : Str) (PR : Addr) : Sp := fun vs H Q _ => ∃ (a : Addr) (ns : List Int), vs = [.ref a] ∧ SqL K H a (ns.map V.int) ∧ LamAt H PT lpos qual ∧ H PR = some (.tbl #[]) ∧ PT ≠ PR ∧ ∀ (H' : Hp), SameB H H' → LamAt H' PT lpos qual → Q (.bl true) H'
def sp_halved72 (K : PySem.W.Frag) : Sp := fun vs H Q _ => ∃ (w : Addr) (worths : List (List Int)), vs = [.ref w] ∧ Mat H w worths ∧ worths.length ≤ 10 ∧ (∀ row ∈ worths, row.length ≤ 10) ∧ (∀ row ∈ worths, ∀ x ∈ row, -(10 ^ 40) < x ∧ x < 10 ^ 40) ∧
  ∀ (w' : Addr) (H' : Hp), Same H H' → Mat H' w' (worths.map fun row => row.map fun x => x / 2) → Q (.ref w') H'
def sp_lifted72 (K : PySem.W.Frag) : Sp := fun vs H Q _ => ∃ (a w : Addr) (ns : List Int) (worths : List (List Int)), vs = [.ref a, .ref w] ∧ SqL K H a (ns.map V.int) ∧ Mat H w worths ∧ worths.length ≤ 10 ∧ (∀ row ∈ worths, row.length ≤ 10) ∧ (∀ row ∈ worths, ∀ x ∈ row, -(10 ^ 40) < x ∧ x < 10 ^ 40) ∧
  ∀ (w' : Addr) (st : Nat → Int) (H' : Hp), Same H H' → (∀ i, -(10 ^ 40) ≤ st i ∧ st i < 10 ^ 40) → Mat H' w' ((List.range worths.length).map fun i => (worths.getD i []).map fun x => x + st i) → Q (.ref w') H'
def sp_law72 (K : PySem.W.Frag) (P1 : Addr) (l1 : Pos) (q1 : Str) (P2 : Addr) : Sp := fun vs H Q _ => ∃ (a : Addr) (ns : List Int), vs = [.ref a] ∧ SqL K H a (ns.map V.int) ∧ ns.length ≤ 63 ∧ LamAt H P1 l1 q1 ∧ H P2 = some (.tbl #[]) ∧ ∀ H', Q (.bl true) H'
/-! everybody's next room -/
structure RowOk (N s lu j : Nat) (row : List Int) : Prop where
  len : row.length = N
  ex : ∃ c : Int, (0 ≤ c ∧ c < 10 ^ 39) ∧ row.getD ((j + s) % N) 0 = c ∧ row.getD ((j + 1 + s) % N) 0 = c + (if j = lu then 1 else 0) ∧ ∀ r, r < N → r ≠ (j + s) % N → r ≠ (j + 1 + s) % N → row.getD r 0 ≤ c - 1
  bd : ∀ x ∈ row, -(10 ^ 40) < x ∧ x < 10 ^ 40
theorem next_ne {N s j : Nat} (hN : 2 ≤ N) (hj : j < N) : (j + s) % N ≠ (j + 1 + s) % N := fun h => by
  rw [rot_is hj, show j + 1 + s = j + (1 + s) by omega, rot_is hj, Nat.add_mod 1 s N, Nat.mod_eq_of_lt (show 1 < N by omega)] at h
  have hk := Nat.mod_lt s (show 0 < N by omega)
  have e : (1 + s % N) % N = if 1 + s % N < N then 1 + s % N else 0 := by
    split
    · rename_i h; exact Nat.mod_eq_of_lt h
    · rename_i h
      have : 1 + s % N = N := by omega
      rw [this, Nat.mod_self]
  rw [e] at h
  split at h <;> split at h <;> split at h <;> omega
theorem row_mk {N s lu j : Nat} {c X : Int} (hN : 2 ≤ N) (hj : j < N) (h0 : 0 ≤ c) (h1 : c < 10 ^ 39) (hX : X ≤ c - 1) (hX2 : -(10 ^ 40) < X) :
    RowOk N s lu j (((List.replicate N X).set ((j + s) % N) c).set ((j + 1 + s) % N) (c + (if j = lu then 1 else 0))) := by
  have a1 := Nat.mod_lt (j + s) (show 0 < N by omega)
  have a2 := Nat.mod_lt (j + 1 + s) (show 0 < N by omega)
  have ne := next_ne (s := s) hN hj
  refine ⟨by simp, ⟨c, ⟨h0, h1⟩, ?_, ?_, fun r hr n1 n2 => ?_⟩, fun x hx => ?_⟩
  · rw [List.getD_eq_getElem?_getD, List.getElem?_set_ne ne.symm, List.getElem?_set_self (by simp; exact a1)]
    rfl
  · rw [List.getD_eq_getElem?_getD, List.getElem?_set_self (by simp; exact a2)]
    rfl
  · rw [List.getD_eq_getElem?_getD, List.getElem?_set_ne (Ne.symm n2), List.getElem?_set_ne (Ne.symm n1), List.getElem?_replicate, if_pos hr]
    exact hX
  · rcases List.mem_or_eq_of_mem_set hx with h | h
    · rcases List.mem_or_eq_of_mem_set h with h | h
      · rw [List.eq_of_mem_replicate h]; omega
      · rw [h]; omega
    · rw [h]; split <;> omega
theorem rep_one {α : Type} (x : α) : ∀ n : Nat, (List.replicate n [x]).flatten = List.replicate n x
  | 0 => rfl
  | n + 1 => by rw [List.replicate_succ, List.replicate_succ, List.flatten_cons, rep_one x n]; rfl
theorem sum_ones72 : ∀ n : Nat, (List.replicate n (1 : Int)).sum = n
  | 0 => rfl
  | n + 1 => by rw [List.replicate_succ, List.sum_cons, sum_ones72 n]; omega
theorem bF_ones (n r : Nat) : bF (List.replicate n 1) r = if r < n then 1 else 0 := by
  unfold bF
  rw [List.getD_eq_getElem?_getD, List.getElem?_replicate]
  split <;> rfl
theorem moved_on {N s lu : Nat} {rows : List (List Int)} {way : List Nat} (hN : 2 ≤ N) (hlu : lu < N) (hl : way.length = N) (hrl : rows.length = N) (hr : ∀ j row, rows[j]? = some row → RowOk N s lu j row) (hf : Fit (bF (List.replicate N 1)) way) (ho : Opt (List.replicate N 1) rows way) : wI way = (List.range N).map fun (i : Nat) => (((i + 1 + s) % N : Nat) : Int) := by
  have row : ∀ i, i < N → ∃ row, rows[i]? = some row ∧ RowOk N s lu i row := fun i hi => ⟨rows[i]'(by omega), List.getElem?_eq_getElem _, hr i _ (List.getElem?_eq_getElem (by omega))⟩
  have wf : ∀ i row r, rows[i]? = some row → wF rows i r = row.getD r 0 := fun i row r h => by
    unfold wF
    have : rows.getD i [] = row := by rw [List.getD_eq_getElem?_getD, h]; rfl
    rw [this]
  have key := all_move (n := N) (s := s) (lucky := lu) (beds := List.replicate N 1) (worths := rows) (way := way) (c := fun i => wF rows i ((i + s) % N)) hN hl hlu (bF_ones N) (fun i hi => rfl) (fun i hi => by
      obtain ⟨row, e, ok⟩ := row i hi
      obtain ⟨c, _, h1, h2, _⟩ := ok.ex
      rw [wf i row _ e, wf i row _ e, h1, h2]) (fun i r hi hr n1 n2 => by
      obtain ⟨row, e, ok⟩ := row i hi
      obtain ⟨c, _, h1, _, h3⟩ := ok.ex
      rw [wf i row _ e, wf i row _ e, h1]
      exact h3 r hr n1 n2) hf ho
  refine List.ext_getElem (by simp [wI, hl]) fun i h1 h2 => ?_
  have hi : i < N := by simpa using h2
  have := key i hi
  rw [List.getD_eq_getElem?_getD, List.getElem?_eq_getElem (by omega)] at this
  simp only [wI, List.getElem_map, List.getElem_range]
  rw [← this]
  rfl
theorem ixMat {K : PySem.W.Frag} {H : Hp} {w : Addr} {worths : List (List Int)} {i : Nat} {Q : VK} (hM : Mat H w worths) (hi : i < worths.length) (q : ∀ ra, H ra = some (.lst ((worths.getD i []).map V.int)) → Q (.ref ra) H) : rIx K (.ref w) (.int (0 + (i : Int))) H Q := by
  obtain ⟨ws, hw, hR⟩ := hM
  have hrow : worths[i]? = some (worths.getD i []) := by simp [hi]
  obtain ⟨ra, g1, g2, g3⟩ := hR.at_ hrow
  exact ixL (SqL.of hw) (atI_int i (by omega) g2) (q ra g3)
theorem ixWI {K : PySem.W.Frag} {H : Hp} {f : Addr} {way : List Nat} {i : Nat} {Q : VK} (hf : H f = some (.lst ((wI way).map V.int))) (hi : i < way.length) (q : Q (.int ((way.getD i 0 : Nat) : Int)) H) : rIx K (.ref f) (.int (0 + (i : Int))) H Q := by
  refine ixL (SqL.of hf) (atI_int i (by omega) (v := .int ((way.getD i 0 : Nat) : Int)) ?_) q
  simp [wI, hi]
theorem ixRow {K : PySem.W.Frag} {H : Hp} {ra : Addr} {row : List Int} {r : Nat} {Q : VK} (h : H ra = some (.lst (row.map V.int))) (hr : r < row.length) (q : Q (.int (row.getD r 0)) H) : rIx K (.ref ra) (.int (r : Int)) H Q := by
  refine ixL (SqL.of h) (atI_int r rfl (v := .int (row.getD r 0)) ?_) q
  simp [hr]
theorem ixOld {K : PySem.W.Frag} {H : Hp} {o : Addr} {old : List (Option Int)} {i : Nat} {Q : VK} (h : H o = some (.lst (old.map oV))) (hi : i < old.length) (q : Q (oV (old.getD i none)) H) : rIx K (.ref o) (.int (0 + (i : Int))) H Q :=
  ixL (SqL.of h) (atI_int i (by omega) (oV_at hi)) q
end L2

set_option Elab.async false
set_option linter.all false
set_option maxRecDepth 100000
set_option maxHeartbeats 4000000
/-! the row of people who might move on: its lists, as the law draws them -/
namespace L2
open PySem PySem.Spec PyProof.Rows BW
theorem Prs.append {H : Hp} {as bs : List Addr} {ps qs : List (Int × Int)} (h1 : Prs H as ps) (h2 : Prs H bs qs) : Prs H (as ++ bs) (ps ++ qs) := by
  refine ⟨by simp [h1.1, h2.1], fun i a p g1 g2 => ?_⟩
  by_cases hi : i < as.length
  · rw [List.getElem?_append_left hi] at g1
    rw [List.getElem?_append_left (by rw [← h1.1]; exact hi)] at g2
    exact h1.2 i a p g1 g2
  · rw [List.getElem?_append_right (by omega)] at g1
    rw [List.getElem?_append_right (by rw [← h1.1]; omega), ← h1.1] at g2
    exact h2.2 _ a p g1 g2
theorem Prs.one {H : Hp} {a : Addr} {p : Int × Int} (h : H a = some (.tup [.int p.1, .int p.2])) : Prs H [a] [p] := by
  have := Prs.snoc (as := []) (ps := []) Prs.nil h
  exact this
def iP (p : Nat × Nat) : Int × Int := ((p.1 : Int), (p.2 : Int))
/-- the rooms that are level for each -/
def rowL (row : Nat) : List (Nat × Nat) := [(0, 1), (0, 2)] ++ (List.range (row - 1)).map (fun i => (2 + i, 3 + i)) ++ [(1 + row, 1)] ++ List.replicate (8 - row) (2 + row, 3 + row)
def rowH (row : Nat) : List (Option Nat) := [some 0, none] ++ (List.range row).map (fun i => some (2 + i)) ++ (List.range (8 - row)).map fun k => some (2 + row + k % 2)
def rowB (row : Nat) : List Nat := List.replicate (2 + row) 1 ++ [4, 4]
def rowG (row : Nat) : List Nat := [1, 0] ++ (List.range row).map (fun i => 2 + i) ++ (List.range (8 - row)).map fun k => 2 + row + k % 2
theorem row_ok {row : Nat} (h1 : 2 ≤ row) (h2 : row ≤ 4) : okR (rowL row) (rowH row) (rowB row) (rowG row) = true := by
  have : row = 2 ∨ row = 3 ∨ row = 4 := by omega
  rcases this with rfl | rfl | rfl <;> decide +kernel
theorem row_lens {row : Nat} (h1 : 2 ≤ row) (h2 : row ≤ 4) : (rowL row).length = 10 ∧ (rowH row).length = 10 ∧ (rowB row).length = row + 4 := by
  have : row = 2 ∨ row = 3 ∨ row = 4 := by omega
  rcases this with rfl | rfl | rfl <;> decide +kernel
theorem cast_perm {n : Nat} {zs : List Int} (h : zs.Perm ((List.range n).map fun (i : Nat) => (i : Int))) : ∃ os : List Nat, zs = os.map (fun (i : Nat) => (i : Int)) ∧ os.Perm (List.range n) := by
  refine ⟨zs.map Int.toNat, ?_, ?_⟩
  · rw [List.map_map]
    conv => lhs; rw [← List.map_id zs]
    refine List.map_congr_left fun z hz => ?_
    obtain ⟨i, _, rfl⟩ := List.mem_map.mp (h.mem_iff.mp hz)
    simp
  · have := h.map Int.toNat
    rw [List.map_map] at this
    have e : (List.range n).map (Int.toNat ∘ fun (i : Nat) => (i : Int)) = List.range n := by
      conv => rhs; rw [← List.map_id (List.range n)]
      exact List.map_congr_left fun i _ => by simp
    rw [e] at this
    exact this
def hadV (l : List (Option Nat)) : List V := l.map fun o => oV (o.map fun (r : Nat) => (r : Int))
theorem hadV_app (a b : List (Option Nat)) : hadV (a ++ b) = hadV a ++ hadV b := List.map_append ..
theorem hadV_rng (n k : Nat) : ((List.range n).map fun (i : Nat) => V.int (((k : Nat) : Int) + (0 + (i : Int)))) = hadV ((List.range n).map fun i => some (k + i)) := by
  unfold hadV
  rw [List.map_map]
  refine List.map_congr_left fun i _ => ?_
  show V.int _ = V.int _
  congr 1
  simp
def rowP0 (row : Nat) : List (Nat × Nat) := [(0, 1), (0, 2)] ++ (List.range (row - 1)).map (fun i => (2 + i, 3 + i)) ++ [(1 + row, 1)]
def rowH0 (row : Nat) : List (Option Nat) := [some 0, none] ++ (List.range row).map fun i => some (2 + i)
theorem pairs_of {H : Hp} {as : List Addr} {n : Nat} (hl : as.length = n) (hz : ∀ (i : Nat) t, as[i]? = some t → H t = some (.tup [.int (2 + (0 + (i : Int))), .int (3 + (0 + (i : Int)))])) : Prs H as (((List.range n).map fun i => (2 + i, 3 + i)).map iP) := by
  refine ⟨by simp [hl], fun i a p h1 h2 => ?_⟩
  have hi : i < n := by have := (List.getElem?_eq_some_iff.mp h2).1; simpa using this
  rw [List.map_map, List.getElem?_map, List.getElem?_range hi] at h2
  have e : (((2 + i : Nat) : Int), ((3 + i : Nat) : Int)) = p := Option.some.inj h2
  rw [← e, hz i a h1]
  congr 3
  · congr 1; omega
  · congr 2; omega
theorem Prs.neL {H : Hp} {as : List Addr} {ps : List (Int × Int)} {l : Addr} {xs : List V} (h : Prs H as ps) (hl : H l = some (.lst xs)) : ∀ c ∈ as, c ≠ l := fun c hc e => by
  obtain ⟨i, hi, rfl⟩ := List.mem_iff_getElem.mp hc
  have := h.2 i _ _ (List.getElem?_eq_getElem hi) (List.getElem?_eq_getElem (by rw [← h.1]; exact hi))
  rw [e, hl] at this
  cases this
theorem Prs.sameB {H H' : Hp} {as : List Addr} {ps : List (Int × Int)} (h : Prs H as ps) (s : SameB H H') : Prs H' as ps := ⟨h.1, fun i a p h1 h2 => s.to _ _ (h.2 i a p h1 h2) rfl⟩
theorem rowL_is (R : Nat) : rowP0 R ++ List.replicate (8 - R) (2 + R, 3 + R) = rowL R := rfl
theorem rowH_is (R : Nat) : rowH0 R ++ ((List.range (8 - R)).map fun k => some (2 + R + k % 2)) = rowH R := rfl
/-- who lies where they like, or pays for it -/
structure RowW (R : Nat) (rs : List Nat) (i : Nat) (row : List Int) : Prop where
  len : row.length = R + 4
  ex : ∃ c : Int, (0 ≤ c ∧ c < 10 ^ 39) ∧ ∀ q, q < R + 4 → ∃ p : Int, (1 ≤ p ∧ p ≤ 1000) ∧ row.getD q 0 = c - (if inP ((rowL R).getD i (0, 0)) (rs.getD q 0) = true then 0 else p)
theorem RowW.bd {R : Nat} {rs : List Nat} {i : Nat} {row : List Int} (h : RowW R rs i row) : ∀ x ∈ row, -(10 ^ 40) < x ∧ x < 10 ^ 40 := fun x hx => by
  obtain ⟨q, hq, rfl⟩ := List.mem_iff_getElem.mp hx
  obtain ⟨c, hc, hr⟩ := h.ex
  obtain ⟨p, hp, e⟩ := hr q (by rw [← h.len]; exact hq)
  have e2 : row.getD q 0 = row[q] := by simp [hq]
  rw [← e2, e]
  split <;> omega
def rowO (R : Nat) (rs : List Nat) (i : Nat) : Option Int := ((rowH R).getD i none).map fun r => ((rs.idxOf r : Nat) : Int)
theorem row_end {R : Nat} (h1 : 2 ≤ R) (h2 : R ≤ 4) {os rs : List Nat} (po : os.Perm (List.range 10)) (pr : rs.Perm (List.range (R + 4))) {worths : List (List Int)} (hw : worths.length = 10) (hrow : ∀ j row, worths[j]? = some row → RowW R rs (os.getD j 0) row) {way : List Nat}
    (hl : way.length = 10) (hf : Fit (bF (rs.map fun r => (((rowB R).getD r 0 : Nat) : Int))) way) (ho : Opt (rs.map fun r => (((rowB R).getD r 0 : Nat) : Int)) worths way)
    (hk : ∀ u : List Nat, u.length = way.length → Fit (bF (rs.map fun r => (((rowB R).getD r 0 : Nat) : Int))) u → wsum (wF worths) way ≤ wsum (wF worths) u → keepsN (os.map (rowO R rs)) u ≤ keepsN (os.map (rowO R rs)) way) :
    (∀ j, j < 10 → inP ((rowL R).getD (os.getD j 0) (0, 0)) (rs.getD (way.getD j 0) 0) = true) ∧ keepsN (os.map (rowO R rs)) way = 8 := by
  obtain ⟨ll, lh, lb⟩ := row_lens h1 h2
  have lo : os.length = 10 := by rw [po.length_eq, List.length_range]
  have lr : rs.length = R + 4 := by rw [pr.length_eq, List.length_range]
  have ex : ∀ j, j < 10 → ∃ c : Int, ∃ pen : Nat → Int, (∀ q, 1 ≤ pen q) ∧ ∀ q, q < R + 4 → wF worths j q = c - (if inP ((rowL R).getD (os.getD j 0) (0, 0)) (rs.getD q 0) = true then 0 else pen q) := fun j hj => by
    have e : worths[j]? = some (worths[j]'(by omega)) := List.getElem?_eq_getElem _
    have ok := hrow j _ e
    obtain ⟨c, _, hr⟩ := ok.ex
    refine ⟨c, fun q => if h : q < R + 4 then (hr q h).choose else 1, fun q => ?_, fun q hq => ?_⟩
    · dsimp only
      split
      · rename_i h; exact (hr q h).choose_spec.1.1
      · exact Int.le_refl _
    · simp only [dif_pos hq]
      have := (hr q hq).choose_spec.2
      unfold wF
      have e3 : worths.getD j [] = worths[j]'(by omega) := by rw [List.getD_eq_getElem?_getD, e]; rfl
      rw [e3]
      exact this
  refine row_moves (L := rowL R) (hd := rowH R) (bd := rowB R) (g := rowG R) (order := os) (rooms := rs) (c := fun j => if h : j < 10 then (ex j h).choose else 0) (pen := fun j q => if h : j < 10 then (ex j h).choose_spec.choose q else 1) (row_ok h1 h2) po (by rw [lb]; exact pr) (fun q => ?_) (fun j q hj hq => ?_) (fun j q => ?_) (fun j hj => ?_) hl hf ho hk
  · unfold bF
    rw [lb]
    by_cases hq : q < R + 4
    · rw [if_pos hq, List.getD_eq_getElem?_getD, List.getElem?_map, List.getElem?_eq_getElem (by omega)]
      simp [show q < rs.length by omega]
    · rw [if_neg hq, List.getD_eq_getElem?_getD, List.getElem?_map, List.getElem?_eq_none (by omega)]
      rfl
  · rw [lb] at hq
    simp only [dif_pos hj]
    exact (ex j hj).choose_spec.choose_spec.2 q hq
  · split
    · rename_i h; exact (ex j h).choose_spec.choose_spec.1 q
    · exact Int.le_refl _
  · rw [List.getD_eq_getElem?_getD, List.getElem?_map, List.getElem?_eq_getElem (by omega)]
    unfold rowO
    simp [show j < os.length by omega]
theorem in_two (r : Nat) (p : Nat × Nat) : inV (.int (r : Int)) [.int (iP p).1, .int (iP p).2] = inP p r := by
  unfold inV inP iP
  simp only [List.any_cons, List.any_nil, Bool.or_false]
  have k : ∀ x : Nat, eqV (.int (x : Int)) (.int (r : Int)) = (r == x) := fun x => by
    show _ = _
    by_cases h : r = x
    · subst h
      simp [eqV]
    · have h' : ¬ x = r := fun z => h z.symm
      show ((x : Int) == (r : Int)) = (r == x)
      rw [beq_eq_false_iff_ne.mpr (show (x : Int) ≠ (r : Int) by omega), beq_eq_false_iff_ne.mpr h]
  rw [k, k]
theorem idx_cast (r : Nat) : ∀ rs : List Nat, (rs.map fun (i : Nat) => (i : Int)).idxOf (r : Int) = rs.idxOf r
  | [] => rfl
  | x :: l => by
    rw [List.map_cons, List.idxOf_cons, List.idxOf_cons, idx_cast r l]
    by_cases h : x = r
    · subst h
      simp
    · rw [beq_eq_false_iff_ne.mpr h, beq_eq_false_iff_ne.mpr (show (x : Int) ≠ (r : Int) by omega)]
theorem rowH_lt {R i r : Nat} (h1 : 2 ≤ R) (h2 : R ≤ 4) (h : (rowH R).getD i none = some r) : r < R + 4 := by
  have ha : (rowH R).all (fun o => o.all fun r => decide (r < R + 4)) = true := by
    have : R = 2 ∨ R = 3 ∨ R = 4 := by omega
    rcases this with rfl | rfl | rfl <;> decide +kernel
  have hm : some r ∈ rowH R := by
    rw [List.getD_eq_getElem?_getD] at h
    cases hh : (rowH R)[i]? with
    | none => rw [hh] at h; cases h
    | some o =>
      rw [hh] at h
      have : o = some r := h
      rw [← this]
      exact List.mem_of_getElem? hh
  have := List.all_eq_true.mp ha _ hm
  simpa using this
theorem perm_sumI {xs ys : List Int} (h : xs.Perm ys) : xs.sum = ys.sum := by
  induction h with
  | nil => rfl
  | cons x _ ih => rw [List.sum_cons, List.sum_cons, ih]
  | swap x y l => rw [List.sum_cons, List.sum_cons, List.sum_cons, List.sum_cons]; omega
  | trans _ _ a b => rw [a, b]
theorem rowB_sum {R : Nat} (h1 : 2 ≤ R) (h2 : R ≤ 4) {rs : List Nat} (pr : rs.Perm (List.range (R + 4))) : (rs.map fun r => (((rowB R).getD r 0 : Nat) : Int)).sum = (R : Int) + 10 := by
  rw [perm_sumI (pr.map fun r => (((rowB R).getD r 0 : Nat) : Int))]
  have : R = 2 ∨ R = 3 ∨ R = 4 := by omega
  rcases this with rfl | rfl | rfl <;> decide +kernel
end L2

set_option Elab.async false
set_option linter.all false
set_option maxRecDepth 100000
set_option maxHeartbeats 4000000
/-! law k72: ways turned about; worths lifted -/
namespace L2
open PySem PySem.Spec PyProof.Rows BW
theorem range_turned (n : Nat) : (List.range n).map (fun i => n - 1 - i) = (List.range n).reverse := by
  refine List.ext_getElem (by simp) fun i h1 h2 => ?_
  have hi : i < n := by simpa using h1
  simp [List.getElem_reverse]
theorem wF_turned {worths : List (List Int)} {i : Nat} (hi : i < worths.length) (r : Nat) : wF worths.reverse (worths.length - 1 - i) r = wF worths i r := by
  unfold wF
  congr 1
  rw [List.getD_eq_getElem?_getD, List.getD_eq_getElem?_getD, List.getElem?_reverse (by omega), show worths.length - 1 - (worths.length - 1 - i) = i by omega]
theorem getD_turned {v : List Nat} {i : Nat} (hi : i < v.length) : v.reverse.getD (v.length - 1 - i) 0 = v.getD i 0 := by
  rw [List.getD_eq_getElem?_getD, List.getD_eq_getElem?_getD, List.getElem?_reverse (by omega), show v.length - 1 - (v.length - 1 - i) = i by omega]
theorem wsum_turned {worths : List (List Int)} {v : List Nat} (h : v.length = worths.length) : wsum (wF worths.reverse) v.reverse = wsum (wF worths) v := by
  unfold wsum
  rw [List.length_reverse]
  have p : ((List.range v.length).map fun i => v.length - 1 - i).Perm (List.range v.length) := by rw [range_turned]; exact List.reverse_perm _
  rw [← perm_sumI (p.map fun i => wF worths.reverse i (v.reverse.getD i 0)), List.map_map]
  congr 1
  refine List.map_congr_left fun i hi => ?_
  have hi := List.mem_range.mp hi
  show wF worths.reverse (v.length - 1 - i) (v.reverse.getD (v.length - 1 - i) 0) = _
  rw [getD_turned hi, h, wF_turned (by omega)]
theorem fit_turned {B : Nat → Nat} {v : List Nat} (h : Fit B v) : Fit B v.reverse := fun r => by
  rw [List.count_reverse]
  exact h r
theorem opt_turned {beds : List Int} {worths : List (List Int)} {way : List Nat} (hl : way.length = worths.length) (h : Opt beds worths.reverse way) : Opt beds worths way.reverse := fun v lv fv => by
  rw [List.length_reverse] at lv
  have h1 := h v.reverse (by rw [List.length_reverse]; exact lv) (fit_turned fv)
  rw [wsum_turned (by omega)] at h1
  have h2 := wsum_turned (worths := worths) (v := way.reverse) (by rw [List.length_reverse]; exact hl)
  rw [List.reverse_reverse] at h2
  omega
/-- each one's worths lifted by one number -/
def liftW (worths : List (List Int)) (st : Nat → Int) : List (List Int) := (List.range worths.length).map fun i => (worths.getD i []).map fun x => x + st i
theorem liftW_len (worths : List (List Int)) (st : Nat → Int) : (liftW worths st).length = worths.length := by simp [liftW]
theorem liftW_at {worths : List (List Int)} {st : Nat → Int} {i : Nat} (hi : i < worths.length) : (liftW worths st).getD i [] = (worths.getD i []).map fun x => x + st i := by
  unfold liftW
  rw [List.getD_eq_getElem?_getD, List.getElem?_map, List.getElem?_range hi]
  rfl
theorem liftW_rows {worths : List (List Int)} {st : Nat → Int} {R : Nat} (h : ∀ row ∈ worths, row.length = R) : ∀ row ∈ liftW worths st, row.length = R := fun row hr => by
  obtain ⟨i, hi, rfl⟩ := List.mem_map.mp hr
  rw [List.length_map]
  have hi := List.mem_range.mp hi
  refine h _ ?_
  rw [List.getD_eq_getElem?_getD, List.getElem?_eq_getElem hi]
  exact List.getElem_mem _
theorem liftW_bd {worths : List (List Int)} {st : Nat → Int} (h : ∀ row ∈ worths, ∀ x ∈ row, -(10 ^ 40) < x ∧ x < 10 ^ 40) (hs : ∀ i, -(10 ^ 40) ≤ st i ∧ st i < 10 ^ 40) : ∀ row ∈ liftW worths st, ∀ x ∈ row, -(10 ^ 41) < x ∧ x < 10 ^ 41 := fun row hr x hx => by
  obtain ⟨i, hi, rfl⟩ := List.mem_map.mp hr
  obtain ⟨y, hy, rfl⟩ := List.mem_map.mp hx
  have hi := List.mem_range.mp hi
  have h1 := h (worths.getD i []) (by
    rw [List.getD_eq_getElem?_getD, List.getElem?_eq_getElem hi]
    exact List.getElem_mem _) y hy
  have h2 := hs i
  omega
theorem liftW_wF {worths : List (List Int)} {st : Nat → Int} {R i r : Nat} (h : ∀ row ∈ worths, row.length = R) (hi : i < worths.length) (hr : r < R) : wF (liftW worths st) i r = wF worths i r + st i := by
  unfold wF
  rw [liftW_at hi]
  have hl : (worths.getD i []).length = R := h _ (by
    rw [List.getD_eq_getElem?_getD, List.getElem?_eq_getElem hi]
    exact List.getElem_mem _)
  generalize worths.getD i [] = row at *
  rw [List.getD_eq_getElem?_getD, List.getElem?_map, List.getD_eq_getElem?_getD, List.getElem?_eq_getElem (show r < row.length by omega)]
  rfl
theorem sum_add72 (f g : Nat → Int) : ∀ n : Nat, ((List.range n).map fun i => f i + g i).sum = ((List.range n).map f).sum + ((List.range n).map g).sum
  | 0 => rfl
  | n + 1 => by
    have := sum_add72 f g n
    simp only [List.range_succ, List.map_append, List.sum_append, List.map_cons, List.map_nil, List.sum_cons, List.sum_nil]
    omega
theorem liftW_sum {beds : List Int} {worths : List (List Int)} {st : Nat → Int} {v : List Nat} (h : ∀ row ∈ worths, row.length = beds.length) (hl : v.length = worths.length) (hf : Fit (bF beds) v) : wsum (wF (liftW worths st)) v = wsum (wF worths) v + ((List.range v.length).map st).sum := by
  unfold wsum
  rw [← sum_add72]
  congr 1
  refine List.map_congr_left fun i hi => ?_
  have hi := List.mem_range.mp hi
  exact liftW_wF h (by omega) (fit_lt hf _ (by
    rw [List.getD_eq_getElem?_getD, List.getElem?_eq_getElem hi]
    exact List.getElem_mem _))
theorem opt_lift {beds : List Int} {worths : List (List Int)} {st : Nat → Int} {way : List Nat} (h : ∀ row ∈ worths, row.length = beds.length) (hl : way.length = worths.length) (hf : Fit (bF beds) way) (ho : Opt beds worths way) : Opt beds (liftW worths st) way := fun v lv fv => by
  rw [liftW_sum h (by omega) fv, liftW_sum h hl hf, lv]
  have := ho v lv fv
  omega
/-- halved -/
def halfW (worths : List (List Int)) : List (List Int) := worths.map fun row => row.map fun x => x / 2
theorem halfW_rows {worths : List (List Int)} {R : Nat} (h : ∀ row ∈ worths, row.length = R) : ∀ row ∈ halfW worths, row.length = R := fun row hr => by
  obtain ⟨r, hr', rfl⟩ := List.mem_map.mp hr
  rw [List.length_map]
  exact h r hr'
theorem halfW_bd {worths : List (List Int)} (h : ∀ row ∈ worths, ∀ x ∈ row, -(10 ^ 40) < x ∧ x < 10 ^ 40) : ∀ row ∈ halfW worths, ∀ x ∈ row, -(10 ^ 40) < x ∧ x < 10 ^ 40 := fun row hr x hx => by
  obtain ⟨r, hr', rfl⟩ := List.mem_map.mp hr
  obtain ⟨y, hy, rfl⟩ := List.mem_map.mp hx
  have := h r hr' y hy
  omega
/-- [list(row) for row in rows] -/
theorem comp_copyM {K : PySem.W.Frag} {a D : Addr} {rows : List (List Int)} {te : TE} {σf : St} {H1 : Hp} {Q : VK} (hM : Mat H1 a rows) (hz : rows.length < sizeLine) (hD1 : H1 D = none)
    (hs : ∀ ra (row : List Int) H (N : VK), H ra = some (.lst (row.map V.int)) → (∀ l H', New H l (.lst (row.map V.int)) H' → N (.ref l) H') → te (some (.ref ra) :: σf) H N)
    (hd : ∀ H, Same H1 H → Mat H D rows → Q (.ref D) H) : CompW (Itl K a) D (gName 0) tYes te (none :: σf) (upd H1 D (.lst [])) Q := by
  obtain ⟨ws, hw, hR⟩ := hM
  have lw : (ws.map V.ref).length = rows.length := by rw [List.length_map, hR.1]
  refine comp_list (fun i y H => ∃ l row, y = .ref l ∧ l ≠ D ∧ rows[i]? = some row ∧ H l = some (.lst (row.map V.int))) (SqL.of hw) (by rw [lw]; exact hz) hD1 (fun i y H H' k ⟨l, row, e, ne, h1, h2⟩ => ⟨l, row, e, ne, h1, k l _ ne h2⟩) ?_ ?_
  · rintro i x H9 ys N hx s9 d9 hN
    obtain ⟨ra, ha, rfl⟩ := ref_at hx
    have hi : i < rows.length := by rw [← hR.1]; exact (List.getElem?_eq_some_iff.mp ha).1
    have hrow : rows[i]? = some rows[i] := by simp [hi]
    exact hs ra _ H9 N (s9 _ _ (hR.2 i ra _ ha hrow)) fun l H4 n4 => hN _ _ n4.same ⟨l, _, rfl, (ne_of_none d9 n4.none).symm, hrow, n4.at_⟩
  rintro ys H9 s9 d9 l9 r9
  obtain ⟨ws9, e9, p9⟩ := refs_ex (P := fun i l => ∃ row, rows[i]? = some row ∧ H9 l = some (.lst (row.map V.int))) (fun i y e => by
    obtain ⟨l, row, h1, _, h2, h3⟩ := r9 i y e
    exact ⟨l, h1, row, h2, h3⟩)
  subst e9
  refine hd H9 s9 ⟨ws9, d9, by rw [List.length_map, lw] at l9; exact l9, fun i a' row h1 h2 => ?_⟩
  obtain ⟨row', h3, h4⟩ := p9 i a' h1
  rw [h3] at h2
  cases h2
  exact h4
/-- [list(row) for row in reversed(rows)] -/
theorem comp_copyRev {K : PySem.W.Frag} {a D : Addr} {rows : List (List Int)} {te : TE} {σf : St} {H1 : Hp} {Q : VK} {n : Nat} (hM : Mat H1 a rows) (hn : n = rows.length) (hz : rows.length < sizeLine) (hD1 : H1 D = none)
    (hs : ∀ ra (row : List Int) H (N : VK), H ra = some (.lst (row.map V.int)) → (∀ l H', New H l (.lst (row.map V.int)) H' → N (.ref l) H') → te (some (.ref ra) :: σf) H N)
    (hd : ∀ H, Same H1 H → Mat H D rows.reverse → Q (.ref D) H) : CompW (Itv K a n) D (gName 0) tYes te (none :: σf) (upd H1 D (.lst [])) Q := by
  obtain ⟨ws0, hw0, hR0⟩ := hM
  have hlw0 : (ws0.map V.ref).length = rows.length := by rw [List.length_map, hR0.1]
  subst hn
  rw [← hlw0]
  refine comp_rev (fun i y H => ∃ l row, y = .ref l ∧ l ≠ D ∧ rows.reverse[i]? = some row ∧ H l = some (.lst (row.map V.int))) (SqL.of hw0) (by rw [hlw0]; exact hz) hD1 (fun i y H H' k ⟨l, row, e, ne, h1, h2⟩ => ⟨l, row, e, ne, h1, k l _ ne h2⟩) ?_ ?_
  · rintro i x H3 ys N hx s3 d3 hN
    rw [← List.map_reverse] at hx
    obtain ⟨ra, ha, rfl⟩ := ref_at hx
    have hi : i < rows.length := by
      have := (List.getElem?_eq_some_iff.mp ha).1
      rw [List.length_reverse, hR0.1] at this
      exact this
    rw [List.getElem?_reverse (by rw [hR0.1]; exact hi), hR0.1] at ha
    have hrow : rows.reverse[i]? = some (rows[rows.length - 1 - i]'(by omega)) := by rw [List.getElem?_reverse hi]; simp
    have h3 := s3 _ _ (hR0.2 _ ra _ ha (List.getElem?_eq_getElem (show rows.length - 1 - i < rows.length by omega)))
    exact hs ra _ H3 N h3 fun l H4 n4 => hN _ _ n4.same ⟨l, _, rfl, (ne_of_none d3 n4.none).symm, hrow, n4.at_⟩
  rintro ys H3 s3 d3 l3 r3
  obtain ⟨ws', e', p'⟩ := refs_ex (P := fun i l => ∃ row, rows.reverse[i]? = some row ∧ H3 l = some (.lst (row.map V.int))) (fun i y e => by
    obtain ⟨l, row, h1, _, h2, h3⟩ := r3 i y e
    exact ⟨l, h1, row, h2, h3⟩)
  subst e'
  have lw' : ws'.length = rows.length := by
    rw [List.length_map, hlw0] at l3
    exact l3
  refine hd H3 s3 ⟨ws', d3, by rw [List.length_reverse]; exact lw', fun i a' row h1 h2 => ?_⟩
  obtain ⟨row', h3, h4⟩ := p' i a' h1
  rw [h3] at h2
  cases h2
  exact h4
theorem one_mem72 {base : Heap} {mg : Str → Option Value} {P : Addr} (h : base.BuiltinsAt mg P) : ∀ Q ∈ [P], base.BuiltinsAt mg Q := fun Q hQ => by
  rw [List.mem_singleton.mp hQ]
  exact h
end L2

set_option Elab.async false
set_option linter.all false
set_option maxRecDepth 100000
set_option maxHeartbeats 4000000
local macro_rules | `(tactic| walk_at "go") => `(tactic| repeat (first
  | refine ⟨_, rfl, ?_⟩
  | refine ⟨_, _, rfl, rfl, ?_⟩
  | refine ⟨rfl, ?_⟩
  | refine ⟨⟨⟨by omega, by omega⟩, ⟨by omega, by omega⟩⟩, ?_⟩
  | refine ⟨⟨by omega, by omega⟩, ?_⟩
  | refine ⟨⟨by decide, by decide, by decide⟩, ?_⟩
  | refine ⟨⟨by decide, by decide, by omega⟩, ?_⟩
  | refine And.intro (by decide) ?_
  | refine And.intro (by show (0 : Int) < _; decide) ?_
  | refine And.intro (by (with_reducible show List.length _ ≤ PySem.sizeLine); exact L2.len_small (by simp)) ?_
  | refine And.intro (by omega) ?_))

namespace My
open PySem L2 BW
def top (i : Nat) : Stmt := PySem.Challenge.pw_rentshare_k72_nobody_moves.main.body.getD i (.Pass ⟨0, 0, 0, 0⟩)
structure Txt (mg : Str → Option Value) : Prop where
  len : mg "len" = none
  range : mg "range" = none
  enumerate : mg "enumerate" = none
  isinstance : mg "isinstance" = none
  int : mg "int" = none
  bool : mg "bool" = none
  list : mg "list" = none
  min : mg "min" = none
  max : mg "max" = none
  sum : mg "sum" = none
  all : mg "all" = none
  any : mg "any" = none
  sorted : mg "sorted" = none
  reversed : mg "reversed" = none
abbrev s___init__ : Stmt := inClass (top 4) 0
theorem sc___init__ : FnScope ["self", "beds", "worths", "rent"] ["self", "beds", "worths", "rent"] (defScope s___init__) := ⟨rfl, rfl, rfl, by decide +kernel, rfl, by decide +kernel, by decide +kernel⟩
abbrev s_people : Stmt := inClass (top 4) 1
theorem sc_people : FnScope ["self"] ["self"] (defScope s_people) := ⟨rfl, rfl, rfl, by decide +kernel, rfl, by decide +kernel, by decide +kernel⟩
abbrev s_rooms : Stmt := inClass (top 4) 2
theorem sc_rooms : FnScope ["self"] ["self"] (defScope s_rooms) := ⟨rfl, rfl, rfl, by decide +kernel, rfl, by decide +kernel, by decide +kernel⟩
abbrev s_lying : Stmt := top 5
theorem sc_lying : FnScope ["house", "way"] ["house", "way"] (defScope s_lying) := ⟨rfl, rfl, rfl, by decide +kernel, rfl, by decide +kernel, by decide +kernel⟩
abbrev s_open_rooms : Stmt := top 6
theorem sc_open_rooms : FnScope ["house", "way", "counts"] ["house", "way"] (defScope s_open_rooms) := ⟨rfl, rfl, rfl, by decide +kernel, rfl, by decide +kernel, by decide +kernel⟩
abbrev s_improve : Stmt := top 8
theorem sc_improve : FnScope ["house", "way", "gains", "moves", "person", "left", "worths", "room", "gain"] ["house", "way", "gains", "moves"] (defScope s_improve) := ⟨rfl, rfl, rfl, by decide +kernel, rfl, by decide +kernel, by decide +kernel⟩
abbrev s_bring_in : Stmt := top 9
theorem sc_bring_in : FnScope ["house", "way", "newcomer", "moves", "turn", "end", "brought", "move", "gains"] ["house", "way"] (defScope s_bring_in) := ⟨rfl, rfl, rfl, by decide +kernel, rfl, by decide +kernel, by decide +kernel⟩
abbrev s_best_way : Stmt := top 10
theorem sc_best_way : FnScope ["house", "way"] ["house"] (defScope s_best_way) := ⟨rfl, rfl, rfl, by decide +kernel, rfl, by decide +kernel, by decide +kernel⟩
abbrev s_weighed : Stmt := top 12
theorem sc_weighed : FnScope ["house", "old", "person", "worths", "scale"] ["house", "old", "person"] (defScope s_weighed) := ⟨rfl, rfl, rfl, by decide +kernel, rfl, by decide +kernel, by decide +kernel⟩
abbrev s_kept_way : Stmt := top 13
theorem sc_kept_way : FnScope ["house", "old", "worths"] ["house", "old"] (defScope s_kept_way) := ⟨rfl, rfl, rfl, by decide +kernel, rfl, by decide +kernel, by decide +kernel⟩
abbrev s__law_cell_at : Stmt := top 15
theorem sc__law_cell_at : FnScope ["_law_script", "_law_k"] ["_law_script", "_law_k"] (defScope s__law_cell_at) := ⟨rfl, rfl, rfl, by decide +kernel, rfl, by decide +kernel, by decide +kernel⟩
abbrev s__law_mixed : Stmt := top 16
theorem sc__law_mixed : FnScope ["_law_cell", "_law_k", "_law_m"] ["_law_cell", "_law_k"] (defScope s__law_mixed) := ⟨rfl, rfl, rfl, by decide +kernel, rfl, by decide +kernel, by decide +kernel⟩
abbrev s__law_beds : Stmt := top 17
theorem sc__law_beds : FnScope ["_law_first", "_law_many", "_law_beds_here", "_law_k"] ["_law_first", "_law_many"] (defScope s__law_beds) := ⟨rfl, rfl, rfl, by decide +kernel, rfl, by decide +kernel, by decide +kernel⟩
abbrev s__law_worths : Stmt := top 18
theorem sc__law_worths : FnScope ["_law_script", "_law_first", "_law_people", "_law_rooms", "_law_sums", "_law_k", "_law_cell", "_law_at", "_law_worths_here", "_law_i", "_law_row"] ["_law_script", "_law_first", "_law_people", "_law_rooms"] (defScope s__law_worths) := ⟨rfl, rfl, rfl, by decide +kernel, rfl, by decide +kernel, by decide +kernel⟩
abbrev s__law_house : Stmt := top 19
theorem sc__law_house : FnScope ["_law_script", "_law_most_people", "_law_most_rooms", "_law_first", "_law_beds_here", "_law_people", "_law_worths_here", "_law_rent"] ["_law_script", "_law_most_people", "_law_most_rooms"] (defScope s__law_house) := ⟨rfl, rfl, rfl, by decide +kernel, rfl, by decide +kernel, by decide +kernel⟩
abbrev s__law_whole : Stmt := top 20
theorem sc__law_whole : FnScope ["_law_found"] ["_law_found"] (defScope s__law_whole) := ⟨rfl, rfl, rfl, by decide +kernel, rfl, by decide +kernel, by decide +kernel⟩
abbrev s__law_lifted : Stmt := top 21
theorem sc__law_lifted : FnScope ["_law_script", "_law_worths_here", "_law_lifted_here", "_law_i", "_law_step"] ["_law_script", "_law_worths_here"] (defScope s__law_lifted) := ⟨rfl, rfl, rfl, by decide +kernel, rfl, by decide +kernel, by decide +kernel⟩
abbrev s__law_halved : Stmt := top 22
theorem sc__law_halved : FnScope ["_law_worths_here"] ["_law_worths_here"] (defScope s__law_halved) := ⟨rfl, rfl, rfl, by decide +kernel, rfl, by decide +kernel, by decide +kernel⟩
abbrev s__law_stays : Stmt := top 23
theorem sc__law_stays : FnScope ["_law_house_here", "_law_worths_here", "_law_old", "_law_most", "_law_found"] ["_law_house_here", "_law_worths_here", "_law_old", "_law_most"] (defScope s__law_stays) := ⟨rfl, rfl, rfl, by decide +kernel, rfl, by decide +kernel, by decide +kernel⟩
abbrev s__law_all_move : Stmt := top 24
theorem sc__law_all_move : FnScope ["_law_script", "_law_many", "_law_shift", "_law_lucky", "_law_worths_here", "_law_i", "_law_cell", "_law_row", "_law_house_here", "_law_found"] ["_law_script"] (defScope s__law_all_move) := ⟨rfl, rfl, rfl, by decide +kernel, rfl, by decide +kernel, by decide +kernel⟩
abbrev s__law_row_moves : Stmt := top 25
theorem sc__law_row_moves : FnScope ["_law_script", "_law_row", "_law_i", "_law_lists", "_law_had", "_law_k", "_law_beds_here", "_law_order", "_law_rooms", "_law_worths_here", "_law_old", "_law_cell", "_law_worth", "_law_house_here", "_law_found"] ["_law_script"] (defScope s__law_row_moves) := ⟨rfl, rfl, rfl, by decide +kernel, rfl, by decide +kernel, by decide +kernel⟩
abbrev s_law : Stmt := top 26
theorem sc_law : FnScope ["_law_script", "_law_beds_here", "_law_worths_here", "_law_rent", "_law_house_here", "_law_turned", "_law_way", "_law_old", "_law_i", "_law_lifted_here", "_law_other"] ["_law_script"] (defScope s_law) := ⟨rfl, rfl, rfl, by decide +kernel, rfl, by decide +kernel, by decide +kernel⟩
def lamPos : Pos := ⟨42, 42, 42, 66⟩
section
variable {P : Program} {w : World} {K : PySem.W.Frag} {mg : Str → Option Value} {base : Heap}
theorem D_init {C : Addr} (T : Txt mg) (HC : HCls K mg C) (S : MSrc K C "__init__" "House.__init__" s___init__) : MDef P w K mg base 1 C "__init__" ["self", "beds", "worths", "rent"] (sp_init C) := by
  refine S.mk' sc___init__ (fun vs H Q E h => ?_) (fun _ _ _ _ _ _ us hl => match us, hl with | [_, _, _, _], _ => rfl) (fun f cdv A outer s H vs Q E hr h => ?_)
  · obtain ⟨p, dx, b, w, beds, worths, rent, rfl, _⟩ := h
    rfl
  · obtain ⟨p, dx, b, w, beds, worths, rent, rfl, hp, hb, hM, lb, lw, hle, q⟩ := h
    refine ⟨_, (pss_cons (ps_if (pt_cmpR op_gt (pe_callB (call_lenK (K := K) rfl) (by rfl) T.len boot_len' (pa_cons (pv 2) pa_nil)) (pe_callB (call_sumK (K := K) rfl rfl) (by rfl) T.sum boot_sum' (pa_cons (pv 1) pa_nil)) (nomark _)) (pss_one (ps_never)) pss_nil)
      (pss_cons (ps_fldK (K := K) rfl (pv 0) (pe_callTy (call_list_ofK (K := K) rfl) (by rfl) T.list boot_list' (pa_cons (pv 1) pa_nil)) rfl)
      (pss_cons (ps_fldK (K := K) rfl (pv 0) (pe_comp ["row"] [none] rfl rfl rfl (pi_listK (K := K) rfl (pv 2)) (fun _ _ _ _ => (pg_name (i := 0) (by decide +kernel : (["row"] : List PySem.Str).Nodup) rfl (Or.inl rfl))) (fun _ _ _ _ => pifs_nil) (fun _ _ _ _ => (pe_callTy (call_list_ofK (K := K) rfl) (by rfl) T.list boot_list' (pa_cons (pv 0) pa_nil)))) rfl)
      (pss_one (ps_fldK (K := K) rfl (pv 0) (pv 3) rfl))))), ?_⟩
    obtain ⟨ws, hw, hR⟩ := hM
    have hwl : (ws.map V.ref).length = worths.length := by rw [List.length_map]; exact hR.1
    walk_at "go"
    refine ⟨w, _, rfl, .inl (SqL.of hw), ?_⟩
    walk_at "go"
    refine ⟨b, beds, rfl, SqL.of hb, ?_⟩
    walk_at "go"
    refine iteE (decide_eq_false (by rw [hwl]; omega)) ?_
    -- self.beds = list(beds)
    walk_at "go"
    refine ⟨b, _, rfl, .inl (SqL.of hb), fun l1 H1 n1 => ?_⟩
    refine ⟨_, rfl, p, C, dx, [], rfl, n1.same _ _ hp, HC.cl, HC.nB, by decide, ?_⟩
    have npl : l1 ≠ p := (ne_of_none hp n1.none).symm
    have nwp : w ≠ p := ne_of hw hp (by intro z; cases z)
    have hw2 : upd H1 p (.ins C dx (putF "beds" (.ref l1) [])) w = some (.lst (ws.map V.ref)) := by rw [upd_ne nwp]; exact n1.same _ _ hw
    have hl2 : upd H1 p (.ins C dx (putF "beds" (.ref l1) [])) l1 = some (.lst (beds.map V.int)) := by rw [upd_ne npl]; exact n1.at_
    have hr2 : ∀ (i : Nat) a row, ws[i]? = some a → worths[i]? = some row → upd H1 p (.ins C dx (putF "beds" (.ref l1) [])) a = some (.lst (row.map V.int)) := fun i a row h1 h2 => by
      have h3 := hR.2 i a row h1 h2
      rw [upd_ne (ne_of h3 hp (by intro z; cases z))]
      exact n1.same _ _ h3
    have hk2 : ∀ c o, H c = some o → c ≠ p → upd H1 p (.ins C dx (putF "beds" (.ref l1) [])) c = some o := fun c o e hc => by
      rw [upd_ne hc]
      exact n1.same _ _ e
    have hp2 : upd H1 p (.ins C dx (putF "beds" (.ref l1) [])) p = some (.ins C dx (putF "beds" (.ref l1) [])) := upd_same
    generalize upd H1 p (.ins C dx (putF "beds" (.ref l1) [])) = H2 at *
    clear n1
    -- self.worths = [list(row) for row in worths]
    refine ⟨_, rfl, w, rfl, ⟨_, SqL.of hw2⟩, fun D hD => ?_⟩
    refine comp_list (fun i y H => ∃ l row, y = .ref l ∧ l ≠ D ∧ worths[i]? = some row ∧ H l = some (.lst (row.map V.int))) (SqL.of hw2) (by rw [hwl, sizeLine_eq]; omega) hD (fun i y H H' k ⟨l, row, e, ne, h1, h2⟩ => ⟨l, row, e, ne, h1, k l _ ne h2⟩) ?_ ?_
    · rintro i x H3 ys N hx s3 d3 hN
      obtain ⟨a, ha, rfl⟩ := ref_at hx
      have hi : i < worths.length := by rw [← hR.1]; exact (List.getElem?_eq_some_iff.mp ha).1
      have hrow : worths[i]? = some worths[i] := by simp [hi]
      have h3 := s3 _ _ (hr2 i a _ ha hrow)
      walk_at "go"
      exact ⟨a, _, rfl, .inl (SqL.of h3), fun l H4 n4 => hN _ _ n4.same ⟨l, _, rfl, (ne_of_none d3 n4.none).symm, hrow, n4.at_⟩⟩
    · rintro ys H3 s3 d3 l3 r3
      obtain ⟨ws', e', p'⟩ := refs_ex (P := fun i l => ∃ row, worths[i]? = some row ∧ H3 l = some (.lst (row.map V.int))) (fun i y e => by
        obtain ⟨l, row, h1, _, h2, h3⟩ := r3 i y e
        exact ⟨l, h1, row, h2, h3⟩)
      subst e'
      have lw' : ws'.length = worths.length := by
        rw [List.length_map, List.length_map] at l3
        rw [l3]
        exact hR.1
      have hp3 := s3 _ _ hp2
      have hl3 := s3 _ _ hl2
      refine ⟨_, rfl, p, C, dx, _, rfl, hp3, HC.cl, HC.nW, Nat.lt_of_le_of_lt (putF_lt (n := 0) (Nat.le_refl _)) (by decide), ?_⟩
      -- self.rent = rent
      refine ⟨_, rfl, _, rfl, p, C, dx, _, rfl, upd_same, HC.cl, HC.nR, Nat.lt_of_le_of_lt (putF_lt (n := 1) (putF_lt (n := 0) (Nat.le_refl _))) (by decide), ?_⟩
      have nDp : D ≠ p := ne_of d3 hp3 (by intro z; cases z)
      refine q _ ⟨⟨dx, l1, D, upd_same, ?_, ws', ?_, lw', fun i a row h1 h2 => ?_⟩⟩ fun c o e hc => ?_
      · rw [upd_ne npl, upd_ne npl]
        exact hl3
      · rw [upd_ne nDp, upd_ne nDp]
        exact d3
      · obtain ⟨row', h3, h4⟩ := p' i a h1
        rw [h3] at h2
        cases h2
        rw [upd_ne (ne_of h4 hp3 (by intro z; cases z)), upd_ne (ne_of h4 hp3 (by intro z; cases z))]
        exact h4
      · rw [upd_ne hc, upd_ne hc]
        exact s3 _ _ (hk2 c o e hc)
theorem D_people {C : Addr} (T : Txt mg) (HC : HCls K mg C) (S : MSrc K C "people" "House.people" s_people) : MDef P w K mg base 1 C "people" ["self"] (sp_people C) := by
  refine S.mk' sc_people (fun vs H Q E h => ?_) (fun _ _ _ _ _ _ us hl => match us, hl with | [_], _ => rfl) (fun f cdv A outer s H vs Q E hr h => ?_)
  · obtain ⟨p, beds, worths, rent, rfl, _⟩ := h
    rfl
  · obtain ⟨p, beds, worths, rent, rfl, hA, q⟩ := h
    refine ⟨_, (pss_one (ps_ret (pe_callB (call_lenK (K := K) rfl) (by rfl) T.len boot_len' (pa_cons (pe_fldK (K := K) rfl (pv 0) rfl) pa_nil)))), ?_⟩
    obtain ⟨dx, b, w, h1, h2, h3⟩ := hA.ex
    obtain ⟨ws, h4, h5⟩ := h3.len
    refine ⟨_, rfl, p, C, dx, _, _, rfl, h1, HC.cl, HC.nW, hf_worths _ _ _, w, _, rfl, .inl (SqL.of h4), ?_⟩
    rw [h5]
    exact q
theorem D_rooms {C : Addr} (T : Txt mg) (HC : HCls K mg C) (S : MSrc K C "rooms" "House.rooms" s_rooms) : MDef P w K mg base 1 C "rooms" ["self"] (sp_rooms C) := by
  refine S.mk' sc_rooms (fun vs H Q E h => ?_) (fun _ _ _ _ _ _ us hl => match us, hl with | [_], _ => rfl) (fun f cdv A outer s H vs Q E hr h => ?_)
  · obtain ⟨p, beds, worths, rent, rfl, _⟩ := h
    rfl
  · obtain ⟨p, beds, worths, rent, rfl, hA, q⟩ := h
    refine ⟨_, (pss_one (ps_ret (pe_callB (call_lenK (K := K) rfl) (by rfl) T.len boot_len' (pa_cons (pe_fldK (K := K) rfl (pv 0) rfl) pa_nil)))), ?_⟩
    obtain ⟨dx, b, w, h1, h2, h3⟩ := hA.ex
    refine ⟨_, rfl, p, C, dx, _, _, rfl, h1, HC.cl, HC.nB, hf_beds _ _ _, b, _, rfl, .inl (SqL.of h2), ?_⟩
    rw [List.length_map]
    exact q
theorem D_lying {C : Addr} (T : Txt mg) (HC : HCls K mg C) (S : Src K mg "lying" "lying" s_lying) (Mrooms : MDef P w K mg base 1 C "rooms" ["self"] (sp_rooms C)) : Def P w K mg base 2 "lying" ["house", "way"] (sp_lying K C) := by
  refine S.mk' sc_lying (fun vs H Q E h => ?_) (fun _ _ _ _ _ _ us hl => match us, hl with | [_, _], _ => rfl) (fun f cdv A outer s H vs Q E hr h => ?_)
  · obtain ⟨p, a, beds, worths, rent, way, rfl, _⟩ := h
    rfl
  · obtain ⟨p, a, beds, worths, rent, way, rfl, hA, hl, hS, q⟩ := h
    refine ⟨_, (pss_one (ps_ret (pe_comp ["room", "way"] [none, some 1] rfl rfl rfl (pi_range1 rfl T.range (pa_cons (pe_mdef0 Mrooms HC.cl (pv 0) (hr.mono (by decide))) pa_nil)) (fun _ _ _ _ => (pg_name (i := 0) (by decide +kernel : (["room", "way"] : List PySem.Str).Nodup) rfl (Or.inl rfl))) (fun _ _ _ _ => pifs_nil) (fun _ _ _ _ => (pe_bmK (K := K) rfl PySem.F.plainAttrs_list PySem.F.slot_list_count PySem.F.type_list_count (mt_countK (K := K) rfl) (pv 1) (pa_cons (pv 0) pa_nil)))))), ?_⟩
    obtain ⟨dx, b, w, h1, h2, h3⟩ := hA.ex
    refine ⟨_, rfl, p, dx, _, rfl, h1, hf_no _ _ _ (by decide +kernel) (by decide +kernel) (by decide +kernel), p, beds, worths, rent, rfl, hA, ?_⟩
    refine ⟨_, rfl, by omega, by omega, fun D hD => ?_⟩
    refine comp_range (fun i y _ => y = .int ((way.count (i : Int) : Nat) : Int)) (by rw [sizeLine_eq]; omega) hD (fun _ _ _ _ _ h => h) ?_ ?_
    · rintro i H1 ys N hi s1 d1 hN
      refine ⟨_, rfl, .inl ⟨rfl, _, s1.seq hS⟩, _, rfl, a, way, _, rfl, rfl, s1.seq hS, hN _ _ (Same.refl _) ?_⟩
      rw [Int.zero_add]
    · rintro ys H1 s1 d1 l1 r1
      have e : ys = (lyingL beds.length way).map V.int := ints_of (by rw [l1]; simp [lyingL]) fun i y e => by
        have hi : i < beds.length := by have := (List.getElem?_eq_some_iff.mp e).1; omega
        exact ⟨_, by simp [lyingL, hi], r1 i y e⟩
      rw [e] at d1
      exact q D H1 ⟨s1, hD, d1⟩
theorem D_open {C : Addr} (T : Txt mg) (HC : HCls K mg C) (S : Src K mg "open_rooms" "open_rooms" s_open_rooms) (Dlying : Def P w K mg base 2 "lying" ["house", "way"] (sp_lying K C)) (Mrooms : MDef P w K mg base 1 C "rooms" ["self"] (sp_rooms C)) : Def P w K mg base 3 "open_rooms" ["house", "way"] (sp_open K C) := by
  refine S.mk' sc_open_rooms (fun vs H Q E h => ?_) (fun _ _ _ _ _ _ us hl => match us, hl with | [_, _], _ => rfl) (fun f cdv A outer s H vs Q E hr h => ?_)
  · obtain ⟨p, a, beds, worths, rent, way, rfl, _⟩ := h
    rfl
  · obtain ⟨p, a, beds, worths, rent, way, rfl, hA, hl, hS, q⟩ := h
    refine ⟨_, (pss_cons (ps_set (i := 2) sc_open_rooms.nd rfl (Or.inr rfl) (pe_def Dlying (hr.mono (by decide)) rfl (pa_cons (pv 0) (pa_cons (pv 1) pa_nil))))
      (pss_one (ps_ret (pe_comp ["room", "counts", "house"] [none, some 2, some 0] rfl rfl rfl (pi_range1 rfl T.range (pa_cons (pe_mdef0 Mrooms HC.cl (pv 0) (hr.mono (by decide))) pa_nil)) (fun _ _ _ _ => (pg_name (i := 0) (by decide +kernel : (["room", "counts", "house"] : List PySem.Str).Nodup) rfl (Or.inl rfl))) (fun _ _ _ _ => (pifs_one (pt_cmpR op_lt (pe_ix (ix_seqK (K := K) rfl) (pv 1) (pv 0) (fun _ _ => rfl)) (pe_ix (ix_seqK (K := K) rfl) (pe_fldK (K := K) rfl (pv 2) rfl) (pv 0) (fun _ _ => rfl)) (nomark _)))) (fun _ _ _ _ => (pv 0)))))), ?_⟩
    refine ⟨_, rfl, _, rfl, p, a, beds, worths, rent, way, rfl, hA, hl, hS, fun l H1 n1 => ?_⟩
    have hA1 := hA.same n1.same
    obtain ⟨dx, b, w, h1, h2, h3⟩ := hA1.ex
    refine ⟨_, rfl, p, dx, _, rfl, h1, hf_no _ _ _ (by decide +kernel) (by decide +kernel) (by decide +kernel), p, beds, worths, rent, rfl, hA1, ?_⟩
    refine ⟨_, rfl, by omega, by omega, fun D hD => ?_⟩
    refine compIf_range (fun (r : Nat) => decide (((way.count (r : Int) : Nat) : Int) < beds.getD r 0)) (fun (r : Nat) => .int r) (by rw [sizeLine_eq]; omega) hD ?_ ?_ ?_
    · rintro i H2 N hi s2 hN
      have g1 : ((lyingL beds.length way).map V.int)[i]? = some (.int ((way.count (i : Int) : Nat) : Int)) := by simp [lyingL, show i < beds.length by omega]
      have g2 : (beds.map V.int)[i]? = some (.int (beds.getD i 0)) := by simp [show i < beds.length by omega]
      walk_at "go"
      refine ixL (SqL.of (s2 _ _ n1.at_)) (atI_int i (by omega) g1) ?_
      refine ⟨_, rfl, p, C, dx, _, _, rfl, s2 _ _ h1, HC.cl, HC.nB, hf_beds _ _ _, _, rfl, ?_⟩
      refine ixL (SqL.of (s2 _ _ h2)) (atI_int i (by omega) g2) ?_
      walk_at "go"
      exact hN _ (Same.refl _)
    · rintro i H2 N hi hp s2 hN
      walk_at "go"
      have := hN _ (Same.refl _)
      rw [Int.zero_add]
      exact this
    · rintro H2 s2 d2
      refine q D H2 ⟨n1.same.trans s2, n1.same.free hD, ?_⟩
      rw [d2]
      unfold openL
      rw [List.map_map]
      rfl
theorem D_improve {C : Addr} (T : Txt mg) (HC : HCls K mg C) (S : Src K mg "improve" "improve" s_improve) (Mrooms : MDef P w K mg base 1 C "rooms" ["self"] (sp_rooms C)) : Def P w K mg base 2 "improve" ["house", "way", "gains", "moves"] (sp_improve K C) := by
  refine S.mk' sc_improve (fun vs H Q E h => ?_) (fun _ _ _ _ _ _ us hl => match us, hl with | [_, _, _, _], _ => rfl) (fun f cdv A outer s H vs Q E hr h => ?_)
  · obtain ⟨H0, p, a, ga, mv, beds, worths, rent, way, st, rfl, _⟩ := h
    rfl
  · obtain ⟨H0, p, a, ga, mv, beds, worths, rent, way, st, rfl, s0, fg, fm, hA, ha, bok, hlt, hfit, hopt, hok, hM, q⟩ := h
    refine ⟨_, (pss_one (ps_for PassesOwn.never rfl (pi_range1 rfl T.range (pa_cons (pe_callB (call_lenK (K := K) rfl) (by rfl) T.len boot_len' (pa_cons (pv 1) pa_nil)) pa_nil)) (pg_name (i := 4) sc_improve.nd rfl (Or.inl rfl))
      (pss_cons (ps_set (i := 5) sc_improve.nd rfl (Or.inl rfl) (pe_ix (ix_seqK (K := K) rfl) (pv 1) (pv 4) (fun _ _ => rfl)))
      (pss_cons (ps_set (i := 6) sc_improve.nd rfl (Or.inl rfl) (pe_ix (ix_seqK (K := K) rfl) (pe_fldK (K := K) rfl (pv 0) rfl) (pv 4) (fun _ _ => rfl)))
      (pss_one (ps_for PassesOwn.never rfl (pi_range1 rfl T.range (pa_cons (pe_mdef0 Mrooms HC.cl (pv 0) (hr.mono (by decide))) pa_nil)) (pg_name (i := 7) sc_improve.nd rfl (Or.inl rfl))
      (pss_cons (ps_set (i := 8) sc_improve.nd rfl (Or.inl rfl) (pe_op op_sub (pe_op op_add (pe_ix (ix_seqK (K := K) rfl) (pv 2) (pv 5) (fun _ _ => rfl)) (pe_ix (ix_seqK (K := K) rfl) (pv 6) (pv 7) (fun _ _ => rfl))) (pe_ix (ix_seqK (K := K) rfl) (pv 6) (pv 5) (fun _ _ => rfl))))
      (pss_one (ps_if (pt_cmpR op_gt (pv 8) (pe_ix (ix_seqK (K := K) rfl) (pv 2) (pv 7) (fun _ _ => rfl)) (nomark _)) (pss_cons (ps_asg (pv 8) (pg_sub (pv 2) (pv 7) set_list))
      (pss_one (ps_asg (pe_op op_cat' (pe_ix (ix_seqK (K := K) rfl) (pv 3) (pv 5) (fun _ _ => rfl)) (pe_lst' (pa_cons (pe_tup' (pa_cons (pv 4) (pa_cons (pv 7) pa_nil))) pa_nil))) (pg_sub (pv 3) (pv 7) set_list)))) pss_nil))))))))), ?_⟩
    obtain ⟨dx, b, w, h1, h2, h3⟩ := hA.ex
    obtain ⟨ws, hw, hR⟩ := id h3
    have l1 := bok.w1
    have l2 := bok.b1
    have s0' : ∀ {H'}, But2 ga mv H H' → Same H0 H' := fun k c o e => k c o (s0 _ _ e) (ne_of_none e fg) (ne_of_none e fm)
    have hway := fit_lt hfit
    refine ⟨_, rfl, a, _, rfl, .inl (SqL.of (s0 _ _ ha)), ?_⟩
    rw [wI_len]
    refine ⟨_, rfl, by omega, by omega, ?_⟩
    rw [Int.toNat_natCast]
    refine for_range (fun i σ H' => (∃ o4 o5 o6 o7 o8, σ = [some (.ref p), some (.ref a), some (.ref ga), some (.ref mv), o4, o5, o6, o7, o8]) ∧ But2 ga mv H H' ∧ MovesAt H' ga mv ((List.range i).foldl (person (wF worths) way beds.length) st).1 ((List.range i).foldl (person (wF worths) way beds.length) st).2 ∧ Ok (wF worths) way beds.length ((List.range i).foldl (person (wF worths) way beds.length) st))
      ⟨⟨_, _, _, _, _, rfl⟩, fun c o e _ _ => e, hM, hok⟩ ?_ ?_
    · rintro i σ H1 hi ⟨⟨o4, o5, o6, o7, o8, rfl⟩, k1, hM1, ok1⟩
      have S1 := s0' k1
      have hl : way[i]? = some (way.getD i 0) := by simp [List.getD, hi]
      have hlb : way.getD i 0 < beds.length := hway _ (List.mem_of_getElem? hl)
      generalize hle : way.getD i 0 = l at *
      have hi' : i < worths.length := by omega
      have hrow : worths[i]? = some worths[i] := by simp [hi']
      have hrl := bok.rows _ (List.getElem_mem hi')
      obtain ⟨ra, g1, g2, g3⟩ := hR.at_ hrow
      have wfe : ∀ r, wF worths i r = (worths[i]).getD r 0 := fun r => by simp [wF, List.getD, hi']
      -- left
      refine ⟨_, rfl, _, rfl, ?_⟩
      refine ixL (SqL.of (S1 _ _ ha)) (atI_int i (by omega) (wI_at hl)) ?_
      -- worths
      refine ⟨_, rfl, p, C, dx, _, _, rfl, S1 _ _ h1, HC.cl, HC.nW, hf_worths _ _ _, _, rfl, ?_⟩
      refine ixL (SqL.of (S1 _ _ hw)) (atI_int i (by omega) g2) ?_
      -- the rooms
      refine ⟨_, rfl, p, dx, _, rfl, S1 _ _ h1, hf_no _ _ _ (by decide +kernel) (by decide +kernel) (by decide +kernel), p, beds, worths, rent, rfl, hA.same S1, ?_⟩
      refine ⟨_, rfl, by omega, by omega, ?_⟩
      rw [Int.toNat_natCast]
      have hstep : ∀ j, j ≤ beds.length → Ok (wF worths) way beds.length ((List.range j).foldl (relax (wF worths) i l) ((List.range i).foldl (person (wF worths) way beds.length) st)) := fun j hj => fold_inv (I := Ok (wF worths) way beds.length) ok1 fun b r hr ok => relax_ok hfit hopt hl hlb (by have := List.mem_range.mp hr; omega) ok
      have hper : (List.range (i + 1)).foldl (person (wF worths) way beds.length) st = (List.range beds.length).foldl (relax (wF worths) i l) ((List.range i).foldl (person (wF worths) way beds.length) st) := by
        rw [List.range_succ, List.foldl_append]
        show person _ _ _ _ i = _
        unfold person
        rw [hle]
      rw [hper]
      generalize (List.range i).foldl (person (wF worths) way beds.length) st = st1 at *
      refine for_range (fun j σ H' => (∃ o7 o8, σ = [some (.ref p), some (.ref a), some (.ref ga), some (.ref mv), some (.int (0 + (i : Int))), some (.int (l : Int)), some (.ref ra), o7, o8]) ∧ But2 ga mv H H' ∧ MovesAt H' ga mv ((List.range j).foldl (relax (wF worths) i l) st1).1 ((List.range j).foldl (relax (wF worths) i l) st1).2)
        ⟨⟨_, _, rfl⟩, k1, hM1⟩ ?_ ?_
      · rintro j σ H2 hj ⟨⟨o7, o8, rfl⟩, k2, hM2⟩
        have S2 := s0' k2
        have ok2 := hstep j (by omega)
        have hsucc : (List.range (j + 1)).foldl (relax (wF worths) i l) st1 = relax (wF worths) i l ((List.range j).foldl (relax (wF worths) i l) st1) j := by
          rw [List.range_succ, List.foldl_append]
          rfl
        rw [hsucc]
        clear hsucc
        generalize (List.range j).foldl (relax (wF worths) i l) st1 = st2 at *
        obtain ⟨gs, ms⟩ := st2
        have lg : gs.length = beds.length := ok2.l1
        have lm : ms.length = beds.length := ok2.l2
        have gl : (gs.map V.int)[l]? = some (.int (gs.getD l 0)) := by simp [lg, hlb, List.getD]
        have gj : (gs.map V.int)[j]? = some (.int (gs.getD j 0)) := by simp [lg, hj, List.getD]
        have wj : (worths[i].map V.int)[j]? = some (.int ((worths[i]).getD j 0)) := by simp [hrl, hj, List.getD]
        have wl : (worths[i].map V.int)[l]? = some (.int ((worths[i]).getD l 0)) := by simp [hrl, hlb, List.getD]
        -- gain
        refine ⟨_, rfl, _, rfl, ?_⟩
        refine ixL (SqL.of hM2.g) (atI_int l rfl gl) ?_
        refine ⟨_, rfl, _, rfl, ?_⟩
        refine ixL (SqL.of (S2 _ _ g3)) (atI_int j (by omega) wj) ?_
        refine ⟨_, _, rfl, rfl, _, rfl, _, rfl, ?_⟩
        refine ixL (SqL.of (S2 _ _ g3)) (atI_int l rfl wl) ?_
        refine ⟨_, _, rfl, rfl, ?_⟩
        -- the test
        refine ⟨_, rfl, _, rfl, _, rfl, ?_⟩
        refine ixL (SqL.of hM2.g) (atI_int j (by omega) gj) ?_
        refine ⟨_, _, rfl, rfl, ?_⟩
        have hgain : gs.getD l 0 + worths[i].getD j 0 - worths[i].getD l 0 = gs.getD l 0 + wF worths i j - wF worths i l := by rw [wfe, wfe]
        dsimp only
        rw [hgain]
        refine ⟨_, rfl, ite2 (fun hgt => ?_) (fun hgt => ?_)⟩
        · have hgt' : gs.getD j 0 < gs.getD l 0 + wF worths i j - wF worths i l := of_decide_eq_true hgt
          have hrel : relax (wF worths) i l (gs, ms) j = (gs.set j (gs.getD l 0 + wF worths i j - wF worths i l), ms.set j (ms.getD l [] ++ [(i, j)])) := if_pos hgt'
          rw [hrel]
          generalize gs.getD l 0 + wF worths i j - wF worths i l = gn at *
          refine ⟨_, rfl, _, rfl, _, rfl, ga, _, _, j, rfl, rfl, hM2.g, ?_, ?_⟩
          · unfold ixN
            rw [if_pos (by omega), if_pos (by simp; omega)]
            simp
          rw [← List.map_set]
          have hM3 := hM2.gset (gs' := gs.set j gn)
          have k3 : But2 ga mv H (upd H2 ga (.lst ((gs.set j gn).map V.int))) := fun c o e h1 h2 => by rw [upd_ne h1]; exact k2 c o e h1 h2
          generalize upd H2 ga (.lst ((gs.set j gn).map V.int)) = H3 at *
          obtain ⟨ls, e1, e2, e3, e4⟩ := hM3.ex
          have e2' : ls.length = ms.length := e2
          have hll0 : (ls.map V.ref)[l]? = some (.ref (ls[l]'(by omega))) := by simp [show l < ls.length by omega]
          have hll : ls[l]? = some (ls[l]'(by omega)) := by simp [show l < ls.length by omega]
          have hml : ms[l]? = some (ms.getD l []) := by simp [List.getD, show l < ms.length by omega]
          obtain ⟨ts, c1, c2, c3⟩ := e4 l _ _ hll hml
          obtain ⟨r0, cc, gg, f1, f2, _⟩ := ok2.at_ l hlb
          have hclen : ts.length ≤ 10 := by
            have := nodup_le _ _ f2.nodup f2.lt
            have f1' : ms.getD l [] = (way.length, r0) :: cc := f1
            rw [c2, f1']
            simp at this ⊢
            omega
          -- moves[left] + [(person, room)]
          refine ⟨_, rfl, _, rfl, ?_⟩
          refine ixL (SqL.of e1) (atI_int l rfl hll0) ?_
          refine ⟨_, rfl, _, rfl, len_small (by simp), fun t4 H4 n4 => ⟨len_small (by simp), fun t5 H5 n5 => ?_⟩⟩
          have S5 : Same H3 H5 := n4.same.trans n5.same
          refine ⟨ls[l]'(by omega), t5, _, _, rfl, rfl, S5 _ _ c1, n5.at_, by rw [sizeLine_eq]; simp; omega, fun t6 H6 n6 => ?_⟩
          have S6 : Same H3 H6 := S5.trans n6.same
          refine ⟨_, rfl, _, rfl, mv, _, _, j, rfl, rfl, S6 _ _ e1, ?_, ?_⟩
          · unfold ixN
            rw [if_pos (by omega), if_pos (by simp; omega)]
            simp
          have hM6 := hM3.same S6
          refine ⟨⟨_, _, rfl⟩, fun c o e z1 z2 => ?_, hM6.mset (S6 _ _ e1) (by omega) (fun z => ?_) (fun z => ?_) (ChainAt.snoc (m := (i, j)) n6.at_ c2 (fun j' t' m' a1 a2 => S6 _ _ (c3 j' t' m' a1 a2)) ?_)⟩
          · rw [upd_ne z2]
            exact S6 _ _ (k3 c o e z1 z2)
          · have := n6.none
            rw [z, S5 _ _ hM3.g] at this
            cases this
          · have := n6.none
            rw [z, S5 _ _ e1] at this
            cases this
          · have := n6.same _ _ (n5.same _ _ n4.at_)
            simpa using this
        · have hrel : relax (wF worths) i l (gs, ms) j = (gs, ms) := if_neg (fun z => hgt (decide_eq_true z))
          rw [hrel]
          exact ⟨⟨_, _, rfl⟩, k2, hM2⟩
      · rintro σ H2 ⟨⟨o7, o8, rfl⟩, k2, hM2⟩
        exact ⟨⟨_, _, _, _, _, rfl⟩, k2, hM2, hstep _ (Nat.le_refl _)⟩
    · rintro σ H1 ⟨⟨o4, o5, o6, o7, o8, rfl⟩, k1, hM1, ok1⟩
      exact q H1 k1 hM1
theorem D_bring {C cL PT : Addr} (T : Txt mg) (HC : HCls K mg C) (S : SrcL K mg "bring_in" "bring_in" s_bring_in cL PT) (BA : base.BuiltinsAt mg PT) (Dopen_rooms : Def P w K mg base 3 "open_rooms" ["house", "way"] (sp_open K C)) (Dimprove : Def P w K mg base 2 "improve" ["house", "way", "gains", "moves"] (sp_improve K C)) (Mrooms : MDef P w K mg base 1 C "rooms" ["self"] (sp_rooms C)) : Def P w K mg base 4 "bring_in" ["house", "way"] (sp_bring2 K C PT lamPos "bring_in.<locals>.<lambda>") := by
  refine S.mkL sc_bring_in (fun vs H Q E h => ?_) (fun _ _ _ _ _ _ us hl => match us, hl with | [_, _], _ => rfl) (fun f A outer s H vs Q E hr h => ?_)
  · obtain ⟨p, a, beds, worths, rent, way, rfl, _⟩ := h
    rfl
  · obtain ⟨p, a, beds, worths, rent, way, rfl, hA, ha, bok, hlt, hsum, hb0, hfit, hopt, hL, q⟩ := h
    refine ⟨_, (pss_cons (ps_set (i := 2) sc_bring_in.nd rfl (Or.inr rfl) (pe_callB (call_lenK (K := K) rfl) (by rfl) T.len boot_len' (pa_cons (pv 1) pa_nil)))
      (pss_cons (ps_set (i := 8) sc_bring_in.nd rfl (Or.inr rfl) (pe_callTy (call_list_ofK (K := K) rfl) (by rfl) T.list boot_list' (pa_cons (pe_ix (ix_seqK (K := K) rfl) (pe_fldK (K := K) rfl (pv 0) rfl) (pv 2) (fun _ _ => rfl)) pa_nil)))
      (pss_cons (ps_setC (i := 3) sc_bring_in.nd rfl (Or.inl rfl) ["room", "newcomer"] [none, some 2] rfl rfl rfl (pi_range1 rfl T.range (pa_cons (pe_mdef0 Mrooms HC.cl (pv 0) (hr.mono (by decide))) pa_nil)) (fun _ _ _ _ => (pg_name (i := 0) (by decide +kernel : (["room", "newcomer"] : List PySem.Str).Nodup) rfl (Or.inl rfl))) (fun _ _ _ _ => pifs_nil) (fun _ _ _ _ => (pe_lst' (pa_cons (pe_tup' (pa_cons (pv 1) (pa_cons (pv 0) pa_nil))) pa_nil))))
      (pss_cons (ps_for PassesOwn.never rfl (pi_range1 rfl T.range (pa_cons (pe_mdef0 Mrooms HC.cl (pv 0) (hr.mono (by decide))) pa_nil)) (pg_name (i := 4) sc_bring_in.nd rfl (Or.inl rfl))
      (pss_one (ps_expr (pe_def Dimprove (hr.mono (by decide)) rfl (pa_cons (pv 0) (pa_cons (pv 1) (pa_cons (pv 8) (pa_cons (pv 3) pa_nil))))))))
      (pss_cons (ps_set (i := 5) sc_bring_in.nd rfl (Or.inl rfl) (pe_maxLam2 (x := "room") (Nc := ["gains"]) (ix := [some 8]) S.hd BA rfl rfl T.max hr.dep (pa_cons (pe_def Dopen_rooms (hr.mono (by decide)) rfl (pa_cons (pv 0) (pa_cons (pv 1) pa_nil))) pa_nil) (fun _ _ _ _ _ => (pe_ix (ix_seqK (K := K) rfl) (pv 1) (pv 0) (fun _ _ => rfl))) rfl rfl rfl rfl rfl rfl (fun _ _ _ _ _ => rfl) rfl rfl))
      (pss_cons (ps_set (i := 6) sc_bring_in.nd rfl (Or.inl rfl) (pe_op op_cat' (pv 1) (pe_lst' (pa_cons (pv 5) pa_nil))))
      (pss_cons (ps_for PassesOwn.never rfl (pi_listK (K := K) rfl (pe_ix (ix_seqK (K := K) rfl) (pv 3) (pv 5) (fun _ _ => rfl))) (pg_name (i := 7) sc_bring_in.nd rfl (Or.inl rfl))
      (pss_one (ps_asg (pe_ix (ix_seqK (K := K) rfl) (pv 7) pe_int (fun _ _ => rfl)) (pg_sub (pv 6) (pe_ix (ix_seqK (K := K) rfl) (pv 7) pe_int (fun _ _ => rfl)) set_list))))
      (pss_one (ps_ret (pv 6)))))))))), ?_⟩
    obtain ⟨dx, b, w, h1, h2, h3⟩ := hA.ex
    obtain ⟨ws, hw, hR⟩ := id h3
    have l1 := bok.w1
    have l2 := bok.b1
    have hway := fit_lt hfit
    have hrow : worths[way.length]? = some worths[way.length] := by simp [hlt]
    have hrl := bok.rows _ (List.getElem_mem hlt)
    obtain ⟨ra, g1, g2, g3⟩ := hR.at_ hrow
    -- newcomer
    refine ⟨_, rfl, a, _, rfl, .inl (SqL.of ha), ?_⟩
    rw [wI_len]
    -- gains
    refine ⟨_, rfl, p, C, dx, _, _, rfl, h1, HC.cl, HC.nW, hf_worths _ _ _, _, rfl, ?_⟩
    refine ixL (SqL.of hw) (atI_int way.length rfl g2) ?_
    refine ⟨ra, _, rfl, .inl (SqL.of g3), fun ga H1 n1 => ?_⟩
    -- moves
    refine ⟨_, rfl, p, dx, _, rfl, n1.same _ _ h1, hf_no _ _ _ (by decide +kernel) (by decide +kernel) (by decide +kernel), p, beds, worths, rent, rfl, hA.same n1.same, ?_⟩
    refine ⟨_, rfl, by omega, by omega, fun mv hmv => ?_⟩
    rw [Int.toNat_natCast]
    have ngm : ga ≠ mv := ne_of_none n1.at_ hmv
    refine comp_range (fun i y H => ∃ l t, y = .ref l ∧ l ≠ mv ∧ l ≠ ga ∧ t ≠ mv ∧ H l = some (.lst [.ref t]) ∧ H t = some (.tup [.int (way.length : Int), .int (i : Int)])) (by rw [sizeLine_eq]; omega) hmv (fun i y H H' k ⟨l, t, e, ne1, ne2, ne3, h1, h2⟩ => ⟨l, t, e, ne1, ne2, ne3, k l _ ne1 h1, k t _ ne3 h2⟩) ?_ ?_
    · rintro i H2 ys N hi s2 d2 hN
      refine ⟨_, rfl, _, rfl, len_small (by simp), fun t3 H3 n3 => ⟨len_small (by simp), fun l3 H4 n4 => ?_⟩⟩
      refine hN _ _ (n3.same.trans n4.same) ⟨l3, t3, rfl, ?_, ?_, ?_, n4.at_, ?_⟩
      · exact (ne_of_none (n3.same _ _ d2) n4.none).symm
      · exact (ne_of_none (n3.same _ _ (s2 _ _ n1.at_)) n4.none).symm
      · exact (ne_of_none d2 n3.none).symm
      · have := n4.same _ _ n3.at_
        simpa using this
    rintro ys H2 s2 d2 ly r2
    obtain ⟨ls, els, pls⟩ := refs_ex (P := fun i l => ∃ t, l ≠ mv ∧ l ≠ ga ∧ H2 l = some (.lst [.ref t]) ∧ H2 t = some (.tup [.int (way.length : Int), .int (i : Int)])) (fun i y e => by
      obtain ⟨l, t, e1, e2, e3, _, e4, e5⟩ := r2 i y e
      exact ⟨l, e1, t, e2, e3, e4, e5⟩)
    subst els
    have lls : ls.length = beds.length := by simpa using ly
    have S2 : Same H H2 := n1.same.trans s2
    have hrowe : (worths[way.length]) = (List.range beds.length).map fun r => wF worths way.length r := by
      refine List.ext_getElem (by simp [hrl]) fun i z1 z2 => ?_
      simp [wF, List.getD, hlt, z1]
    have hM2 : MovesAt H2 ga mv (first (wF worths) way beds.length).1 (first (wF worths) way beds.length).2 := by
      refine ⟨ngm, ?_, ls, d2, by simp [first, lls], fun x hx => ?_, fun i x c z1 z2 => ?_⟩
      · rw [s2 _ _ n1.at_, hrowe]
        rfl
      · obtain ⟨i, hi, rfl⟩ := List.mem_iff_getElem.mp hx
        obtain ⟨t, e1, e2, _⟩ := pls i _ (List.getElem?_eq_getElem hi)
        exact ⟨e2, e1⟩
      · obtain ⟨t, e1, e2, e3, e4⟩ := pls i x z1
        have hi : i < beds.length := by rw [← lls]; exact (List.getElem?_eq_some_iff.mp z1).1
        have ec : c = [(way.length, i)] := by
          simp [first, hi] at z2
          exact z2.symm
        subst ec
        refine ⟨[t], e3, rfl, fun j t' m' y1 y2 => ?_⟩
        have hj : j = 0 := by have := (List.getElem?_eq_some_iff.mp y1).1; simp at this; omega
        subst hj
        simp at y1 y2
        subst y1 y2
        exact e4
    have hok0 : Ok (wF worths) way beds.length (first (wF worths) way beds.length) := first_ok
    -- the turns
    refine ⟨_, rfl, p, dx, _, rfl, S2 _ _ h1, hf_no _ _ _ (by decide +kernel) (by decide +kernel) (by decide +kernel), p, beds, worths, rent, rfl, hA.same S2, ?_⟩
    refine ⟨_, rfl, by omega, by omega, ?_⟩
    rw [Int.toNat_natCast]
    refine for_range (fun i σ H' => (∃ o4 o5 o6 o7, σ = [some (.ref p), some (.ref a), some (.int (way.length : Int)), some (.ref mv), o4, o5, o6, o7, some (.ref ga)]) ∧ Same H H' ∧ MovesAt H' ga mv (turns (wF worths) way beds.length (first (wF worths) way beds.length) i).1 (turns (wF worths) way beds.length (first (wF worths) way beds.length) i).2)
      ⟨⟨_, _, _, _, rfl⟩, S2, hM2⟩ ?_ ?_
    · rintro i σ H3 hi ⟨⟨o4, o5, o6, o7, rfl⟩, S3, hM3⟩
      refine ⟨_, rfl, _, rfl, _, rfl, _, rfl, H, p, a, ga, mv, beds, worths, rent, way, _, rfl, S3, n1.none, n1.same.free hmv, hA, ha, bok, hlt, hfit, hopt, turns_ok hfit hopt hway i, hM3, fun H4 k4 hM4 => ?_⟩
      refine ⟨⟨_, _, _, _, rfl⟩, fun c o e => k4 c o (S3 _ _ e) (ne_of_none e n1.none) (ne_of_none e (n1.same.free hmv)), ?_⟩
      rw [turns_succ]
      exact hM4
    rintro σ H3 ⟨⟨o4, o5, o6, o7, rfl⟩, S3, hM3⟩
    have hok3 : Ok (wF worths) way beds.length (turns (wF worths) way beds.length (first (wF worths) way beds.length) beds.length) := turns_ok hfit hopt hway _
    have hbr := fun e he hbest => brought (W := wF worths) (way := way) (R := beds.length) (bF_out beds) hfit hopt (e := e) he hbest
    generalize turns (wF worths) way beds.length (first (wF worths) way beds.length) beds.length = st at *
    obtain ⟨gs, ms⟩ := st
    have lg : gs.length = beds.length := hok3.l1
    have lm : ms.length = beds.length := hok3.l2
    -- end
    refine ⟨_, rfl, _, rfl, p, a, beds, worths, rent, wI way, rfl, hA.same S3, by omega, SqL.of (S3 _ _ ha), fun ol H4 n4 => ?_⟩
    have S4 : Same H H4 := S3.trans n4.same
    obtain ⟨r1, hr1, hr2⟩ := open_ex hsum hb0
    have hM4 := hM3.same n4.same
    refine ⟨ol, openL beds (wI way), fun z => gs.getD z.toNat 0, rfl, SqL.of n4.at_, List.length_pos_of_mem (mem_open.mpr ⟨r1, rfl, hr1, hr2⟩), hL.same S4, fun z hz H5 s5 => ?_, fun z hz hmax H5 s5 o5 hL5 => ?_⟩
    · obtain ⟨r, rfl, hr, _⟩ := mem_open.mp hz
      have gr : (gs.map V.int)[r]? = some (.int (gs.getD r 0)) := by simp [lg, hr, List.getD]
      refine ⟨_, rfl, _, rfl, ?_⟩
      refine ixL (SqL.of (s5.to _ _ hM4.g rfl)) (atI_int r rfl gr) ?_
      exact ⟨rfl, rfl⟩
    obtain ⟨e, rfl, he, hec⟩ := mem_open.mp hz
    have hbest : ∀ r, way.count r < bF beds r → gs.getD r 0 ≤ gs.getD e 0 := fun r hr => by
      have hrl' : r < beds.length := by
        refine Classical.byContradiction fun z => ?_
        have := bF_out beds r (by omega)
        omega
      have := hmax _ (mem_open.mpr ⟨r, rfl, hrl', hr⟩)
      simpa using this
    obtain ⟨b1, b2, b3⟩ := hbr e hec hbest _ rfl
    -- brought
    have S5 : SameB H H5 := S4.b.trans s5
    refine ⟨_, rfl, _, rfl, len_small (by simp), fun t6 H6 n6 => ?_⟩
    refine ⟨a, t6, _, _, rfl, rfl, n6.same _ _ (S5.to _ _ ha rfl), n6.at_, by rw [sizeLine_eq, wI_len]; simp; omega, fun br H7 n7 => ?_⟩
    have s7 : SameB H4 H7 := s5.trans (n6.same.trans n7.same).b
    have S7 : SameB H H7 := S4.b.trans s7
    have hbr7 : H7 br = some (.lst ((wI (way ++ [e])).map V.int)) := by
      rw [n7.at_]
      simp [wI]
    obtain ⟨ls3, e1, e2, e3, e4⟩ := hM4.ex
    have e2' : ls3.length = ms.length := e2
    have hlle : (ls3.map V.ref)[e]? = some (.ref (ls3[e]'(by omega))) := by simp [show e < ls3.length by omega]
    have hme : ms[e]? = some (ms.getD e []) := by simp [List.getD, show e < ms.length by omega]
    obtain ⟨ts, c1, c2, c3⟩ := e4 e (ls3[e]'(by omega)) _ (by simp [show e < ls3.length by omega]) hme
    have fbr : H br = none := S5.th _ (n6.same.free n7.none)
    have c1' : H7 (ls3[e]'(by omega)) = some (.lst (ts.map V.ref)) := s7.to _ _ c1 rfl
    have ncb : ls3[e]'(by omega) ≠ br := ne_of_none (n6.same _ _ (s5.to _ _ c1 rfl)) n7.none
    obtain ⟨r0, cc, gg, f1, f2, _⟩ := hok3.at_ e he
    have f1' : ms.getD e [] = (way.length, r0) :: cc := f1
    have hpers : ∀ m ∈ ms.getD e [], m.1 < (way ++ [e]).length := fun m hm => by
      rw [f1'] at hm
      simp
      rcases List.mem_cons.mp hm with z | z
      · rw [z]; omega
      · have := (f2.persons m z).1; omega
    have alen : ∀ (v : List Nat) (c : List (Nat × Nat)), (app v c).length = v.length := fun v c => by
      induction c generalizing v with
      | nil => rfl
      | cons m c ih => show (app (v.set m.1 m.2) c).length = _; rw [ih]; simp
    clear f1 f2
    generalize ms.getD e [] = ch at *
    refine ⟨_, rfl, _, rfl, ?_⟩
    refine ixL (SqL.of (s7.to _ _ e1 rfl)) (atI_int e rfl hlle) ?_
    generalize ls3[e]'(by omega) = ca at *
    refine ⟨ca, rfl, ⟨_, SqL.of c1'⟩, ?_⟩
    refine for_list (xs := ts.map V.ref) (fun i σ H' => (∃ o4 o7, σ = [some (.ref p), some (.ref a), some (.int (way.length : Int)), some (.ref mv), o4, some (.int (e : Int)), some (.ref br), o7, some (.ref ga)]) ∧ (∀ b o, H7 b = some o → b ≠ br → H' b = some o) ∧ H' br = some (.lst ((wI (app (way ++ [e]) (ch.take i))).map V.int)) ∧ ∀ b, H' b = none → H7 b = none)
      ⟨⟨_, _, rfl⟩, fun _ _ e _ => e, hbr7, fun _ z => z⟩ (fun i σ H' _ h => SqL.of (h.2.1 _ _ c1' ncb)) ?_ ?_
    · rintro i x σ H8 hx ⟨⟨o4', o7', rfl⟩, k8, hb8, z8⟩
      obtain ⟨t, ht, rfl⟩ := ref_at hx
      have hi : i < ch.length := by rw [← c2]; exact (List.getElem?_eq_some_iff.mp ht).1
      have hm : ch[i]? = some ch[i] := by simp [hi]
      have ht7 := s7.to _ _ (c3 i t _ ht hm) rfl
      have ht8 := k8 _ _ ht7 (ne_of ht7 hbr7 (by intro z; cases z))
      have hp := hpers _ (List.getElem_mem hi)
      refine ⟨_, rfl, ?_⟩
      refine ixT (SqT.of ht8) rfl ?_
      refine ⟨_, rfl, _, rfl, ?_⟩
      refine ixT (SqT.of ht8) rfl ?_
      refine ⟨br, _, _, ch[i].1, rfl, rfl, hb8, ?_, ?_⟩
      · unfold ixN
        rw [if_pos (by omega), if_pos (by rw [wI_len, alen]; omega)]
        simp
      refine ⟨⟨_, _, rfl⟩, fun c o e' hne => by rw [upd_ne hne]; exact k8 c o e' hne, ?_, fun c e' => z8 c (by
        by_cases hc : c = br
        · subst hc; rw [upd_same] at e'; cases e'
        · rw [upd_ne hc] at e'; exact e')⟩
      have et : ch.take (i + 1) = ch.take i ++ [ch[i]] := by rw [List.take_succ, hm]; rfl
      rw [upd_same, et, app_snoc]
      simp [wI, List.map_set]
    · rintro σ H8 ⟨⟨o4', o7', rfl⟩, k8, hb8, z8⟩
      have hend : (ts.map V.ref).length = ch.length := by rw [List.length_map, c2]
      rw [hend, List.take_length] at hb8
      refine ⟨_, rfl, ?_⟩
      refine q br _ H8 ⟨fun c o e' z => k8 _ _ (S7.to _ _ e' z) (ne_of_none e' fbr), fun c e' => S7.th _ (z8 _ e')⟩ (fun c o e' hc => k8 _ _ (n7.same _ _ (n6.same _ _ (o5 _ _ (S4 _ _ e') hc))) (ne_of_none e' fbr)) fbr hb8 ?_ b1 b2 fun v hv => b3 v (hv.trans b1)
      have hL7 := (hL5.same n6.same).same n7.same
      rcases hL7 with z | ⟨c', oc, vs, t, z1, z2, z3⟩
      · exact .inl (k8 _ _ z (ne_of z hbr7 (by intro w; cases w)))
      · exact .inr ⟨c', oc, vs, t, k8 _ _ z1 (ne_of z1 hbr7 (by intro w; cases w)), k8 _ _ z2 (ne_of z2 hbr7 (by intro w; cases w)), z3⟩
theorem D_best {C PT : Addr} (T : Txt mg) (HC : HCls K mg C) (S : Src K mg "best_way" "best_way" s_best_way) (Dbring_in : Def P w K mg base 4 "bring_in" ["house", "way"] (sp_bring2 K C PT lamPos "bring_in.<locals>.<lambda>")) (Mpeople : MDef P w K mg base 1 C "people" ["self"] (sp_people C)) : Def P w K mg base 5 "best_way" ["house"] (sp_best2 K C PT lamPos "bring_in.<locals>.<lambda>") := by
  refine S.mk' sc_best_way (fun vs H Q E h => ?_) (fun _ _ _ _ _ _ us hl => match us, hl with | [_], _ => rfl) (fun f cdv A outer s H vs Q E hr h => ?_)
  · obtain ⟨p, beds, worths, rent, rfl, _⟩ := h
    rfl
  · obtain ⟨p, beds, worths, rent, rfl, hA, bok, hsum, hb0, hL, q⟩ := h
    refine ⟨_, (pss_cons (ps_set (i := 1) sc_best_way.nd rfl (Or.inl rfl) (pe_lst' pa_nil))
      (pss_cons (ps_while PassesOwn.never (pt_cmpR op_lt (pe_callB (call_lenK (K := K) rfl) (by rfl) T.len boot_len' (pa_cons (pv 1) pa_nil)) (pe_mdef0 Mpeople HC.cl (pv 0) (hr.mono (by decide))) (nomark _)) (pss_one (ps_set (i := 1) sc_best_way.nd rfl (Or.inl rfl) (pe_def Dbring_in (hr.mono (by decide)) rfl (pa_cons (pv 0) (pa_cons (pv 1) pa_nil))))))
      (pss_one (ps_ret (pv 1))))), ?_⟩
    have l1 := bok.w1
    walk_at "go"
    refine fun l0 H1 n1 => ?_
    refine ⟨fun m σ H' => ∃ (l : Addr) (way : List Nat), σ = [some (.ref p), some (.ref l)] ∧ SameB H H' ∧ SameO PT H H' ∧ H l = none ∧ H' l = some (.lst ((wI way).map V.int)) ∧ LamAt H' PT lamPos "bring_in.<locals>.<lambda>" ∧ m + way.length = worths.length ∧ Fit (bF beds) way ∧ Opt beds worths way, ⟨worths.length, l0, [], rfl, n1.same.b, n1.same.o, n1.none, n1.at_, hL.same n1.same, rfl, fun r => by simp, fun v hv _ => by
      have : v = [] := List.length_eq_zero_iff.mp hv
      rw [this]
      exact Int.le_refl _⟩, ?_⟩
    rintro m σ H2 ⟨l, way, rfl, s2, o2, hl0, hl, hL2, hm, hfit, hopt⟩
    have hA2 := hA.sameB s2
    obtain ⟨dx, b, w, h1, h2, h3⟩ := hA2.ex
    refine ⟨_, rfl, l, _, rfl, .inl (SqL.of hl), ?_⟩
    rw [wI_len]
    refine ⟨_, rfl, p, dx, _, rfl, h1, hf_no _ _ _ (by decide +kernel) (by decide +kernel) (by decide +kernel), p, beds, worths, rent, rfl, hA2, ?_⟩
    refine ⟨_, _, rfl, rfl, _, rfl, ite2 (fun hlt => ?_) (fun hge => ?_)⟩
    · have hlt' : way.length < worths.length := by
        have : (way.length : Int) < worths.length := of_decide_eq_true hlt
        omega
      refine ⟨fun σ' H' => ∃ (l : Addr) (way' : List Nat), σ' = [some (.ref p), some (.ref l)] ∧ SameB H H' ∧ SameO PT H H' ∧ H l = none ∧ H' l = some (.lst ((wI way').map V.int)) ∧ LamAt H' PT lamPos "bring_in.<locals>.<lambda>" ∧ way'.length = way.length + 1 ∧ Fit (bF beds) way' ∧ Opt beds worths way', fun σ' H' ⟨l', way', e1, e2, e2', e3, e4, e5, e6, e7, e8⟩ => ⟨m - 1, by omega, l', way', e1, e2, e2', e3, e4, e5, by omega, e7, e8⟩, ?_⟩
      refine ⟨_, rfl, _, rfl, p, l, beds, worths, rent, way, rfl, hA2, hl, bok, hlt', by omega, hb0, hfit, hopt, hL2, fun l' way' H3 s3 o3 f3 h3' hL3 e1 e2 e3 => ?_⟩
      exact ⟨l', way', rfl, s2.trans s3, o2.trans o3, s2.th _ f3, h3', hL3, e1, e2, e3⟩
    · walk_at "go"
      have hge' : way.length = worths.length := by
        have : ¬ (way.length : Int) < worths.length := fun z => hge (decide_eq_true z)
        omega
      exact q l way H2 s2 o2 hl0 hl hL2 hge' hfit hopt
theorem D_weighed {C : Addr} (T : Txt mg) (HC : HCls K mg C) (S : Src K mg "weighed" "weighed" s_weighed) (Mpeople : MDef P w K mg base 1 C "people" ["self"] (sp_people C)) (Mrooms : MDef P w K mg base 1 C "rooms" ["self"] (sp_rooms C)) : Def P w K mg base 2 "weighed" ["house", "old", "person"] (sp_weighed K C) := by
  refine S.mk' sc_weighed (fun vs H Q E h => ?_) (fun _ _ _ _ _ _ us hl => match us, hl with | [_, _, _], _ => rfl) (fun f cdv A outer s H vs Q E hr h => ?_)
  · obtain ⟨p, a, i, beds, worths, rent, old, rfl, _⟩ := h
    rfl
  · obtain ⟨p, a, i, beds, worths, rent, old, rfl, hA, bok, hx, ha, hol, hi, q⟩ := h
    refine ⟨_, (pss_cons (ps_set (i := 3) sc_weighed.nd rfl (Or.inr rfl) (pe_ix (ix_seqK (K := K) rfl) (pe_fldK (K := K) rfl (pv 0) rfl) (pv 2) (fun _ _ => rfl)))
      (pss_cons (ps_set (i := 4) sc_weighed.nd rfl (Or.inr rfl) (pe_op op_add (pe_mdef0 Mpeople HC.cl (pv 0) (hr.mono (by decide))) pe_int))
      (pss_one (ps_ret (pe_comp ["room", "old", "person", "scale", "worths"] [none, some 1, some 2, some 4, some 3] rfl rfl rfl (pi_range1 rfl T.range (pa_cons (pe_mdef0 Mrooms HC.cl (pv 0) (hr.mono (by decide))) pa_nil)) (fun _ _ _ _ => (pg_name (i := 0) (by decide +kernel : (["room", "old", "person", "scale", "worths"] : List PySem.Str).Nodup) rfl (Or.inl rfl))) (fun _ _ _ _ => pifs_nil) (fun _ _ _ _ => (pe_op op_add (pe_op op_mulW (pe_ix (ix_seqK (K := K) rfl) (pv 4) (pv 0) (fun _ _ => rfl)) (pv 3)) (pe_join (pe_ifExp (pt_cmpR op_eq (pe_ix (ix_seqK (K := K) rfl) (pv 1) (pv 2) (fun _ _ => rfl)) (pv 0) (nomark _)) pe_int pe_int))))))))), ?_⟩
    obtain ⟨dx, b, w, h1, h2, h3⟩ := hA.ex
    obtain ⟨ws, hw, hR⟩ := id h3
    have l1 := bok.w1
    have l2 := bok.b1
    have hrow : worths[i]? = some worths[i] := by simp [hi]
    have hrl := bok.rows _ (List.getElem_mem hi)
    obtain ⟨ra, g1, g2, g3⟩ := hR.at_ hrow
    refine ⟨_, rfl, p, C, dx, _, _, rfl, h1, HC.cl, HC.nW, hf_worths _ _ _, _, rfl, ?_⟩
    refine ixL (SqL.of hw) (atI_int i rfl g2) ?_
    refine ⟨_, rfl, p, dx, _, rfl, h1, hf_no _ _ _ (by decide +kernel) (by decide +kernel) (by decide +kernel), p, beds, worths, rent, rfl, hA, ?_⟩
    walk_at "go"
    refine ⟨p, dx, _, rfl, h1, hf_no _ _ _ (by decide +kernel) (by decide +kernel) (by decide +kernel), p, beds, worths, rent, rfl, hA, ?_⟩
    refine ⟨_, rfl, by omega, by omega, fun D hD => ?_⟩
    rw [Int.toNat_natCast]
    refine compRangeV (fun r => .int (wF worths i r * ((worths.length : Int) + 1) + (if old.getD i none = some (r : Int) then 1 else 0))) (by rw [sizeLine_eq]; omega) hD (fun r hr H1 N s1 hN => ?_) fun H1 s1 d1 => ?_
    · have g5 : (worths[i].map V.int)[r]? = some (.int (wF worths i r)) := by simp [wF, List.getD, hi, show r < worths[i].length by omega]
      have hxb : -(10 ^ 42) < wF worths i r ∧ wF worths i r < 10 ^ 42 := by
        have : wF worths i r = worths[i][r]'(by omega) := by simp [wF, List.getD, hi, show r < worths[i].length by omega]
        rw [this]
        exact hx _ (List.getElem_mem hi) _ (List.getElem_mem _)
      walk_at "go"
      refine ixL (SqL.of (s1 _ _ g3)) (atI_int r (by omega) g5) ?_
      walk_at "go"
      refine ⟨fun v H' => H' = H1 ∧ v = .int (if old.getD i none = some (r : Int) then 1 else 0), ?_, ?_⟩
      · walk_at "go"
        refine ixL (s1.seq ha) (atI_int i rfl (oV_at (by omega))) ?_
        walk_at "go"
        cases ho : old.getD i none with
        | none =>
          refine ⟨rfl, _, rfl, iteE rfl ?_⟩
          exact ⟨rfl, rfl⟩
        | some m =>
          refine ⟨rfl, _, rfl, ?_⟩
          refine ite2 (fun e => ?_) (fun e => ?_)
          · have e' : V.int m = V.int (0 + (r : Int)) := of_decide_eq_true e
            injection e' with e'
            refine ⟨rfl, ?_⟩
            rw [if_pos (by rw [e']; simp)]
          · have e' : ¬ V.int m = V.int (0 + (r : Int)) := fun z => e (decide_eq_true z)
            refine ⟨rfl, ?_⟩
            rw [if_neg (fun z => e' (by injection z with z; rw [z]; simp))]
      · rintro v H2 ⟨rfl, rfl⟩
        exact ⟨_, _, rfl, rfl, hN _ (Same.refl _)⟩
    · have e : (wgh worths old beds.length).getD i [] = (List.range beds.length).map fun r => wF worths i r * ((worths.length : Int) + 1) + (if old.getD i none = some (r : Int) then 1 else 0) := by
        unfold wgh
        rw [List.getD_eq_getElem?_getD, List.getElem?_map, List.getElem?_range hi]
        rfl
      refine q D H1 ⟨s1, hD, ?_⟩
      rw [d1, e, List.map_map]
      rfl
theorem D_kept {C PT : Addr} (T : Txt mg) (HC : HCls K mg C) (S : Src K mg "kept_way" "kept_way" s_kept_way) (M__init__ : MDef P w K mg base 1 C "__init__" ["self", "beds", "worths", "rent"] (sp_init C)) (Dweighed : Def P w K mg base 2 "weighed" ["house", "old", "person"] (sp_weighed K C)) (Dbest_way : Def P w K mg base 5 "best_way" ["house"] (sp_best2 K C PT lamPos "bring_in.<locals>.<lambda>")) (Mpeople : MDef P w K mg base 1 C "people" ["self"] (sp_people C)) : Def P w K mg base 6 "kept_way" ["house", "old"] (sp_kept2 K C PT lamPos "bring_in.<locals>.<lambda>") := by
  refine S.mk' sc_kept_way (fun vs H Q E h => ?_) (fun _ _ _ _ _ _ us hl => match us, hl with | [_, _], _ => rfl) (fun f cdv A outer s H vs Q E hr h => ?_)
  · obtain ⟨p, a, beds, worths, rent, old, rfl, _⟩ := h
    rfl
  · obtain ⟨p, a, beds, worths, rent, old, rfl, hA, bok, hx, ha, hol, hle, hb0, hL, q⟩ := h
    refine ⟨_, (pss_cons (ps_setC (i := 2) sc_kept_way.nd rfl (Or.inl rfl) ["person", "house", "old"] [none, some 0, some 1] rfl rfl rfl (pi_range1 rfl T.range (pa_cons (pe_mdef0 Mpeople HC.cl (pv 0) (hr.mono (by decide))) pa_nil)) (fun _ _ _ _ => (pg_name (i := 0) (by decide +kernel : (["person", "house", "old"] : List PySem.Str).Nodup) rfl (Or.inl rfl))) (fun _ _ _ _ => pifs_nil) (fun _ _ _ _ => (pe_def Dweighed (hr.mono (by decide)) rfl (pa_cons (pv 1) (pa_cons (pv 2) (pa_cons (pv 0) pa_nil))))))
      (pss_one (ps_ret (pe_def Dbest_way (hr.mono (by decide)) rfl (pa_cons (pe_mk M__init__ HC.mks HC.kp HC.mgC (hr.mono (by decide)) rfl (pa_cons (pe_fldK (K := K) rfl (pv 0) rfl) (pa_cons (pv 2) (pa_cons (pe_fldK (K := K) rfl (pv 0) rfl) pa_nil)))) pa_nil))))), ?_⟩
    obtain ⟨dx, b, w, h1, h2, h3⟩ := hA.ex
    have l1 := bok.w1
    have l2 := bok.b1
    refine ⟨_, rfl, p, dx, _, rfl, h1, hf_no _ _ _ (by decide +kernel) (by decide +kernel) (by decide +kernel), p, beds, worths, rent, rfl, hA, ?_⟩
    refine ⟨_, rfl, by omega, by omega, fun D hD => ?_⟩
    rw [Int.toNat_natCast]
    refine comp_range (fun i y H => ∃ l, y = .ref l ∧ l ≠ D ∧ H l = some (.lst (((wgh worths old beds.length).getD i []).map V.int))) (by rw [sizeLine_eq]; omega) hD (fun i y H H' k ⟨l, e, ne, h⟩ => ⟨l, e, ne, k l _ ne h⟩) ?_ ?_
    · rintro i H1 ys N hi s1 d1 hN
      refine ⟨_, rfl, _, rfl, _, rfl, p, a, i, beds, worths, rent, old, by simp, hA.same s1, bok, hx, s1.seq ha, hol, hi, fun l H2 n2 => ?_⟩
      exact hN _ _ n2.same ⟨l, rfl, (ne_of_none d1 n2.none).symm, n2.at_⟩
    rintro ys H1 s1 d1 ly r1
    obtain ⟨ws', e', p'⟩ := refs_ex (P := fun i l => H1 l = some (.lst (((wgh worths old beds.length).getD i []).map V.int))) (fun i y e => by
      obtain ⟨l, h1, _, h3⟩ := r1 i y e
      exact ⟨l, h1, h3⟩)
    subst e'
    have lw' : ws'.length = worths.length := by simpa using ly
    have hM1 : Mat H1 D (wgh worths old beds.length) := ⟨ws', d1, by rw [wgh_len, lw'], fun i a' row z1 z2 => by
      have := p' i a' z1
      rw [List.getD_eq_getElem?_getD, z2] at this
      exact this⟩
    have h1' := s1 _ _ h1
    refine ⟨_, rfl, ?_⟩
    refine ⟨p, C, dx, _, _, rfl, h1', HC.cl, HC.nB, hf_beds _ _ _, _, rfl, _, rfl, p, C, dx, _, _, rfl, h1', HC.cl, HC.nR, hf_rent _ _ _, ?_⟩
    refine fun x dy nx ndx nex => ?_
    have s0 : Same H1 (upd (upd H1 dy (.own x)) x (.ins C dy [])) := fun c o e => by
      rw [upd_ne (ne_of_none e nx), upd_ne (ne_of_none e ndx)]
      exact e
    refine ⟨x, dy, b, D, beds, wgh worths old beds.length, rent, rfl, upd_same, s0 _ _ (s1 _ _ h2), hM1.same s0, by omega, by rw [wgh_len]; omega, by rw [wgh_len]; exact hle, fun H4 hA4 kp => ⟨rfl, ?_⟩⟩
    have S4 : Same H H4 := s1.trans fun c o e => kp c o (s0 _ _ e) (ne_of_none e nx)
    refine ⟨x, beds, wgh worths old beds.length, rent, rfl, hA4, ⟨l2, by rw [wgh_len]; exact l1, wgh_rows⟩, by rw [wgh_len]; exact hle, hb0, hL.same S4, fun l5 way H5 s5 so5 f5 h5 hL5 ln fit opt => ?_⟩
    rw [wgh_len] at ln
    obtain ⟨k1, k2⟩ := kept_best ln fit opt
    exact q l5 way H5 (S4.b.trans s5) (S4.o.trans so5) (S4.free f5) h5 hL5 ln fit k1 k2
theorem D_mixed (S : Src K mg "_law_mixed" "_law_mixed" s__law_mixed) : Def P w K mg base 1 "_law_mixed" ["_law_cell", "_law_k"] sp_mixed := by
  refine S.mk' sc__law_mixed (fun vs H Q E h => ?_) (fun _ _ _ _ _ _ us hl => match us, hl with | [_, _], _ => rfl) (fun f cdv A outer s H vs Q E hr h => ?_)
  · obtain ⟨c, k, rfl, _⟩ := h
    rfl
  · obtain ⟨c, k, rfl, h1, h2, q⟩ := h
    refine ⟨_, (pss_cons (ps_set (i := 2) sc__law_mixed.nd rfl (Or.inl rfl) (pe_op op_mod (pe_op op_mulW (pe_op op_add (pe_op op_mod (pv 0) pe_int) pe_int) (pe_op op_add pe_int (pe_op op_mulW (pe_op op_mulW pe_int (pv 1)) (pv 1)))) pe_int))
      (pss_one (ps_ret (pe_op op_mod (pe_op op_mulW (pv 2) (pv 2)) pe_int)))), ?_⟩
    have b1 := mul_bd (a := 2 * k) (b := k) (A := 2000000) (B := 1000000) (by omega) (by omega) (by omega) (by omega)
    walk_at "go"
    exact q _ (Int.emod_nonneg _ (by decide)) (Int.emod_lt_of_pos _ (by decide))
theorem D_cell (T : Txt mg) (S : Src K mg "_law_cell_at" "_law_cell_at" s__law_cell_at) : Def P w K mg base 1 "_law_cell_at" ["_law_script", "_law_k"] (sp_cell K) := by
  refine S.mk' sc__law_cell_at (fun vs H Q E h => ?_) (fun _ _ _ _ _ _ us hl => match us, hl with | [_, _], _ => rfl) (fun f cdv A outer s H vs Q E hr h => ?_)
  · obtain ⟨a, ns, k, rfl, _⟩ := h
    rfl
  · obtain ⟨a, ns, k, rfl, hS, h0, q⟩ := h
    refine ⟨_, (pss_cons (ps_if (pt_cmpR op_lt (pv 1) (pe_callB (call_lenK (K := K) rfl) (by rfl) T.len boot_len' (pa_cons (pv 0) pa_nil)) (nomark _)) (pss_one (ps_ret (pe_ix (ix_seqK (K := K) rfl) (pv 0) (pv 1) (fun _ _ => rfl)))) pss_nil)
      (pss_one (ps_ret pe_int))), ?_⟩
    walk_at "go"
    refine ⟨a, _, rfl, .inl hS, ?_⟩
    walk_at "go"
    refine ite2 (fun e => ?_) (fun _ => q 0)
    walk_at "go"
    have hk : k < ns.length := by
      have := of_decide_eq_true e
      simpa using this
    exact ixInts hS h0 hk fun z _ => q z
theorem D_beds (T : Txt mg) (S : Src K mg "_law_beds" "_law_beds" s__law_beds) (D_law_mixed : Def P w K mg base 1 "_law_mixed" ["_law_cell", "_law_k"] sp_mixed) : Def P w K mg base 2 "_law_beds" ["_law_first", "_law_many"] sp_beds := by
  refine S.mk' sc__law_beds (fun vs H Q E h => ?_) (fun _ _ _ _ _ _ us hl => match us, hl with | [_, _], _ => rfl) (fun f cdv A outer s H vs Q E hr h => ?_)
  · obtain ⟨f, m, rfl, _⟩ := h
    rfl
  · obtain ⟨f, m, rfl, m0, m1, q⟩ := h
    refine ⟨_, (pss_cons (ps_set (i := 2) sc__law_beds.nd rfl (Or.inl rfl) (pe_lst' pa_nil))
      (pss_cons (ps_for PassesOwn.never rfl (pi_range1 rfl T.range (pa_cons (pv 1) pa_nil)) (pg_name (i := 3) sc__law_beds.nd rfl (Or.inl rfl))
      (pss_one (ps_expr (pe_bmK (K := K) rfl PySem.F.plainAttrs_list PySem.F.slot_list_append PySem.F.type_list_append mt_append (pv 2) (pa_cons (pe_ix (ix_seqK (K := K) rfl) (pe_lst' (pa_cons pe_int (pa_cons pe_int (pa_cons pe_int (pa_cons pe_int (pa_cons pe_int (pa_cons pe_int (pa_cons pe_int (pa_cons pe_int pa_nil))))))))) (pe_op op_mod (pe_def D_law_mixed (hr.mono (by decide)) rfl (pa_cons (pv 0) (pa_cons (pe_op op_add pe_int (pv 3)) pa_nil))) pe_int) (fun _ _ => rfl)) pa_nil)))))
      (pss_one (ps_ret (pv 2))))), ?_⟩
    walk_at "go"
    refine fun l H1 n1 => ?_
    refine ⟨_, rfl, _, rfl, by omega, by omega, ?_⟩
    refine for_range (fun i σ H' => ∃ (bs : List Int) (o : Option V), σ = [some (.int f), some (.int m), some (.ref l), o] ∧ H' l = some (.lst (bs.map V.int)) ∧ bs.length = i ∧ (∀ b ∈ bs, 1 ≤ b ∧ b ≤ 4) ∧ Same H H') ⟨[], none, rfl, n1.at_, rfl, (fun b hb => by cases hb), n1.same⟩ ?_ ?_
    · rintro i σ H2 hi ⟨bs, o, rfl, hl, hlen, hb, s2⟩
      refine ⟨_, rfl, .inl ⟨rfl, _, SqL.of hl⟩, ?_⟩
      walk_at "go"
      refine fun t H3 n3 => ?_
      walk_at "go"
      refine ⟨f, _, rfl, by omega, by omega, fun z z0 z1 => ?_⟩
      walk_at "go"
      refine ixInts (ns := [1, 1, 2, 1, 3, 1, 2, 4]) (SqL.of n3.at_) (by show (0 : Int) ≤ z % 8; omega) (by show z % 8 < 8; omega) fun x hx => ?_
      have hx' : 1 ≤ x ∧ x ≤ 4 := by
        simp only [List.mem_cons, List.not_mem_nil, or_false] at hx
        omega
      refine ⟨l, _, _, rfl, rfl, n3.same _ _ hl, by rw [sizeLine_eq]; simp; omega, ?_⟩
      refine ⟨bs ++ [x], _, rfl, by rw [upd_same]; simp, by simp [hlen], fun b hb' => ?_, fun c u e => ?_⟩
      · rcases List.mem_append.mp hb' with h | h
        · exact hb b h
        · have : b = x := by simpa using h
          rw [this]; exact hx'
      · rw [upd_ne (ne_of_none e n1.none)]
        exact n3.same _ _ (s2 _ _ e)
    · rintro σ H2 ⟨bs, o, rfl, hl, hlen, hb, s2⟩
      walk_at "go"
      exact q l bs H2 ⟨s2, n1.none, hl⟩ (by omega) hb
theorem D_worths (T : Txt mg) (S : Src K mg "_law_worths" "_law_worths" s__law_worths) (D_law_mixed : Def P w K mg base 1 "_law_mixed" ["_law_cell", "_law_k"] sp_mixed) : Def P w K mg base 2 "_law_worths" ["_law_script", "_law_first", "_law_people", "_law_rooms"] (sp_worths K) := by
  refine S.mk' sc__law_worths (fun vs H Q E h => ?_) (fun _ _ _ _ _ _ us hl => match us, hl with | [_, _, _, _], _ => rfl) (fun f cdv A outer s H vs Q E hr h => ?_)
  · obtain ⟨a, ns, f, p, r, rfl, _⟩ := h
    rfl
  · obtain ⟨a, ns, f, p, r, rfl, hS, hlen, p0, p1, r0, r1, q⟩ := h
    refine ⟨_, (pss_cons (ps_set (i := 4) sc__law_worths.nd rfl (Or.inl rfl) (pe_lst' pa_nil))
      (pss_cons (ps_for PassesOwn.never rfl (pi_range1 rfl T.range (pa_cons (pe_op op_mulW (pv 2) (pv 3)) pa_nil)) (pg_name (i := 5) sc__law_worths.nd rfl (Or.inl rfl))
      (pss_one (ps_expr (pe_bmK (K := K) rfl PySem.F.plainAttrs_list PySem.F.slot_list_append PySem.F.type_list_append mt_append (pv 4) (pa_cons (pe_def D_law_mixed (hr.mono (by decide)) rfl (pa_cons (pv 1) (pa_cons (pe_op op_add pe_int (pv 5)) pa_nil))) pa_nil)))))
      (pss_cons (ps_for PassesOwn.never rfl (pi_enumK (K := K) rfl rfl T.enumerate (pa_cons (pe_slice (sl_listK (K := K) rfl) (pv 0) (po_some pe_int) po_none) pa_nil)) (pg_tupK (K := K) (n := 2) rfl rfl (pgs_cons (pg_name (i := 5) sc__law_worths.nd rfl (Or.inl rfl)) (pgs_cons (pg_name (i := 6) sc__law_worths.nd rfl (Or.inl rfl)) pgs_nil)))
      (pss_cons (ps_set (i := 7) sc__law_worths.nd rfl (Or.inl rfl) (pe_op op_mod (pv 5) (pe_callB (call_lenK (K := K) rfl) (by rfl) T.len boot_len' (pa_cons (pv 4) pa_nil))))
      (pss_one (ps_asg (pe_op op_add (pe_op op_mod (pe_op op_mulW (pe_ix (ix_seqK (K := K) rfl) (pv 4) (pv 7) (fun _ _ => rfl)) pe_int) (pe_op op_pow pe_int pe_int)) (pe_op op_mod (pv 6) (pe_op op_pow pe_int pe_int))) (pg_sub (pv 4) (pv 7) set_list)))))
      (pss_cons (ps_set (i := 8) sc__law_worths.nd rfl (Or.inl rfl) (pe_lst' pa_nil))
      (pss_cons (ps_for PassesOwn.never rfl (pi_range1 rfl T.range (pa_cons (pv 2) pa_nil)) (pg_name (i := 9) sc__law_worths.nd rfl (Or.inl rfl))
      (pss_cons (ps_set (i := 10) sc__law_worths.nd rfl (Or.inl rfl) (pe_slice (sl_listK (K := K) rfl) (pv 4) (po_some (pe_op op_mulW (pv 9) (pv 3))) (po_some (pe_op op_add (pe_op op_mulW (pv 9) (pv 3)) (pv 3)))))
      (pss_cons (ps_join (ps_if (pt_cmpR op_eq (pe_op op_mod (pv 1) pe_int) pe_int (nomark _)) (pss_one (ps_setC (i := 10) sc__law_worths.nd rfl (Or.inl rfl) ["_law_number"] [none] rfl rfl rfl (pi_listK (K := K) rfl (pv 10)) (fun _ _ _ _ => (pg_name (i := 0) (by decide +kernel : (["_law_number"] : List PySem.Str).Nodup) rfl (Or.inl rfl))) (fun _ _ _ _ => pifs_nil) (fun _ _ _ _ => (pe_op op_mod (pv 0) pe_int)))) (pss_one (ps_if (pt_cmpR op_eq (pe_op op_mod (pv 1) pe_int) pe_int (nomark _)) (pss_one (ps_setC (i := 10) sc__law_worths.nd rfl (Or.inl rfl) ["_law_number"] [none] rfl rfl rfl (pi_listK (K := K) rfl (pv 10)) (fun _ _ _ _ => (pg_name (i := 0) (by decide +kernel : (["_law_number"] : List PySem.Str).Nodup) rfl (Or.inl rfl))) (fun _ _ _ _ => pifs_nil) (fun _ _ _ _ => (pe_op op_sub (pe_op op_mod (pv 0) pe_int) pe_int)))) (pss_one (ps_if (pt_cmpR op_eq (pe_op op_mod (pv 1) pe_int) pe_int (nomark _)) (pss_one (ps_setC (i := 10) sc__law_worths.nd rfl (Or.inl rfl) ["_law_number"] [none] rfl rfl rfl (pi_listK (K := K) rfl (pv 10)) (fun _ _ _ _ => (pg_name (i := 0) (by decide +kernel : (["_law_number"] : List PySem.Str).Nodup) rfl (Or.inl rfl))) (fun _ _ _ _ => pifs_nil) (fun _ _ _ _ => (pe_op op_add (pe_op op_sub (pe_op op_mod (pv 0) (pe_op op_sub (pe_op op_mulW pe_int (pe_op op_pow pe_int pe_int)) pe_int)) (pe_op op_pow pe_int pe_int)) pe_int)))) (pss_one (ps_setC (i := 10) sc__law_worths.nd rfl (Or.inl rfl) ["_law_number"] [none] rfl rfl rfl (pi_listK (K := K) rfl (pv 10)) (fun _ _ _ _ => (pg_name (i := 0) (by decide +kernel : (["_law_number"] : List PySem.Str).Nodup) rfl (Or.inl rfl))) (fun _ _ _ _ => pifs_nil) (fun _ _ _ _ => (pe_op op_mulW (pe_op op_mod (pv 0) pe_int) pe_int))))))))))
      (pss_one (ps_expr (pe_bmK (K := K) rfl PySem.F.plainAttrs_list PySem.F.slot_list_append PySem.F.type_list_append mt_append (pv 8) (pa_cons (pv 10) pa_nil)))))))
      (pss_one (ps_ret (pv 8)))))))), ?_⟩
    have hpr := mul_bd (a := p) (b := r) (A := 10) (B := 10) (by omega) (by omega) (by omega) (by omega)
    have hpr0 : 0 < p * r := Int.mul_pos (by omega) (by omega)
    walk_at "go"
    refine fun l H1 n1 => ?_
    walk_at "go"
    -- sums
    refine for_range (fun i σ H' => ∃ (bs : List Int) (o5 o6 o7 o8 o9 o10 : Option V), σ = [some (.ref a), some (.int f), some (.int p), some (.int r), some (.ref l), o5, o6, o7, o8, o9, o10] ∧ H' l = some (.lst (bs.map V.int)) ∧ bs.length = i ∧ (∀ b ∈ bs, 0 ≤ b ∧ b < 10 ^ 42) ∧ Same H H') ⟨[], none, none, none, none, none, none, rfl, n1.at_, rfl, (fun b hb => by cases hb), n1.same⟩ ?_ ?_
    · rintro i σ H2 hi ⟨bs, o5, o6, o7, o8, o9, o10, rfl, hl, hlen, hb, s2⟩
      refine ⟨_, rfl, .inl ⟨rfl, _, SqL.of hl⟩, ?_⟩
      walk_at "go"
      refine ⟨f, _, rfl, by omega, by omega, fun z z0 z1 => ?_⟩
      refine ⟨l, _, _, rfl, rfl, hl, by rw [sizeLine_eq]; simp; omega, ?_⟩
      refine ⟨bs ++ [z], _, _, _, _, _, _, rfl, by rw [upd_same]; simp, by simp [hlen], fun b hb' => ?_, fun c u e => ?_⟩
      · rcases List.mem_append.mp hb' with h | h
        · exact hb b h
        · have : b = z := by simpa using h
          rw [this]; omega
      · rw [upd_ne (ne_of_none e n1.none)]
        exact s2 _ _ e
    rintro σ H2 ⟨bs, o5, o6, o7, o8, o9, o10, rfl, hl, hlen', hb, s2⟩
    -- the cells
    refine ⟨_, rfl, _, rfl, a, _, rfl, s2.seq hS, fun c1 H3 n3 => ?_⟩
    obtain ⟨ms, em, lm⟩ := cut_ints ns (some 1) none
    rw [em] at n3
    have hl3 := n3.same _ _ hl
    have S3 : Same H H3 := s2.trans n3.same
    have nlc : c1 ≠ l := (ne_of_none hl n3.none).symm
    refine ⟨c1, rfl, ⟨_, SqL.of n3.at_⟩, ?_⟩
    refine for_enum (xs := ms.map V.int) (fun i σ H' => ∃ (bs' : List Int) (o5 o6 o7 o8 o9 o10 : Option V), σ = [some (.ref a), some (.int f), some (.int p), some (.int r), some (.ref l), o5, o6, o7, o8, o9, o10] ∧ H' l = some (.lst (bs'.map V.int)) ∧ bs'.length = bs.length ∧ (∀ b ∈ bs', 0 ≤ b ∧ b < 10 ^ 42) ∧ Same H H' ∧ H' c1 = some (.lst (ms.map V.int)))
      ⟨bs, _, _, _, _, _, _, rfl, hl3, rfl, hb, S3, n3.at_⟩ (fun i σ H' _ ⟨_, _, _, _, _, _, _, _, _, _, _, _, h⟩ => SqL.of h) ?_ ?_
    · rintro i x σ H4 T4 hx ⟨bs', o5, o6, o7, o8, o9, o10, rfl, hl4, hlen4, hb4, s4, hc4⟩ hT4
      obtain ⟨z, hz, rfl⟩ := int_at hx
      have hi : i < ms.length := (List.getElem?_eq_some_iff.mp hz).1
      refine ⟨T4, [.int i, .int z], rfl, SqT.of upd_same, rfl, _, _, rfl, _, _, rfl, rfl, ?_⟩
      have s5 : Same H4 (upd H4 T4 (.tup [.int i, .int z])) := Same.upd hT4
      generalize upd H4 T4 (.tup [.int i, .int z]) = H5 at *
      have hl5 := s5 _ _ hl4
      have hbl : 0 < bs'.length := by omega
      -- at = k % len(sums)
      walk_at "go"
      refine ⟨l, _, rfl, .inl (SqL.of hl5), ?_⟩
      refine ⟨_, _, rfl, rfl, by simp; omega, ?_⟩
      have e1 : (i : Int) % ((bs'.map V.int).length : Int) = ((i % bs'.length : Nat) : Int) := by simp
      dsimp only
      rw [e1]
      have hj : i % bs'.length < bs'.length := Nat.mod_lt _ hbl
      generalize i % bs'.length = j at *
      have gj : (bs'.map V.int)[j]? = some (.int bs'[j]) := by simp [hj]
      obtain ⟨bj0, bj1⟩ := hb4 _ (List.getElem_mem hj)
      have gz := Int.emod_lt_of_pos z (show (0 : Int) < 10 ^ Int.toNat 41 by decide)
      have gz0 := Int.emod_nonneg z (show (10 : Int) ^ Int.toNat 41 ≠ 0 by decide)
      have gy := Int.emod_lt_of_pos (bs'[j] * 31) (show (0 : Int) < 10 ^ Int.toNat 41 by decide)
      have gy0 := Int.emod_nonneg (bs'[j] * 31) (show (10 : Int) ^ Int.toNat 41 ≠ 0 by decide)
      have ge : (10 : Int) ^ Int.toNat 41 = 10 ^ 41 := rfl
      walk_at "go"
      refine ixL (SqL.of hl5) (atI_int j rfl gj) ?_
      walk_at "go"
      refine ⟨l, _, _, j, rfl, rfl, hl5, ?_, ?_⟩
      · unfold ixN
        rw [if_pos (by omega), if_pos (by simp; omega)]
        simp
      refine ⟨bs'.set j (bs'[j] * 31 % 10 ^ Int.toNat 41 + z % 10 ^ Int.toNat 41), _, _, _, _, _, _, rfl, by rw [upd_same, List.map_set], by simp [hlen4], fun b hb' => ?_, fun c u e => ?_, ?_⟩
      · rcases List.mem_or_eq_of_mem_set hb' with h | h
        · exact hb4 b h
        · rw [h]; omega
      · rw [upd_ne (ne_of_none e n1.none)]
        exact s5 _ _ (s4 _ _ e)
      · rw [upd_ne nlc]
        exact s5 _ _ hc4
    rintro σ H4 ⟨bs', o5', o6', o7', o8', o9', o10', rfl, hl4, hlen4, hb4, s4, hc4⟩
    -- the rows
    walk_at "go"
    refine fun W H5 n5 => ?_
    walk_at "go"
    have S5 : Same H H5 := s4.trans n5.same
    have hl5 := n5.same _ _ hl4
    have fW : H W = none := s4.free n5.none
    have nlW : l ≠ W := ne_of_none hl4 n5.none
    refine for_range (fun i σ H' => ∃ (ws : List Addr) (rows : List (List Int)) (o5 o6 o7 o9 o10 : Option V), σ = [some (.ref a), some (.int f), some (.int p), some (.int r), some (.ref l), o5, o6, o7, some (.ref W), o9, o10] ∧ H' W = some (.lst (ws.map V.ref)) ∧ rows.length = i ∧ Rows H' ws rows ∧ (∀ w ∈ ws, w ≠ W) ∧ (∀ row ∈ rows, (row.length : Int) = r) ∧ (∀ row ∈ rows, ∀ x ∈ row, -(10 ^ 40) < x ∧ x < 10 ^ 40) ∧ Same H H' ∧ H' l = some (.lst (bs'.map V.int)))
      ⟨[], [], _, _, _, _, _, rfl, n5.at_, rfl, ⟨rfl, fun i a row h => by simp at h⟩, (fun w h => by cases h), (fun w h => by cases h), (fun w h => by cases h), S5, hl5⟩ ?_ ?_
    · rintro i σ H6 hi ⟨ws, rows, o5, o6, o7, o9, o10, rfl, hW, hrl, hR, hne, hr1, hr2, s6, hl6⟩
      have hir : ((i : Int) + 1) * r ≤ p * r := Int.mul_le_mul_of_nonneg_right (by omega) (by omega)
      have hir0 : 0 ≤ (i : Int) * r := Int.mul_nonneg (by omega) (by omega)
      have hir1 : ((i : Int) + 1) * r = (i : Int) * r + r := by rw [Int.add_mul, Int.one_mul]
      have hbig : (i : Int) * r ≤ 100 := by omega
      -- row = sums[i * rooms : i * rooms + rooms]
      have e0 : (0 + (i : Int)) * r = ((i * r.toNat : Nat) : Int) := by
        rw [Int.zero_add, Int.natCast_mul]
        congr 1
        omega
      have e1 : ((i * r.toNat : Nat) : Int) + r = ((i * r.toNat + r.toNat : Nat) : Int) := by
        rw [Int.natCast_add]
        congr 1
        omega
      have e2 : i * r.toNat + r.toNat ≤ bs'.length := by
        have : ((i * r.toNat + r.toNat : Nat) : Int) ≤ (bs'.length : Int) := by
          rw [← e1, ← e0, Int.zero_add]
          omega
        exact Int.ofNat_le.mp this
      walk_at "go"
      rw [e0, e1]
      refine ⟨l, _, rfl, SqL.of hl6, fun c H7 n7 => ?_⟩
      rw [cut_between bs' (Nat.le_add_right _ _) e2] at n7
      have hcl : ((bs'.drop (i * r.toNat)).take (i * r.toNat + r.toNat - i * r.toNat)).length = r.toNat := by
        rw [List.length_take, List.length_drop]
        omega
      have hcb : ∀ z ∈ (bs'.drop (i * r.toNat)).take (i * r.toNat + r.toNat - i * r.toNat), 0 ≤ z ∧ z < 10 ^ 42 := fun z hz => hb4 z (List.mem_of_mem_drop (List.mem_of_mem_take hz))
      generalize (bs'.drop (i * r.toNat)).take (i * r.toNat + r.toNat - i * r.toNat) = cs at *
      have hW7 := n7.same _ _ hW
      have S7 : Same H H7 := s6.trans n7.same
      have key : ∀ (g : Int → Int) (D : Addr) (H8 : Hp), (∀ z, 0 ≤ z → -(10 ^ 40) < g z ∧ g z < 10 ^ 40) → H7 D = none → Same H7 H8 → H8 D = some (.lst ((cs.map g).map V.int)) →
          ∃ (c' : Addr) (row : List Int), D = c' ∧ H8 c' = some (.lst (row.map V.int)) ∧ (row.length : Int) = r ∧ (∀ x ∈ row, -(10 ^ 40) < x ∧ x < 10 ^ 40) ∧ c' ≠ W ∧ Same H7 H8 := fun g D H8 hg hD s8 h8 =>
        ⟨D, cs.map g, rfl, h8, by rw [List.length_map, hcl]; omega, fun x hx => by
          obtain ⟨z, hz, rfl⟩ := List.mem_map.mp hx
          exact hg z (hcb z hz).1, (ne_of_none hW7 hD).symm, s8⟩
      refine ⟨fun σ' H' => ∃ (c' : Addr) (row : List Int), σ' = [some (.ref a), some (.int f), some (.int p), some (.int r), some (.ref l), o5, o6, o7, some (.ref W), some (.int (0 + (i : Int))), some (.ref c')] ∧ H' c' = some (.lst (row.map V.int)) ∧ (row.length : Int) = r ∧ (∀ x ∈ row, -(10 ^ 40) < x ∧ x < 10 ^ 40) ∧ c' ≠ W ∧ Same H7 H', ?_, ?_⟩
      · walk_at "go"
        refine ite2 (fun _ => ?_) (fun _ => ?_)
        · refine ⟨_, rfl, c, rfl, ⟨_, SqL.of n7.at_⟩, fun D hD => ?_⟩
          refine compMap cs (fun z => z % 3) (SqL.of n7.at_) (by rw [hcl, sizeLine_eq]; omega) hD (fun z hz H8 N s8 hN => ?_) fun H8 s8 h8 => ?_
          · walk_at "go"
            exact hN
          · obtain ⟨c', row, rfl, k1, k2, k3, k4, k5⟩ := key _ D H8 (fun z hz => by omega) hD s8 h8
            exact ⟨D, row, rfl, k1, k2, k3, k4, k5⟩
        · walk_at "go"
          refine ite2 (fun _ => ?_) (fun _ => ?_)
          · refine ⟨_, rfl, c, rfl, ⟨_, SqL.of n7.at_⟩, fun D hD => ?_⟩
            refine compMap cs (fun z => z % 2001 - 500) (SqL.of n7.at_) (by rw [hcl, sizeLine_eq]; omega) hD (fun z hz H8 N s8 hN => ?_) fun H8 s8 h8 => ?_
            · walk_at "go"
              exact hN
            · obtain ⟨c', row, rfl, k1, k2, k3, k4, k5⟩ := key _ D H8 (fun z hz => by omega) hD s8 h8
              exact ⟨D, row, rfl, k1, k2, k3, k4, k5⟩
          · walk_at "go"
            refine ite2 (fun _ => ?_) (fun _ => ?_)
            · refine ⟨_, rfl, c, rfl, ⟨_, SqL.of n7.at_⟩, fun D hD => ?_⟩
              refine compMap cs (fun z => z % (2 * 10 ^ Int.toNat 40 - 1) - 10 ^ Int.toNat 40 + 1) (SqL.of n7.at_) (by rw [hcl, sizeLine_eq]; omega) hD (fun z hz H8 N s8 hN => ?_) fun H8 s8 h8 => ?_
              · walk_at "go"
                exact hN
              · obtain ⟨c', row, rfl, k1, k2, k3, k4, k5⟩ := key _ D H8 (fun z hz => by
                  have g1 := Int.emod_nonneg z (show (2 * 10 ^ Int.toNat 40 - 1 : Int) ≠ 0 by decide)
                  have g2 := Int.emod_lt_of_pos z (show (0 : Int) < 2 * 10 ^ Int.toNat 40 - 1 by decide)
                  have ge : (10 : Int) ^ Int.toNat 40 = 10 ^ 40 := rfl
                  rw [ge] at g1 g2 ⊢
                  omega) hD s8 h8
                exact ⟨D, row, rfl, k1, k2, k3, k4, k5⟩
            · refine ⟨_, rfl, c, rfl, ⟨_, SqL.of n7.at_⟩, fun D hD => ?_⟩
              refine compMap cs (fun z => z % 9 * 100) (SqL.of n7.at_) (by rw [hcl, sizeLine_eq]; omega) hD (fun z hz H8 N s8 hN => ?_) fun H8 s8 h8 => ?_
              · walk_at "go"
                exact hN
              · obtain ⟨c', row, rfl, k1, k2, k3, k4, k5⟩ := key _ D H8 (fun z hz => by omega) hD s8 h8
                exact ⟨D, row, rfl, k1, k2, k3, k4, k5⟩
      · rintro σ' H8 ⟨c', row, rfl, h8, l8, b8, n8, s8⟩
        have hW8 := s8 _ _ hW7
        have hwl : ws.length = i := by rw [hR.1, hrl]
        refine ⟨_, rfl, .inl ⟨rfl, _, SqL.of hW8⟩, _, rfl, W, _, _, rfl, rfl, hW8, by rw [sizeLine_eq, List.length_map]; omega, ?_⟩
        refine ⟨ws ++ [c'], rows ++ [row], _, _, _, _, _, rfl, by rw [upd_same]; simp, by simp [hrl], hR.snoc (fun a ha o e => ?_) ?_, fun w hw => ?_, fun w hw => ?_, fun w hw => ?_, fun b o e => ?_, ?_⟩
        · rw [upd_ne (hne a ha)]
          exact s8 _ _ (n7.same _ _ e)
        · rw [upd_ne n8]
          exact h8
        · rcases List.mem_append.mp hw with h | h
          · exact hne w h
          · have : w = c' := by simpa using h
            rw [this]; exact n8
        · rcases List.mem_append.mp hw with h | h
          · exact hr1 w h
          · have : w = row := by simpa using h
            rw [this]; exact l8
        · rcases List.mem_append.mp hw with h | h
          · exact hr2 w h
          · have : w = row := by simpa using h
            rw [this]; exact b8
        · rw [upd_ne (ne_of_none e fW)]
          exact s8 _ _ (S7 _ _ e)
        · rw [upd_ne nlW]
          exact s8 _ _ (n7.same _ _ hl6)
    · rintro σ H6 ⟨ws, rows, o5, o6, o7, o9, o10, rfl, hW, hrl, hR, hne, hr1, hr2, s6, hl6⟩
      walk_at "go"
      exact q W rows H6 s6 ⟨ws, hW, hR⟩ (by omega) hr1 hr2
theorem D_house (T : Txt mg) (S : Src K mg "_law_house" "_law_house" s__law_house) (D_law_mixed : Def P w K mg base 1 "_law_mixed" ["_law_cell", "_law_k"] sp_mixed) (D_law_cell_at : Def P w K mg base 1 "_law_cell_at" ["_law_script", "_law_k"] (sp_cell K)) (D_law_beds : Def P w K mg base 2 "_law_beds" ["_law_first", "_law_many"] sp_beds) (D_law_worths : Def P w K mg base 2 "_law_worths" ["_law_script", "_law_first", "_law_people", "_law_rooms"] (sp_worths K)) : Def P w K mg base 3 "_law_house" ["_law_script", "_law_most_people", "_law_most_rooms"] (sp_house K) := by
  refine S.mk' sc__law_house (fun vs H Q E h => ?_) (fun _ _ _ _ _ _ us hl => match us, hl with | [_, _, _], _ => rfl) (fun f cdv A outer s H vs Q E hr h => ?_)
  · obtain ⟨a, ns, mp, mr, rfl, _⟩ := h
    rfl
  · obtain ⟨a, ns, mp, mr, rfl, hS, hlen, p0, p1, r0, r1, q⟩ := h
    refine ⟨_, (pss_cons (ps_set (i := 3) sc__law_house.nd rfl (Or.inl rfl) (pe_def D_law_mixed (hr.mono (by decide)) rfl (pa_cons (pe_def D_law_cell_at (hr.mono (by decide)) rfl (pa_cons (pv 0) (pa_cons pe_int pa_nil))) (pa_cons pe_int pa_nil))))
      (pss_cons (ps_set (i := 4) sc__law_house.nd rfl (Or.inl rfl) (pe_def D_law_beds (hr.mono (by decide)) rfl (pa_cons (pv 3) (pa_cons (pe_op op_add pe_int (pe_op op_mod (pe_op op_fdivW (pv 3) pe_int) (pv 2))) pa_nil))))
      (pss_cons (ps_set (i := 5) sc__law_house.nd rfl (Or.inl rfl) (pe_op op_add pe_int (pe_op op_mod (pe_op op_fdivW (pv 3) pe_int) (pe_callB (call_min2 rfl) (by rfl) T.min boot_min' (pa_cons (pv 1) (pa_cons (pe_callB (call_sumK (K := K) rfl rfl) (by rfl) T.sum boot_sum' (pa_cons (pv 4) pa_nil)) pa_nil))))))
      (pss_cons (ps_set (i := 6) sc__law_house.nd rfl (Or.inl rfl) (pe_def D_law_worths (hr.mono (by decide)) rfl (pa_cons (pv 0) (pa_cons (pv 3) (pa_cons (pv 5) (pa_cons (pe_callB (call_lenK (K := K) rfl) (by rfl) T.len boot_len' (pa_cons (pv 4) pa_nil)) pa_nil))))))
      (pss_cons (ps_set (i := 7) sc__law_house.nd rfl (Or.inl rfl) (pe_op op_mod (pe_op op_fdivW (pv 3) pe_int) pe_int))
      (pss_cons (ps_join (ps_if (pt_cmpR op_eq (pe_op op_mod (pe_op op_fdivW (pv 3) pe_int) pe_int) pe_int (nomark _)) (pss_one (ps_set (i := 7) sc__law_house.nd rfl (Or.inl rfl) (pe_op op_add (pe_op op_sub (pe_op op_mod (pe_def D_law_cell_at (hr.mono (by decide)) rfl (pa_cons (pv 0) (pa_cons pe_int pa_nil))) (pe_op op_sub (pe_op op_mulW pe_int (pe_op op_pow pe_int pe_int)) pe_int)) (pe_op op_pow pe_int pe_int)) pe_int))) pss_nil))
      (pss_one (ps_ret (pe_tup' (pa_cons (pv 4) (pa_cons (pv 6) (pa_cons (pv 7) pa_nil)))))))))))), ?_⟩
    walk_at "go"
    refine ⟨a, ns, _, rfl, hS, by decide, fun z0 => ?_⟩
    walk_at "go"
    refine ⟨z0, _, rfl, by decide, by decide, fun m m0 m1 => ?_⟩
    walk_at "go"
    have g1 := Int.emod_nonneg (m / 4) (show mr ≠ 0 by omega)
    have g2 := Int.emod_lt_of_pos (m / 4) (show 0 < mr by omega)
    refine ⟨m, _, rfl, by omega, by omega, fun b bs H1 n1 hbl hbb => ?_⟩
    have hb1 : 1 ≤ bs.length := by omega
    have hs1 := sum_ge (bs := bs) fun x hx => (hbb x hx).1
    have hs2 := sum_le (bs := bs) (m := 4) fun x hx => (hbb x hx).2
    walk_at "go"
    refine ⟨b, bs, rfl, SqL.of n1.at_, ?_⟩
    refine ⟨_, _, rfl, ?_⟩
    have hmin : 1 ≤ (if bs.sum < mp then bs.sum else mp) ∧ (if bs.sum < mp then bs.sum else mp) ≤ mp ∧ (if bs.sum < mp then bs.sum else mp) ≤ bs.sum := by
      split <;> omega
    generalize (if bs.sum < mp then bs.sum else mp) = mn at *
    have g3 := Int.emod_nonneg (m / 40) (show mn ≠ 0 by omega)
    have g4 := Int.emod_lt_of_pos (m / 40) (show 0 < mn by omega)
    walk_at "go"
    refine ⟨b, _, rfl, .inl (SqL.of n1.at_), ?_⟩
    rw [List.length_map]
    refine ⟨a, ns, m, _, _, rfl, n1.same.seq hS, hlen, by omega, by omega, by omega, by omega, fun w rows H2 s2 hM hrl hr1 hr2 => ?_⟩
    walk_at "go"
    have S2 : Same H H2 := n1.same.trans s2
    refine ⟨fun σ' H' => H' = H2 ∧ ∃ rent : Int, σ' = [some (.ref a), some (.int mp), some (.int mr), some (.int m), some (.ref b), some (.int (1 + m / 40 % mn)), some (.ref w), some (.int rent)] ∧ -(10 ^ 40) < rent ∧ rent < 10 ^ 40, ?_, ?_⟩
    · walk_at "go"
      refine ite2 (fun _ => ?_) (fun _ => ?_)
      · walk_at "go"
        refine ⟨a, ns, _, rfl, S2.seq hS, by decide, fun z => ?_⟩
        have g5 := Int.emod_nonneg z (show (2 * 10 ^ Int.toNat 40 - 1 : Int) ≠ 0 by decide)
        have g6 := Int.emod_lt_of_pos z (show (0 : Int) < 2 * 10 ^ Int.toNat 40 - 1 by decide)
        have ge : (10 : Int) ^ Int.toNat 40 = 10 ^ 40 := rfl
        walk_at "go"
        rw [ge] at g5 g6
        show z % (2 * 10 ^ Int.toNat 40 - 1) - 10 ^ Int.toNat 40 + 1 < 10 ^ 40
        rw [ge]
        omega
      · exact ⟨rfl, _, rfl, by omega, by omega⟩
    · rintro σ' H' ⟨rfl, rent, rfl, e1, e2⟩
      walk_at "go"
      refine fun t H3 n3 => ?_
      refine q t b w bs rows rent H3 (S2.trans n3.same) n3.at_ (n3.same _ _ (s2 _ _ n1.at_)) (hM.same n3.same) ⟨hb1, by omega, hbb, by omega, by omega, by omega, fun row hr => ?_, hr2, e1, e2⟩
      have := hr1 row hr
      omega
theorem D_whole (T : Txt mg) (S : Src K mg "_law_whole" "_law_whole" s__law_whole) : Def P w K mg base 1 "_law_whole" ["_law_found"] sp_whole := by
  refine S.mk' sc__law_whole (fun vs H Q E h => ?_) (fun _ _ _ _ _ _ us hl => match us, hl with | [_], _ => rfl) (fun f cdv A outer s H vs Q E hr h => ?_)
  · obtain ⟨i, rfl, _⟩ := h
    rfl
  · obtain ⟨i, rfl, q⟩ := h
    refine ⟨_, (pss_one (ps_ret (pe_and (pe_callB (call_isinstK (K := K) rfl) (by rfl) T.isinstance boot_isinstance' (pa_cons (pv 0) (pa_cons (pe_bltn (v := .ty "int") rfl T.int boot_int' rfl) pa_nil))) (pe_one (pe_not (pe_callB (call_isinstK (K := K) rfl) (by rfl) T.isinstance boot_isinstance' (pa_cons (pv 0) (pa_cons (pe_bltn (v := .ty "bool") rfl T.bool boot_bool' rfl) pa_nil)))))))), ?_⟩
    walk_at "go"
    refine ⟨_, _, _, true, rfl, .int _, kit_same _ _, _, rfl, iteT ?_⟩
    walk_at "go"
    refine ⟨_, _, _, false, rfl, .int _, kit_ib _, _, rfl, ?_⟩
    exact q
theorem D_lifted (T : Txt mg) (S : Src K mg "_law_lifted" "_law_lifted" s__law_lifted) (D_law_cell_at : Def P w K mg base 1 "_law_cell_at" ["_law_script", "_law_k"] (sp_cell K)) : Def P w K mg base 2 "_law_lifted" ["_law_script", "_law_worths_here"] (sp_lifted72 K) := by
  refine S.mk' sc__law_lifted (fun vs H Q E h => ?_) (fun _ _ _ _ _ _ us hl => match us, hl with | [_, _], _ => rfl) (fun f cdv A outer s H vs Q E hr h => ?_)
  · obtain ⟨a, w, ns, worths, rfl, _⟩ := h
    rfl
  · obtain ⟨a, w, ns, worths, rfl, hS, hM, lw, lr, hx, q⟩ := h
    refine ⟨_, (pss_cons (ps_set (i := 2) sc__law_lifted.nd rfl (Or.inl rfl) (pe_lst' pa_nil))
      (pss_cons (ps_for PassesOwn.never rfl (pi_range1 rfl T.range (pa_cons (pe_callB (call_lenK (K := K) rfl) (by rfl) T.len boot_len' (pa_cons (pv 1) pa_nil)) pa_nil)) (pg_name (i := 3) sc__law_lifted.nd rfl (Or.inl rfl))
      (pss_cons (ps_set (i := 4) sc__law_lifted.nd rfl (Or.inr rfl) (pe_op op_sub (pe_op op_fdivW (pe_op op_mod (pe_def D_law_cell_at (hr.mono (by decide)) rfl (pa_cons (pv 0) (pa_cons (pe_op op_add pe_int (pv 3)) pa_nil))) (pe_op op_sub (pe_op op_pow pe_int pe_int) pe_int)) pe_int) (pe_op op_pow pe_int pe_int)))
      (pss_one (ps_expr (pe_bmK (K := K) rfl PySem.F.plainAttrs_list PySem.F.slot_list_append PySem.F.type_list_append mt_append (pv 2) (pa_cons (pe_comp ["_law_worth", "_law_step"] [none, some 4] rfl rfl rfl (pi_listK (K := K) rfl (pe_ix (ix_seqK (K := K) rfl) (pv 1) (pv 3) (fun _ _ => rfl))) (fun _ _ _ _ => (pg_name (i := 0) (by decide +kernel : (["_law_worth", "_law_step"] : List PySem.Str).Nodup) rfl (Or.inl rfl))) (fun _ _ _ _ => pifs_nil) (fun _ _ _ _ => (pe_op op_add (pv 0) (pv 1)))) pa_nil))))))
      (pss_one (ps_ret (pv 2))))), ?_⟩
    obtain ⟨ws0, hw0, hR0⟩ := id hM
    walk_at "go"
    refine fun W H1 n1 => ?_
    refine ⟨_, rfl, w, _, rfl, .inl (SqL.of (n1.same _ _ hw0)), ?_⟩
    rw [List.length_map, hR0.1]
    refine ⟨_, rfl, by omega, by omega, ?_⟩
    rw [Int.toNat_natCast]
    refine for_range (fun i σ H' => ∃ (ws : List Addr) (rows : List (List Int)) (st : Nat → Int) (o3 o4 : Option V), σ = [some (.ref a), some (.ref w), some (.ref W), o3, o4] ∧ H' W = some (.lst (ws.map V.ref)) ∧ rows.length = i ∧ Rows H' ws rows ∧ (∀ c ∈ ws, c ≠ W) ∧ (∀ j row, rows[j]? = some row → row = (worths.getD j []).map fun x => x + st j) ∧ (∀ j, -(10 ^ 40) ≤ st j ∧ st j < 10 ^ 40) ∧ Same H H')
      ⟨[], [], fun _ => 0, none, none, rfl, n1.at_, rfl, ⟨rfl, fun i a row h => by simp at h⟩, (fun c h => by cases h), (fun j row h => by simp at h), (fun j => by show -(10 ^ 40) ≤ (0 : Int) ∧ (0 : Int) < 10 ^ 40; decide), n1.same⟩ ?_ ?_
    · rintro i σ H2 hi ⟨ws, rows, st, o3, o4, rfl, hW, hrl, hR, hne, hrow, hst, s2⟩
      walk_at "go"
      refine ⟨a, ns, _, rfl, s2.seq hS, by omega, fun z => ?_⟩
      have ge : (10 : Int) ^ Int.toNat 40 = 10 ^ 40 := rfl
      have ge2 : (10 : Int) ^ Int.toNat 39 = 10 ^ 39 := rfl
      have g1 := Int.emod_nonneg z (show (10 : Int) ^ Int.toNat 40 - 2 ≠ 0 by decide)
      have g2 := Int.emod_lt_of_pos z (show (0 : Int) < 10 ^ Int.toNat 40 - 2 by decide)
      walk_at "go"
      refine ⟨.inl ⟨rfl, _, SqL.of hW⟩, ?_⟩
      dsimp only
      have t1 : -(10 ^ 40) ≤ z % (10 ^ Int.toNat 40 - 2) / 2 - 10 ^ Int.toNat 39 ∧ z % (10 ^ Int.toNat 40 - 2) / 2 - 10 ^ Int.toNat 39 < 10 ^ 40 := by
        rw [ge, ge2] at *
        omega
      generalize z % (10 ^ Int.toNat 40 - 2) / 2 - 10 ^ Int.toNat 39 = t at *
      refine ⟨_, rfl, _, rfl, ?_⟩
      refine ixMat (hM.same s2) hi fun ra hra => ?_
      refine ⟨ra, rfl, ⟨_, SqL.of hra⟩, fun D hD => ?_⟩
      have hmi : worths.getD i [] ∈ worths := by
        rw [List.getD_eq_getElem?_getD, List.getElem?_eq_getElem hi]
        exact List.getElem_mem _
      have hrl' := lr _ hmi
      refine compMap (worths.getD i []) (fun x => x + t) (SqL.of hra) (by rw [sizeLine_eq]; omega) hD (fun y hy H3 N s3 hN => ?_) fun H3 s3 d3 => ?_
      · walk_at "go"
        exact hN
      have hW3 := s3 _ _ hW
      have nWD : D ≠ W := (ne_of_none hW hD).symm
      have lws : ws.length = i := by rw [hR.1, hrl]
      refine ⟨W, _, _, rfl, rfl, hW3, by rw [sizeLine_eq, List.length_map]; omega, ?_⟩
      refine ⟨ws ++ [D], rows ++ [_], fun j => if j = i then t else st j, _, _, rfl, by rw [upd_same]; simp, by simp [hrl], hR.snoc (fun b hb o e => ?_) (by rw [upd_ne nWD]; exact d3), fun c hc => ?_, fun j row hj => ?_, fun j => ?_, fun c o e => ?_⟩
      · rw [upd_ne (hne b hb)]
        exact s3 _ _ e
      · rcases List.mem_append.mp hc with h | h
        · exact hne c h
        · have : c = D := by simpa using h
          rw [this]
          exact nWD
      · by_cases hji : j < rows.length
        · rw [List.getElem?_append_left hji] at hj
          rw [hrow j row hj]
          simp only [if_neg (show ¬ j = i by omega)]
        · have hjl := (List.getElem?_eq_some_iff.mp hj).1
          have e : j = rows.length := by simp at hjl; omega
          rw [List.getElem?_append_right (by omega), e, Nat.sub_self] at hj
          have hj' : (worths.getD i []).map (fun x => x + t) = row := Option.some.inj hj
          rw [← hj', e, hrl]
          simp only [if_true]
      · by_cases h : j = i
        · simp only [if_pos h]; exact t1
        · simp only [if_neg h]; exact hst j
      · rw [upd_ne (ne_of_none e n1.none)]
        exact s3 _ _ (s2 _ _ e)
    · rintro σ H2 ⟨ws, rows, st, o3, o4, rfl, hW, hrl, hR, hne, hrow, hst, s2⟩
      walk_at "go"
      refine q W st H2 s2 hst ⟨ws, hW, by rw [hR.1, hrl]; simp, fun i b row h1 h2 => ?_⟩
      have hi : i < worths.length := by have := (List.getElem?_eq_some_iff.mp h2).1; simpa using this
      have e : rows[i]? = some (rows[i]'(by omega)) := List.getElem?_eq_getElem _
      have := hrow i _ e
      rw [List.getElem?_map, List.getElem?_range hi] at h2
      have h2' : (worths.getD i []).map (fun x => x + st i) = row := by simpa using h2
      rw [← h2', ← this]
      exact hR.2 i b _ h1 e
theorem D_halved (T : Txt mg) (S : Src K mg "_law_halved" "_law_halved" s__law_halved) : Def P w K mg base 1 "_law_halved" ["_law_worths_here"] (sp_halved72 K) := by
  refine S.mk' sc__law_halved (fun vs H Q E h => ?_) (fun _ _ _ _ _ _ us hl => match us, hl with | [_], _ => rfl) (fun f cdv A outer s H vs Q E hr h => ?_)
  · obtain ⟨w, worths, rfl, _⟩ := h
    rfl
  · obtain ⟨w, worths, rfl, hM, lw, lr, hx, q⟩ := h
    refine ⟨_, (pss_one (ps_ret (pe_comp ["_law_row"] [none] rfl rfl rfl (pi_listK (K := K) rfl (pv 0)) (fun _ _ _ _ => (pg_name (i := 0) (by decide +kernel : (["_law_row"] : List PySem.Str).Nodup) rfl (Or.inl rfl))) (fun _ _ _ _ => pifs_nil) (fun _ _ _ _ => (pe_comp ["_law_worth"] [none] rfl rfl rfl (pi_listK (K := K) rfl (pv 0)) (fun _ _ _ _ => (pg_name (i := 0) (by decide +kernel : (["_law_worth"] : List PySem.Str).Nodup) rfl (Or.inl rfl))) (fun _ _ _ _ => pifs_nil) (fun _ _ _ _ => (pe_op op_fdivW (pv 0) pe_int))))))), ?_⟩
    obtain ⟨ws, hw, hR⟩ := id hM
    refine ⟨_, rfl, w, rfl, ⟨_, SqL.of hw⟩, fun D hD => ?_⟩
    refine comp_list (fun i y H => ∃ l row, y = .ref l ∧ l ≠ D ∧ worths[i]? = some row ∧ H l = some (.lst ((row.map fun x => x / 2).map V.int))) (SqL.of hw) (by rw [List.length_map, hR.1, sizeLine_eq]; omega) hD (fun i y H H' k ⟨l, row, e, ne, h1, h2⟩ => ⟨l, row, e, ne, h1, k l _ ne h2⟩) ?_ ?_
    · rintro i x H3 ys N hx' s3 d3 hN
      obtain ⟨ra, ha, rfl⟩ := ref_at hx'
      have hi : i < worths.length := by rw [← hR.1]; exact (List.getElem?_eq_some_iff.mp ha).1
      have hrow : worths[i]? = some worths[i] := by simp [hi]
      have h3 := s3 _ _ (hR.2 i ra _ ha hrow)
      have hrl := lr _ (List.getElem_mem hi)
      refine ⟨_, rfl, ra, rfl, ⟨_, SqL.of h3⟩, fun D2 hD2 => ?_⟩
      refine compMap worths[i] (fun z => z / 2) (SqL.of h3) (by rw [sizeLine_eq]; omega) hD2 (fun z hz H4 N4 s4 hN4 => ?_) fun H4 s4 d4 => ?_
      · have hb := hx _ (List.getElem_mem hi) z hz
        walk_at "go"
        exact hN4
      · exact hN _ _ s4 ⟨D2, _, rfl, (ne_of_none d3 hD2).symm, hrow, d4⟩
    rintro ys H3 s3 d3 l3 r3
    obtain ⟨ws', e', p'⟩ := refs_ex (P := fun i l => ∃ row, worths[i]? = some row ∧ H3 l = some (.lst ((row.map fun x => x / 2).map V.int))) (fun i y e => by
      obtain ⟨l, row, h1, _, h2, h3⟩ := r3 i y e
      exact ⟨l, h1, row, h2, h3⟩)
    subst e'
    refine q D H3 s3 ⟨ws', d3, ?_, fun i b row h1 h2 => ?_⟩
    · rw [List.length_map, List.length_map] at l3
      rw [List.length_map, l3]
      exact hR.1
    · obtain ⟨row', h3, h4⟩ := p' i b h1
      rw [List.getElem?_map, h3] at h2
      have : (row'.map fun x => x / 2) = row := by simpa using h2
      rw [← this]
      exact h4
theorem D_stays {C PT : Addr} (T : Txt mg) (HC : HCls K mg C) (S : Src K mg "_law_stays" "_law_stays" s__law_stays) (Mrooms : MDef P w K mg base 1 C "rooms" ["self"] (sp_rooms C)) (D_law_whole : Def P w K mg base 1 "_law_whole" ["_law_found"] sp_whole) (Dkept_way : Def P w K mg base 6 "kept_way" ["house", "old"] (sp_kept2 K C PT lamPos "bring_in.<locals>.<lambda>")) : Def P w K mg base 7 "_law_stays" ["_law_house_here", "_law_worths_here", "_law_old", "_law_most"] (sp_stays72 K C PT lamPos "bring_in.<locals>.<lambda>") := by
  refine S.mk' sc__law_stays (fun vs H Q E h => ?_) (fun _ _ _ _ _ _ us hl => match us, hl with | [_, _, _, _], _ => rfl) (fun f cdv A outer s H vs Q E hr h => ?_)
  · obtain ⟨p, w, o, beds, worths, rent, old, v, rfl, _⟩ := h
    rfl
  · obtain ⟨p, w, o, beds, worths, rent, old, v, rfl, hA, hM, bok, hx, ho, hol, hle, hb0, hL, lv, fv, ov, hold, q⟩ := h
    refine ⟨_, (pss_cons (ps_set (i := 4) sc__law_stays.nd rfl (Or.inr rfl) (pe_def Dkept_way (hr.mono (by decide)) rfl (pa_cons (pv 0) (pa_cons (pe_callTy (call_list_ofK (K := K) rfl) (by rfl) T.list boot_list' (pa_cons (pv 2) pa_nil)) pa_nil))))
      (pss_cons (ps_if (PW.pt (pw_or (pt_not (pt_val (pe_callB (call_isinstK (K := K) rfl) (by rfl) T.isinstance boot_isinstance' (pa_cons (pv 4) (pa_cons (pe_bltn (v := .ty "list") rfl T.list boot_list' rfl) pa_nil))))) (pw_or (pt_cmpR op_ne (pe_callB (call_lenK (K := K) rfl) (by rfl) T.len boot_len' (pa_cons (pv 4) pa_nil)) (pe_callB (call_lenK (K := K) rfl) (by rfl) T.len boot_len' (pa_cons (pv 2) pa_nil)) (nomark _)) (pw_or1 (pt_not (pt_val (pe_callB (call_allK (K := K) rfl rfl) (by rfl) T.all boot_all' (pa_cons (pe_comp ["_law_r"] [none] rfl rfl rfl (pi_listK (K := K) rfl (pv 4)) (fun _ _ _ _ => (pg_name (i := 0) (by decide +kernel : (["_law_r"] : List PySem.Str).Nodup) rfl (Or.inl rfl))) (fun _ _ _ _ => pifs_nil) (fun _ _ _ _ => (pe_def D_law_whole (hr.mono (by decide)) rfl (pa_cons (pv 0) pa_nil)))) pa_nil)))))))) (pss_one (ps_ret pe_bl)) pss_nil)
      (pss_cons (ps_if (pt_not (pt_val (pe_callB (call_allK (K := K) rfl rfl) (by rfl) T.all boot_all' (pa_cons (pe_comp ["_law_i", "_law_found", "_law_house_here"] [none, some 4, some 0] rfl rfl rfl (pi_range1 rfl T.range (pa_cons (pe_callB (call_lenK (K := K) rfl) (by rfl) T.len boot_len' (pa_cons (pv 4) pa_nil)) pa_nil)) (fun _ _ _ _ => (pg_name (i := 0) (by decide +kernel : (["_law_i", "_law_found", "_law_house_here"] : List PySem.Str).Nodup) rfl (Or.inl rfl))) (fun _ _ _ _ => pifs_nil) (fun _ _ _ _ => (pe_chain op_le op_lt pe_int (pe_ix (ix_seqK (K := K) rfl) (pv 1) (pv 0) (fun _ _ => rfl)) (pe_mdef0 Mrooms HC.cl (pv 2) (hr.mono (by decide)))))) pa_nil)))) (pss_one (ps_ret pe_bl)) pss_nil)
      (pss_cons (ps_if (pt_val (pe_callB (call_anyK (K := K) rfl rfl) (by rfl) T.any boot_any' (pa_cons (pe_comp ["_law_r", "_law_found", "_law_house_here"] [none, some 4, some 0] rfl rfl rfl (pi_listK (K := K) rfl (pv 4)) (fun _ _ _ _ => (pg_name (i := 0) (by decide +kernel : (["_law_r", "_law_found", "_law_house_here"] : List PySem.Str).Nodup) rfl (Or.inl rfl))) (fun _ _ _ _ => pifs_nil) (fun _ _ _ _ => (pe_cmpR op_gt (pe_bmK (K := K) rfl PySem.F.plainAttrs_list PySem.F.slot_list_count PySem.F.type_list_count (mt_countK (K := K) rfl) (pv 1) (pa_cons (pv 0) pa_nil)) (pe_ix (ix_seqK (K := K) rfl) (pe_fldK (K := K) rfl (pv 2) rfl) (pv 0) (fun _ _ => rfl)) (nomark _)))) pa_nil))) (pss_one (ps_ret pe_bl)) pss_nil)
      (pss_cons (ps_if (pt_val (pe_callB (call_anyK (K := K) rfl rfl) (by rfl) T.any boot_any' (pa_cons (pe_comp ["_law_i", "_law_found", "_law_old"] [none, some 4, some 2] rfl rfl rfl (pi_range1 rfl T.range (pa_cons (pe_callB (call_lenK (K := K) rfl) (by rfl) T.len boot_len' (pa_cons (pv 2) pa_nil)) pa_nil)) (fun _ _ _ _ => (pg_name (i := 0) (by decide +kernel : (["_law_i", "_law_found", "_law_old"] : List PySem.Str).Nodup) rfl (Or.inl rfl))) (fun _ _ _ _ => pifs_nil) (fun _ _ _ _ => (pe_and (pe_cmpR op_notN (pe_ix (ix_seqK (K := K) rfl) (pv 2) (pv 0) (fun _ _ => rfl)) pe_non (nomark _)) (pe_one (pe_cmpR op_ne (pe_ix (ix_seqK (K := K) rfl) (pv 2) (pv 0) (fun _ _ => rfl)) (pe_ix (ix_seqK (K := K) rfl) (pv 1) (pv 0) (fun _ _ => rfl)) (nomark _)))))) pa_nil))) (pss_one (ps_ret pe_bl)) pss_nil)
      (pss_one (ps_ret (pe_cmpR op_eq (pe_callB (call_sumK (K := K) rfl rfl) (by rfl) T.sum boot_sum' (pa_cons (pe_comp ["_law_i", "_law_found", "_law_worths_here"] [none, some 4, some 1] rfl rfl rfl (pi_range1 rfl T.range (pa_cons (pe_callB (call_lenK (K := K) rfl) (by rfl) T.len boot_len' (pa_cons (pv 4) pa_nil)) pa_nil)) (fun _ _ _ _ => (pg_name (i := 0) (by decide +kernel : (["_law_i", "_law_found", "_law_worths_here"] : List PySem.Str).Nodup) rfl (Or.inl rfl))) (fun _ _ _ _ => pifs_nil) (fun _ _ _ _ => (pe_ix (ix_seqK (K := K) rfl) (pe_ix (ix_seqK (K := K) rfl) (pv 2) (pv 0) (fun _ _ => rfl)) (pe_ix (ix_seqK (K := K) rfl) (pv 1) (pv 0) (fun _ _ => rfl)) (fun _ _ => rfl)))) pa_nil)) (pv 3) (nomark _))))))))), ?_⟩
    have l1 := bok.w1
    have l2 := bok.b1
    refine ⟨_, rfl, _, rfl, o, _, rfl, .inl (SqL.of ho), fun lh H1 n1 => ?_⟩
    refine ⟨p, lh, beds, worths, rent, old, rfl, hA.same n1.same, bok, fun row hr x hx' => by have := hx row hr x hx'; omega, SqL.of n1.at_, hol, hle, hb0, hL.same n1.same, fun l way H2 s2 so2 f2 h2 hL2 ln fit opt kp => ?_⟩
    obtain ⟨es, keep⟩ := all_keep (by omega) fv ov opt fit hold kp
    have S2 : SameB H H2 := n1.same.b.trans s2
    have O2 : SameO PT H H2 := n1.same.o.trans so2
    have ho2 := s2.to _ _ (n1.same _ _ ho) rfl
    have hA2 := (hA.same n1.same).sameB s2
    have hM2 := (hM.same n1.same).sameB s2
    obtain ⟨dx, bb, ww, i1, i2, i3⟩ := hA2.ex
    have hlt := fit_lt fit
    have hwl : ∀ i, i < way.length → way.getD i 0 < beds.length := fun i hi => hlt _ (by
      rw [List.getD_eq_getElem?_getD, List.getElem?_eq_getElem hi]
      exact List.getElem_mem _)
    -- a list of as many whole numbers
    walk_at "go"
    refine ⟨_, _, _, true, rfl, .lst h2, kit_same _ _, _, rfl, iteF ?_⟩
    walk_at "go"
    refine ⟨l, _, rfl, .inl (SqL.of h2), ?_⟩
    walk_at "go"
    refine ⟨o, _, rfl, .inl (SqL.of ho2), ?_⟩
    refine ⟨rfl, _, rfl, iteE (by rw [wI_len, List.length_map]; simp; omega) ?_⟩
    walk_at "go"
    refine ⟨⟨_, SqL.of h2⟩, fun D3 hD3 => ?_⟩
    refine compMapV (wI way) (fun _ => .bl true) (SqL.of h2) (by rw [sizeLine_eq]; simp [wI]; omega) hD3 (fun z hz H3 N s3 hN => ?_) fun H3 s3 d3 => ?_
    · walk_at "go"
      exact hN _ (Same.refl _)
    have d3' : H3 D3 = some (.lst (((wI way).map fun _ => true).map V.bl)) := by rw [d3, List.map_map]; rfl
    refine ⟨D3, _, rfl, SqL.of d3', ?_⟩
    rw [show (((wI way).map fun _ => true).all id) = true by simp]
    refine ⟨_, rfl, iteF ?_⟩
    have h3 := s3 _ _ h2
    -- rooms
    walk_at "go"
    refine ⟨l, _, rfl, .inl (SqL.of h3), ?_⟩
    rw [wI_len]
    refine ⟨_, rfl, by omega, by omega, fun D4 hD4 => ?_⟩
    rw [Int.toNat_natCast]
    refine compRangeV (fun _ => .bl true) (by rw [sizeLine_eq]; omega) hD4 (fun i hi H4 N s4 hN => ?_) fun H4 s4 d4 => ?_
    · walk_at "go"
      refine ixWI (s4 _ _ h3) hi ?_
      walk_at "go"
      have := hwl i hi
      refine ⟨p, dx, _, rfl, s4 _ _ (s3 _ _ i1), hf_no _ _ _ (by decide +kernel) (by decide +kernel) (by decide +kernel), p, beds, worths, rent, rfl, (hA2.same s3).same s4, ?_⟩
      walk_at "go"
      dsimp only
      rw [show decide (((way.getD i 0 : Nat) : Int) < (beds.length : Int)) = true from decide_eq_true (by omega)]
      exact hN _ (Same.refl _)
    have d4' : H4 D4 = some (.lst (((List.range way.length).map fun _ => true).map V.bl)) := by rw [d4, List.map_map]; rfl
    refine ⟨D4, _, rfl, SqL.of d4', ?_⟩
    rw [show (((List.range way.length).map fun _ => true).all id) = true by simp]
    refine ⟨_, rfl, iteF ?_⟩
    have h4 := s4 _ _ h3
    have s34 : Same H2 H4 := s3.trans s4
    -- no room over its beds
    walk_at "go"
    refine ⟨⟨_, SqL.of h4⟩, fun D5 hD5 => ?_⟩
    refine compMapV (wI way) (fun _ => .bl false) (SqL.of h4) (by rw [sizeLine_eq]; simp [wI]; omega) hD5 (fun z hz H5 N s5 hN => ?_) fun H5 s5 d5 => ?_
    · have hl5 := s5 _ _ h4
      refine ⟨_, rfl, .inl ⟨rfl, _, SqL.of hl5⟩, _, rfl, l, wI way, _, rfl, rfl, SqL.of hl5, ?_⟩
      obtain ⟨r, hr, rfl⟩ := List.mem_map.mp hz
      have hrb := hlt r hr
      have hc := wI_count way r
      have hfr := fit r
      have i1' := s5 _ _ (s34 _ _ i1)
      rw [hc]
      refine ⟨_, rfl, p, C, dx, _, _, rfl, i1', HC.cl, HC.nB, hf_beds _ _ _, _, rfl, ?_⟩
      refine ixRow (s5 _ _ (s34 _ _ i2)) hrb ?_
      walk_at "go"
      have hb := hb0 (beds.getD r 0) (by
        rw [List.getD_eq_getElem?_getD, List.getElem?_eq_getElem hrb]
        exact List.getElem_mem _)
      unfold bF at hfr
      dsimp only
      rw [show decide (beds.getD r 0 < ((way.count r : Nat) : Int)) = false from decide_eq_false (by omega)]
      exact hN _ (Same.refl _)
    have d5' : H5 D5 = some (.lst (((wI way).map fun _ => false).map V.bl)) := by rw [d5, List.map_map]; rfl
    refine ⟨D5, _, rfl, SqL.of d5', ?_⟩
    rw [show (((wI way).map fun _ => false).any id) = false by simp]
    refine ⟨_, rfl, iteF ?_⟩
    have h5 := s5 _ _ h4
    have s25 : Same H2 H5 := s34.trans s5
    have ho5 := s25 _ _ ho2
    -- who had a room has it
    walk_at "go"
    refine ⟨o, _, rfl, .inl (SqL.of ho5), ?_⟩
    rw [List.length_map]
    refine ⟨_, rfl, by omega, by omega, fun D6 hD6 => ?_⟩
    rw [Int.toNat_natCast]
    refine compRangeV (fun _ => .bl false) (by rw [sizeLine_eq]; omega) hD6 (fun i hi H6 N s6 hN => ?_) fun H6 s6 d6 => ?_
    · have ho6 := s6 _ _ ho5
      have h6 := s6 _ _ h5
      walk_at "go"
      refine ixOld ho6 hi ?_
      rcases keep i (by omega) with z | z
      · rw [z]
        refine ⟨rfl, _, rfl, iteE rfl ?_⟩
        exact hN _ (Same.refl _)
      · rw [z]
        refine ⟨rfl, _, rfl, iteTr rfl ?_⟩
        walk_at "go"
        refine ixOld ho6 hi ?_
        rw [z]
        walk_at "go"
        refine ixWI h6 (by omega) ?_
        refine ⟨rfl, ?_⟩
        rw [show (!decide (oV (some ((way.getD i 0 : Nat) : Int)) = V.int ((way.getD i 0 : Nat) : Int))) = false by simp [oV]]
        exact hN _ (Same.refl _)
    have d6' : H6 D6 = some (.lst (((List.range old.length).map fun _ => false).map V.bl)) := by rw [d6, List.map_map]; rfl
    refine ⟨D6, _, rfl, SqL.of d6', ?_⟩
    rw [show (((List.range old.length).map fun _ => false).any id) = false by simp]
    refine ⟨_, rfl, iteF ?_⟩
    have h6 := s6 _ _ h5
    have s26 : Same H2 H6 := s25.trans s6
    have hM6 := hM2.same s26
    -- the worth
    walk_at "go"
    refine ⟨l, _, rfl, .inl (SqL.of h6), ?_⟩
    rw [wI_len]
    refine ⟨_, rfl, by omega, by omega, fun D7 hD7 => ?_⟩
    rw [Int.toNat_natCast]
    refine compRangeV (fun i => .int (wF worths i (way.getD i 0))) (by rw [sizeLine_eq]; omega) hD7 (fun i hi H7 N s7 hN => ?_) fun H7 s7 d7 => ?_
    · walk_at "go"
      refine ixMat (hM6.same s7) (by omega) fun ra hra => ?_
      walk_at "go"
      refine ixWI (s7 _ _ h6) hi ?_
      have hrl : (worths.getD i []).length = beds.length := bok.rows _ (by
        rw [List.getD_eq_getElem?_getD, List.getElem?_eq_getElem (by omega)]
        exact List.getElem_mem _)
      refine ixRow hra (by rw [hrl]; exact hwl i hi) ?_
      exact hN _ (Same.refl _)
    have d7' : H7 D7 = some (.lst (((List.range way.length).map fun i => wF worths i (way.getD i 0)).map V.int)) := by rw [d7, List.map_map]; rfl
    refine ⟨D7, _, rfl, SqL.of d7', ?_⟩
    refine ⟨_, rfl, rfl, ?_⟩
    have ew : ((List.range way.length).map fun i => wF worths i (way.getD i 0)).sum = wsum (wF worths) v := es
    rw [ew, decide_eq_true rfl]
    have s27 : Same H2 H7 := s26.trans s7
    exact q H7 (S2.trans s27.b) (O2.trans s27.o) (hL2.same s27)
theorem D_allmove {C PT : Addr} (T : Txt mg) (HC : HCls K mg C) (S : Src K mg "_law_all_move" "_law_all_move" s__law_all_move) (M__init__ : MDef P w K mg base 1 C "__init__" ["self", "beds", "worths", "rent"] (sp_init C)) (D_law_mixed : Def P w K mg base 1 "_law_mixed" ["_law_cell", "_law_k"] sp_mixed) (D_law_cell_at : Def P w K mg base 1 "_law_cell_at" ["_law_script", "_law_k"] (sp_cell K)) (Dkept_way : Def P w K mg base 6 "kept_way" ["house", "old"] (sp_kept2 K C PT lamPos "bring_in.<locals>.<lambda>")) : Def P w K mg base 7 "_law_all_move" ["_law_script"] (sp_allmove72 K PT lamPos "bring_in.<locals>.<lambda>") := by
  refine S.mk' sc__law_all_move (fun vs H Q E h => ?_) (fun _ _ _ _ _ _ us hl => match us, hl with | [_], _ => rfl) (fun f cdv A outer s H vs Q E hr h => ?_)
  · obtain ⟨a, ns, rfl, _⟩ := h
    rfl
  · obtain ⟨a, ns, rfl, hS, hL, q⟩ := h
    refine ⟨_, (pss_cons (ps_set (i := 1) sc__law_all_move.nd rfl (Or.inr rfl) (pe_op op_add pe_int (pe_op op_mod (pe_def D_law_mixed (hr.mono (by decide)) rfl (pa_cons (pe_def D_law_cell_at (hr.mono (by decide)) rfl (pa_cons (pv 0) (pa_cons pe_int pa_nil))) (pa_cons pe_int pa_nil))) pe_int)))
      (pss_cons (ps_set (i := 2) sc__law_all_move.nd rfl (Or.inr rfl) (pe_op op_mod (pe_def D_law_mixed (hr.mono (by decide)) rfl (pa_cons (pe_def D_law_cell_at (hr.mono (by decide)) rfl (pa_cons (pv 0) (pa_cons pe_int pa_nil))) (pa_cons pe_int pa_nil))) (pv 1)))
      (pss_cons (ps_set (i := 3) sc__law_all_move.nd rfl (Or.inl rfl) (pe_op op_mod (pe_def D_law_mixed (hr.mono (by decide)) rfl (pa_cons (pe_def D_law_cell_at (hr.mono (by decide)) rfl (pa_cons (pv 0) (pa_cons pe_int pa_nil))) (pa_cons pe_int pa_nil))) (pv 1)))
      (pss_cons (ps_set (i := 4) sc__law_all_move.nd rfl (Or.inl rfl) (pe_lst' pa_nil))
      (pss_cons (ps_for PassesOwn.never rfl (pi_range1 rfl T.range (pa_cons (pv 1) pa_nil)) (pg_name (i := 5) sc__law_all_move.nd rfl (Or.inl rfl))
      (pss_cons (ps_set (i := 6) sc__law_all_move.nd rfl (Or.inl rfl) (pe_def D_law_cell_at (hr.mono (by decide)) rfl (pa_cons (pv 0) (pa_cons (pe_op op_add pe_int (pv 5)) pa_nil))))
      (pss_cons (ps_set (i := 7) sc__law_all_move.nd rfl (Or.inl rfl) (pe_op op_rep' (pe_lst' (pa_cons (pe_op op_sub (pe_op op_sub (pe_op op_mod (pv 6) (pe_op op_pow pe_int pe_int)) pe_int) (pe_op op_mod (pe_def D_law_mixed (hr.mono (by decide)) rfl (pa_cons (pv 6) (pa_cons (pe_op op_add pe_int (pv 5)) pa_nil))) pe_int)) pa_nil)) (pv 1)))
      (pss_cons (ps_asg (pe_op op_mod (pv 6) (pe_op op_pow pe_int pe_int)) (pg_sub (pv 7) (pe_op op_mod (pe_op op_add (pv 5) (pv 2)) (pv 1)) set_list))
      (pss_cons (ps_asg (pe_op op_add (pe_op op_mod (pv 6) (pe_op op_pow pe_int pe_int)) (pe_callTy call_int1 (by rfl) T.int boot_int' (pa_cons (pe_cmpR op_eq (pv 5) (pv 3) (nomark _)) pa_nil))) (pg_sub (pv 7) (pe_op op_mod (pe_op op_add (pe_op op_add (pv 5) pe_int) (pv 2)) (pv 1)) set_list))
      (pss_one (ps_expr (pe_bmK (K := K) rfl PySem.F.plainAttrs_list PySem.F.slot_list_append PySem.F.type_list_append mt_append (pv 4) (pa_cons (pv 7) pa_nil)))))))))
      (pss_cons (ps_set (i := 8) sc__law_all_move.nd rfl (Or.inl rfl) (pe_mk M__init__ HC.mks HC.kp HC.mgC (hr.mono (by decide)) rfl (pa_cons (pe_op op_rep' (pe_lst' (pa_cons pe_int pa_nil)) (pv 1)) (pa_cons (pv 4) (pa_cons (pe_op op_mod (pe_def D_law_cell_at (hr.mono (by decide)) rfl (pa_cons (pv 0) (pa_cons pe_int pa_nil))) (pe_op op_pow pe_int pe_int)) pa_nil)))))
      (pss_cons (ps_set (i := 9) sc__law_all_move.nd rfl (Or.inl rfl) (pe_def Dkept_way (hr.mono (by decide)) rfl (pa_cons (pv 8) (pa_cons (pe_comp ["_law_i", "_law_many", "_law_shift"] [none, some 1, some 2] rfl rfl rfl (pi_range1 rfl T.range (pa_cons (pv 1) pa_nil)) (fun _ _ _ _ => (pg_name (i := 0) (by decide +kernel : (["_law_i", "_law_many", "_law_shift"] : List PySem.Str).Nodup) rfl (Or.inl rfl))) (fun _ _ _ _ => pifs_nil) (fun _ _ _ _ => (pe_op op_mod (pe_op op_add (pv 0) (pv 2)) (pv 1)))) pa_nil))))
      (pss_one (ps_ret (pe_cmpR (op_eqLK (K := K) rfl hr.units0) (pv 9) (pe_comp ["_law_i", "_law_many", "_law_shift"] [none, some 1, some 2] rfl rfl rfl (pi_range1 rfl T.range (pa_cons (pv 1) pa_nil)) (fun _ _ _ _ => (pg_name (i := 0) (by decide +kernel : (["_law_i", "_law_many", "_law_shift"] : List PySem.Str).Nodup) rfl (Or.inl rfl))) (fun _ _ _ _ => pifs_nil) (fun _ _ _ _ => (pe_op op_mod (pe_op op_add (pe_op op_add (pv 0) pe_int) (pv 2)) (pv 1)))) (nomark _))))))))))), ?_⟩
    walk_at "go"
    refine ⟨a, ns, _, rfl, hS, by omega, fun z1 => ?_⟩
    walk_at "go"
    refine ⟨z1, _, rfl, by omega, by omega, fun y1 y10 y11 => ?_⟩
    walk_at "go"
    refine ⟨a, ns, _, rfl, hS, by omega, fun z2 => ?_⟩
    walk_at "go"
    refine ⟨z2, _, rfl, by omega, by omega, fun y2 y20 y21 => ?_⟩
    walk_at "go"
    refine ⟨a, ns, _, rfl, hS, by omega, fun z3 => ?_⟩
    walk_at "go"
    refine ⟨z3, _, rfl, by omega, by omega, fun y3 y30 y31 => ?_⟩
    walk_at "go"
    have g1 := Int.emod_nonneg y1 (show (9 : Int) ≠ 0 by decide)
    have g2 := Int.emod_lt_of_pos y1 (show (0 : Int) < 9 by decide)
    obtain ⟨N, hN⟩ : ∃ N : Nat, 2 + y1 % 9 = (N : Int) := ⟨(2 + y1 % 9).toNat, by omega⟩
    dsimp only
    rw [hN]
    have N2 : 2 ≤ N := by omega
    have N10 : N ≤ 10 := by omega
    obtain ⟨sh, hsh⟩ : ∃ sh : Nat, y2 % (N : Int) = (sh : Int) := ⟨(y2 % (N : Int)).toNat, by have := Int.emod_nonneg y2 (show (N : Int) ≠ 0 by omega); omega⟩
    obtain ⟨lu, hlu⟩ : ∃ lu : Nat, y3 % (N : Int) = (lu : Int) := ⟨(y3 % (N : Int)).toNat, by have := Int.emod_nonneg y3 (show (N : Int) ≠ 0 by omega); omega⟩
    have hluN : lu < N := by have := Int.emod_lt_of_pos y3 (show (0 : Int) < (N : Int) by omega); omega
    rw [hsh, hlu]
    refine fun W H1 n1 => ?_
    refine ⟨_, rfl, _, rfl, by omega, by omega, ?_⟩
    rw [Int.toNat_natCast]
    refine for_range (fun i σ H' => ∃ (ws : List Addr) (rows : List (List Int)) (o5 o6 o7 : Option V), σ = [some (.ref a), some (.int (N : Int)), some (.int (sh : Int)), some (.int (lu : Int)), some (.ref W), o5, o6, o7, none, none] ∧ H' W = some (.lst (ws.map V.ref)) ∧ rows.length = i ∧ Rows H' ws rows ∧ (∀ w ∈ ws, w ≠ W) ∧ (∀ j row, rows[j]? = some row → RowOk N sh lu j row) ∧ Same H H')
      ⟨[], [], none, none, none, rfl, n1.at_, rfl, ⟨rfl, fun i a row h => by simp at h⟩, (fun w h => by cases h), (fun j row h => by simp at h), n1.same⟩ ?_ ?_
    · rintro i σ H2 hi ⟨ws, rows, o5, o6, o7, rfl, hW, hrl, hR, hne, hrow, s2⟩
      have hiN : i < N := by omega
      walk_at "go"
      refine ⟨a, ns, _, rfl, s2.seq hS, by omega, fun cell => ?_⟩
      walk_at "go"
      refine ⟨cell, _, rfl, by omega, by omega, fun m m0 m1 => ?_⟩
      walk_at "go"
      refine fun l1 H3 n3 => ?_
      have c0 := Int.emod_nonneg cell (show (10 : Int) ^ Int.toNat 39 ≠ 0 by decide)
      have c1 := Int.emod_lt_of_pos cell (show (0 : Int) < 10 ^ Int.toNat 39 by decide)
      have k0 := Int.emod_nonneg m (show (1000 : Int) ≠ 0 by decide)
      have k1 := Int.emod_lt_of_pos m (show (0 : Int) < 1000 by decide)
      have ge : (10 : Int) ^ Int.toNat 39 = 10 ^ 39 := rfl
      dsimp only at n3
      generalize hX : cell % 10 ^ Int.toNat 39 - 1 - m % 1000 = X at *
      generalize hcc : cell % 10 ^ Int.toNat 39 = cc at *
      refine ⟨_, rfl, l1, _, _, rfl, rfl, n3.at_, by omega, by omega, by rw [sizeLine_eq]; simp; omega, fun l2 H4 n4 => ?_⟩
      rw [Int.toNat_natCast, rep_one] at n4
      have hl2 : H4 l2 = some (.lst ((List.replicate N X).map V.int)) := by rw [n4.at_, List.map_replicate]
      have e1 : (0 + (i : Int) + (sh : Int)) % (N : Int) = (((i + sh) % N : Nat) : Int) := by rw [show 0 + (i : Int) + (sh : Int) = ((i + sh : Nat) : Int) by omega]; rfl
      have e2 : (0 + (i : Int) + 1 + (sh : Int)) % (N : Int) = (((i + 1 + sh) % N : Nat) : Int) := by rw [show 0 + (i : Int) + 1 + (sh : Int) = ((i + 1 + sh : Nat) : Int) by omega]; rfl
      have p1 := Nat.mod_lt (i + sh) (show 0 < N by omega)
      have p2 := Nat.mod_lt (i + 1 + sh) (show 0 < N by omega)
      generalize hq1 : (i + sh) % N = q1 at *
      generalize hq2 : (i + 1 + sh) % N = q2 at *
      have nWl : W ≠ l2 := ne_of_none (n3.same _ _ hW) n4.none
      walk_at "go"
      dsimp only
      rw [e1, hcc]
      refine ⟨l2, _, _, q1, rfl, rfl, hl2, ?_, ?_⟩
      · unfold ixN
        rw [if_pos (by omega), if_pos (by simp; omega)]
        simp
      walk_at "go"
      refine .inr ⟨_, rfl, ?_⟩
      walk_at "go"
      dsimp only
      rw [e2, hcc]
      refine ⟨l2, _, _, q2, rfl, rfl, upd_same, ?_, ?_⟩
      · unfold ixN
        rw [if_pos (by omega), if_pos (by simp; omega)]
        simp
      have eb : (if decide (V.int (0 + (i : Int)) = V.int (lu : Int)) = true then (1 : Int) else 0) = if i = lu then 1 else 0 := by
        by_cases h : i = lu
        · rw [if_pos h, if_pos (decide_eq_true (by rw [h]; congr 1; omega))]
        · rw [if_neg h, if_neg (fun z => h (by have := of_decide_eq_true z; injection this; omega))]
      rw [eb]
      have hl6 : upd (upd H4 l2 (.lst (((List.replicate N X).map V.int).set q1 (.int cc)))) l2 (.lst ((((List.replicate N X).map V.int).set q1 (.int cc)).set q2 (.int (cc + (if i = lu then 1 else 0))))) l2 = some (.lst ((((List.replicate N X).set q1 cc).set q2 (cc + (if i = lu then 1 else 0))).map V.int)) := by
        rw [upd_same, List.map_set, List.map_set]
      have k6 : ∀ c o, c ≠ l2 → H4 c = some o → upd (upd H4 l2 (.lst (((List.replicate N X).map V.int).set q1 (.int cc)))) l2 (.lst ((((List.replicate N X).map V.int).set q1 (.int cc)).set q2 (.int (cc + (if i = lu then 1 else 0))))) c = some o := fun c o hc e => by rw [upd_ne hc, upd_ne hc]; exact e
      generalize upd (upd H4 l2 (.lst (((List.replicate N X).map V.int).set q1 (.int cc)))) l2 (.lst ((((List.replicate N X).map V.int).set q1 (.int cc)).set q2 (.int (cc + (if i = lu then 1 else 0))))) = H6 at *
      have k26 : ∀ c o, H2 c = some o → H6 c = some o := fun c o e => k6 c o (ne_of_none (n3.same _ _ e) n4.none) (n4.same _ _ (n3.same _ _ e))
      have hW6 := k26 _ _ hW
      have lws : ws.length = i := by rw [hR.1, hrl]
      refine ⟨_, rfl, .inl ⟨rfl, _, SqL.of hW6⟩, _, rfl, W, _, _, rfl, rfl, hW6, by rw [sizeLine_eq, List.length_map]; omega, ?_⟩
      refine ⟨ws ++ [l2], rows ++ [_], _, _, _, rfl, by rw [upd_same]; simp, by simp [hrl], hR.snoc (fun a ha o e => ?_) (by rw [upd_ne nWl.symm]; exact hl6), fun w hw => ?_, fun j row hj => ?_, fun c o e => ?_⟩
      · rw [upd_ne (hne a ha)]
        exact k26 _ _ e
      · rcases List.mem_append.mp hw with h | h
        · exact hne w h
        · have : w = l2 := by simpa using h
          rw [this]
          exact nWl.symm
      · by_cases hji : j < rows.length
        · rw [List.getElem?_append_left hji] at hj
          exact hrow j row hj
        · have hjl := (List.getElem?_eq_some_iff.mp hj).1
          have e : j = i := by simp at hjl; omega
          subst e
          have er : row = (((List.replicate N X).set q1 cc).set q2 (cc + (if j = lu then 1 else 0))) := by
            rw [List.getElem?_append_right (by omega), hrl, Nat.sub_self] at hj
            exact (Option.some.inj hj).symm
          rw [er, ← hq1, ← hq2]
          exact row_mk N2 hiN (by omega) (by omega) (by omega) (by omega)
      · rw [upd_ne (ne_of_none e n1.none)]
        exact k26 _ _ (s2 _ _ e)
    · rintro σ H2 ⟨ws, rows, o5, o6, o7, rfl, hW, hrl, hR, hne, hrow, s2⟩
      walk_at "go"
      refine fun lb H3 n3 => ?_
      refine ⟨_, rfl, lb, _, _, rfl, rfl, n3.at_, by omega, by omega, by rw [sizeLine_eq]; simp; omega, fun bb H4 n4 => ?_⟩
      rw [Int.toNat_natCast, rep_one] at n4
      have hbb : H4 bb = some (.lst ((List.replicate N (1 : Int)).map V.int)) := by rw [n4.at_, List.map_replicate]
      have s24 : Same H2 H4 := n3.same.trans n4.same
      have S4 : Same H H4 := s2.trans s24
      walk_at "go"
      refine ⟨a, ns, _, rfl, S4.seq hS, by omega, fun zr => ?_⟩
      walk_at "go"
      refine fun x dx nx ndx nex => ?_
      have s0 : Same H4 (upd (upd H4 dx (.own x)) x (.ins C dx [])) := fun c o e => by
        rw [upd_ne (ne_of_none e nx), upd_ne (ne_of_none e ndx)]
        exact e
      have hM : Mat H4 W rows := ⟨ws, s24 _ _ hW, hR.1, fun i b row h1 h2 => s24 _ _ (hR.2 i b row h1 h2)⟩
      refine ⟨x, dx, bb, W, List.replicate N 1, rows, _, rfl, upd_same, s0 _ _ hbb, hM.same s0, by simp; omega, by omega, by rw [sum_ones72]; omega, fun H5 hA5 kp => ⟨rfl, ?_⟩⟩
      have S5 : Same H H5 := S4.trans fun c o e => kp c o (s0 _ _ e) (ne_of_none e nx)
      refine ⟨_, rfl, _, rfl, _, rfl, by omega, by omega, fun D hD => ?_⟩
      rw [Int.toNat_natCast]
      refine compRangeV (fun r => .int (((r + sh) % N : Nat) : Int)) (by rw [sizeLine_eq]; omega) hD (fun r hr H6 N6 s6 hN6 => ?_) fun H6 s6 d6 => ?_
      · walk_at "go"
        have e1 : (0 + (r : Int) + (sh : Int)) % (N : Int) = (((r + sh) % N : Nat) : Int) := by rw [show 0 + (r : Int) + (sh : Int) = ((r + sh : Nat) : Int) by omega]; rfl
        dsimp only
        rw [e1]
        exact hN6 _ (Same.refl _)
      have d6' : H6 D = some (.lst (((List.range N).map fun (r : Nat) => some (((r + sh) % N : Nat) : Int)).map oV)) := by rw [d6, List.map_map]; rfl
      have hro : ∀ row ∈ rows, row.length = N ∧ ∀ z ∈ row, -(10 ^ 40) < z ∧ z < 10 ^ 40 := fun row hr => by
        obtain ⟨j, hj, rfl⟩ := List.mem_iff_getElem.mp hr
        have := hrow j _ (List.getElem?_eq_getElem hj)
        exact ⟨this.len, this.bd⟩
      refine ⟨x, D, List.replicate N 1, rows, _, (List.range N).map fun (r : Nat) => some (((r + sh) % N : Nat) : Int), rfl, hA5.same s6, ⟨by simp; omega, by omega, fun row hr => by rw [(hro row hr).1]; simp⟩, fun row hr z hz => by have := (hro row hr).2 z hz; omega, SqL.of d6', by simp [hrl], by rw [sum_ones72]; omega, fun b hb => by rw [List.eq_of_mem_replicate hb]; decide, (hL.same S5).same s6, fun l way H7 s7 so7 f7 h7 hL7 ln fit opt kp7 => ?_⟩
      refine ⟨_, rfl, _, rfl, _, rfl, by omega, by omega, fun D2 hD2 => ?_⟩
      rw [Int.toNat_natCast]
      refine compRangeV (fun r => .int (((r + 1 + sh) % N : Nat) : Int)) (by rw [sizeLine_eq]; omega) hD2 (fun r hr H8 N8 s8 hN8 => ?_) fun H8 s8 d8 => ?_
      · walk_at "go"
        have e1 : (0 + (r : Int) + 1 + (sh : Int)) % (N : Int) = (((r + 1 + sh) % N : Nat) : Int) := by rw [show 0 + (r : Int) + 1 + (sh : Int) = ((r + 1 + sh : Nat) : Int) by omega]; rfl
        dsimp only
        rw [e1]
        exact hN8 _ (Same.refl _)
      have d8' : H8 D2 = some (.lst (((List.range N).map fun (i : Nat) => (((i + 1 + sh) % N : Nat) : Int)).map V.int)) := by rw [d8, List.map_map]; rfl
      refine ⟨l, D2, wI way, _, rfl, rfl, SqL.of (s8 _ _ h7), SqL.of d8', ?_⟩
      have em := moved_on N2 hluN (by omega) hrl hrow fit opt
      have s58 : SameB H5 H8 := (s6.b.trans s7).trans s8.b
      rw [em]
      rw [if_neg Bool.false_ne_true, decide_eq_true rfl]
      exact q H8 (S5.b.trans s58) (S5.o.trans ((s6.o.trans so7).trans s8.o)) (hL7.same s8)
theorem D_rowmoves {C PB PT cL : Addr} (T : Txt mg) (HC : HCls K mg C) (S : SrcL K mg "_law_row_moves" "_law_row_moves" s__law_row_moves cL PT) (BA : base.BuiltinsAt mg PT) (M__init__ : MDef P w K mg base 1 C "__init__" ["self", "beds", "worths", "rent"] (sp_init C)) (D_law_whole : Def P w K mg base 1 "_law_whole" ["_law_found"] sp_whole) (D_law_mixed : Def P w K mg base 1 "_law_mixed" ["_law_cell", "_law_k"] sp_mixed) (D_law_cell_at : Def P w K mg base 1 "_law_cell_at" ["_law_script", "_law_k"] (sp_cell K)) (Dkept_way : Def P w K mg base 6 "kept_way" ["house", "old"] (sp_kept2 K C PB lamPos "bring_in.<locals>.<lambda>")) : Def P w K mg base 7 "_law_row_moves" ["_law_script"] (sp_rowmoves72 K PB lamPos "bring_in.<locals>.<lambda>" PT) := by
  refine S.mkL sc__law_row_moves (fun vs H Q E h => ?_) (fun _ _ _ _ _ _ us hl => match us, hl with | [_], _ => rfl) (fun f A outer s H vs Q E hr h => ?_)
  · obtain ⟨a, ns, rfl, _⟩ := h
    rfl
  · obtain ⟨a, ns, rfl, hS, hL, hP, hne, q⟩ := h
    refine ⟨_, (pss_cons (ps_set (i := 1) sc__law_row_moves.nd rfl (Or.inl rfl) (pe_op op_add pe_int (pe_op op_mod (pe_def D_law_mixed (hr.mono (by decide)) rfl (pa_cons (pe_def D_law_cell_at (hr.mono (by decide)) rfl (pa_cons (pv 0) (pa_cons pe_int pa_nil))) (pa_cons pe_int pa_nil))) pe_int)))
      (pss_cons (ps_set (i := 3) sc__law_row_moves.nd rfl (Or.inr rfl) (pe_op op_cat' (pe_op op_cat' (pe_lst' (pa_cons (pe_tup' (pa_cons pe_int (pa_cons pe_int pa_nil))) (pa_cons (pe_tup' (pa_cons pe_int (pa_cons pe_int pa_nil))) pa_nil))) (pe_comp ["_law_i"] [none] rfl rfl rfl (pi_range1 rfl T.range (pa_cons (pe_op op_sub (pv 1) pe_int) pa_nil)) (fun _ _ _ _ => (pg_name (i := 0) (by decide +kernel : (["_law_i"] : List PySem.Str).Nodup) rfl (Or.inl rfl))) (fun _ _ _ _ => pifs_nil) (fun _ _ _ _ => (pe_tup' (pa_cons (pe_op op_add pe_int (pv 0)) (pa_cons (pe_op op_add pe_int (pv 0)) pa_nil)))))) (pe_lst' (pa_cons (pe_tup' (pa_cons (pe_op op_add pe_int (pv 1)) (pa_cons pe_int pa_nil))) pa_nil))))
      (pss_cons (ps_set (i := 4) sc__law_row_moves.nd rfl (Or.inl rfl) (pe_op op_cat' (pe_lst' (pa_cons pe_int (pa_cons pe_non pa_nil))) (pe_comp ["_law_i"] [none] rfl rfl rfl (pi_range1 rfl T.range (pa_cons (pv 1) pa_nil)) (fun _ _ _ _ => (pg_name (i := 0) (by decide +kernel : (["_law_i"] : List PySem.Str).Nodup) rfl (Or.inl rfl))) (fun _ _ _ _ => pifs_nil) (fun _ _ _ _ => (pe_op op_add pe_int (pv 0))))))
      (pss_cons (ps_for PassesOwn.never rfl (pi_range1 rfl T.range (pa_cons (pe_op op_sub pe_int (pv 1)) pa_nil)) (pg_name (i := 5) sc__law_row_moves.nd rfl (Or.inl rfl))
      (pss_cons (ps_expr (pe_bmK (K := K) rfl PySem.F.plainAttrs_list PySem.F.slot_list_append PySem.F.type_list_append mt_append (pv 3) (pa_cons (pe_tup' (pa_cons (pe_op op_add pe_int (pv 1)) (pa_cons (pe_op op_add pe_int (pv 1)) pa_nil))) pa_nil)))
      (pss_one (ps_expr (pe_bmK (K := K) rfl PySem.F.plainAttrs_list PySem.F.slot_list_append PySem.F.type_list_append mt_append (pv 4) (pa_cons (pe_op op_add (pe_op op_add pe_int (pv 1)) (pe_op op_mod (pv 5) pe_int)) pa_nil))))))
      (pss_cons (ps_set (i := 6) sc__law_row_moves.nd rfl (Or.inr rfl) (pe_op op_cat' (pe_op op_rep' (pe_lst' (pa_cons pe_int pa_nil)) (pe_op op_add pe_int (pv 1))) (pe_lst' (pa_cons pe_int (pa_cons pe_int pa_nil)))))
      (pss_cons (ps_set (i := 7) sc__law_row_moves.nd rfl (Or.inl rfl) (pe_sortLam (x := "_law_i") (Nc := ["_law_script"]) (ix := [some 0]) S.hd BA rfl rfl T.sorted hr.dep (pa_cons (pe_listRange rfl (by rfl) T.list (by rfl) T.range (pe_callB (call_lenK (K := K) rfl) (by rfl) T.len boot_len' (pa_cons (pv 3) pa_nil))) pa_nil) (fun _ _ _ _ _ => (pe_def D_law_mixed ((Room.in1 (Room.in1 (hr.mono (by decide)))).deeper _) rfl (pa_cons (pe_def D_law_cell_at ((Room.in1 (Room.in1 (hr.mono (by decide)))).deeper _) rfl (pa_cons (pv 1) (pa_cons (pe_op op_add pe_int (pv 0)) pa_nil))) (pa_cons (pe_op op_add pe_int (pv 0)) pa_nil)))) rfl rfl rfl rfl rfl rfl (fun _ _ _ _ _ => rfl) rfl rfl))
      (pss_cons (ps_set (i := 8) sc__law_row_moves.nd rfl (Or.inr rfl) (pe_sortLam (x := "_law_r") (Nc := ["_law_script"]) (ix := [some 0]) S.hd BA rfl rfl T.sorted hr.dep (pa_cons (pe_listRange rfl (by rfl) T.list (by rfl) T.range (pe_callB (call_lenK (K := K) rfl) (by rfl) T.len boot_len' (pa_cons (pv 6) pa_nil))) pa_nil) (fun _ _ _ _ _ => (pe_def D_law_mixed ((Room.in1 (Room.in1 (hr.mono (by decide)))).deeper _) rfl (pa_cons (pe_def D_law_cell_at ((Room.in1 (Room.in1 (hr.mono (by decide)))).deeper _) rfl (pa_cons (pv 1) (pa_cons (pe_op op_add pe_int (pv 0)) pa_nil))) (pa_cons (pe_op op_add pe_int (pv 0)) pa_nil)))) rfl rfl rfl rfl rfl rfl (fun _ _ _ _ _ => rfl) rfl rfl))
      (pss_cons (ps_asg (pe_tup' (pa_cons (pe_lst' pa_nil) (pa_cons (pe_lst' pa_nil) pa_nil))) (pg_tupK (K := K) (n := 2) rfl rfl (pgs_cons (pg_name (i := 9) sc__law_row_moves.nd rfl (Or.inl rfl)) (pgs_cons (pg_name (i := 10) sc__law_row_moves.nd rfl (Or.inr rfl)) pgs_nil))))
      (pss_cons (ps_for PassesOwn.never rfl (pi_listK (K := K) rfl (pv 7)) (pg_name (i := 2) sc__law_row_moves.nd rfl (Or.inr rfl))
      (pss_cons (ps_set (i := 11) sc__law_row_moves.nd rfl (Or.inr rfl) (pe_def D_law_cell_at (hr.mono (by decide)) rfl (pa_cons (pv 0) (pa_cons (pe_op op_add pe_int (pv 2)) pa_nil))))
      (pss_cons (ps_set (i := 12) sc__law_row_moves.nd rfl (Or.inr rfl) (pe_op op_mod (pv 11) (pe_op op_pow pe_int pe_int)))
      (pss_cons (ps_expr (pe_bmK (K := K) rfl PySem.F.plainAttrs_list PySem.F.slot_list_append PySem.F.type_list_append mt_append (pv 9) (pa_cons (pe_comp ["_law_r", "_law_cell", "_law_i", "_law_lists", "_law_worth"] [none, some 11, some 2, some 3, some 12] rfl rfl rfl (pi_listK (K := K) rfl (pv 8)) (fun _ _ _ _ => (pg_name (i := 0) (by decide +kernel : (["_law_r", "_law_cell", "_law_i", "_law_lists", "_law_worth"] : List PySem.Str).Nodup) rfl (Or.inl rfl))) (fun _ _ _ _ => pifs_nil) (fun _ _ _ _ => (pe_op op_sub (pv 4) (pe_op op_mulW (pe_op op_add pe_int (pe_op op_mod (pe_def D_law_mixed (hr.mono (by decide)) rfl (pa_cons (pv 1) (pa_cons (pe_op op_add pe_int (pv 2)) pa_nil))) pe_int)) (pe_callTy call_int1 (by rfl) T.int boot_int' (pa_cons (pe_cmpR (op_notIn_seqK (K := K) rfl) (pv 0) (pe_ix (ix_seqK (K := K) rfl) (pv 3) (pv 2) (fun _ _ => rfl)) (by with_unfolding_all rfl)) pa_nil)))))) pa_nil)))
      (pss_one (ps_expr (pe_bmK (K := K) rfl PySem.F.plainAttrs_list PySem.F.slot_list_append PySem.F.type_list_append mt_append (pv 10) (pa_cons (pe_join (pe_ifExp (pt_cmpR op_isN (pe_ix (ix_seqK (K := K) rfl) (pv 4) (pv 2) (fun _ _ => rfl)) pe_non (nomark _)) pe_non (pe_bmK (K := K) rfl PySem.F.plainAttrs_list PySem.F.slot_list_index PySem.F.type_list_index (mt_indexL (K := K)) (pv 8) (pa_cons (pe_ix (ix_seqK (K := K) rfl) (pv 4) (pv 2) (fun _ _ => rfl)) pa_nil)))) pa_nil))))))))
      (pss_cons (ps_set (i := 13) sc__law_row_moves.nd rfl (Or.inr rfl) (pe_mk M__init__ HC.mks HC.kp HC.mgC (hr.mono (by decide)) rfl (pa_cons (pe_comp ["_law_r", "_law_beds_here"] [none, some 6] rfl rfl rfl (pi_listK (K := K) rfl (pv 8)) (fun _ _ _ _ => (pg_name (i := 0) (by decide +kernel : (["_law_r", "_law_beds_here"] : List PySem.Str).Nodup) rfl (Or.inl rfl))) (fun _ _ _ _ => pifs_nil) (fun _ _ _ _ => (pe_ix (ix_seqK (K := K) rfl) (pv 1) (pv 0) (fun _ _ => rfl)))) (pa_cons (pv 9) (pa_cons (pe_op op_mod (pe_def D_law_cell_at (hr.mono (by decide)) rfl (pa_cons (pv 0) (pa_cons pe_int pa_nil))) (pe_op op_pow pe_int pe_int)) pa_nil)))))
      (pss_cons (ps_set (i := 14) sc__law_row_moves.nd rfl (Or.inr rfl) (pe_def Dkept_way (hr.mono (by decide)) rfl (pa_cons (pv 13) (pa_cons (pe_callTy (call_list_ofK (K := K) rfl) (by rfl) T.list boot_list' (pa_cons (pv 10) pa_nil)) pa_nil))))
      (pss_cons (ps_if (PW.pt (pw_or (pt_not (pt_val (pe_callB (call_isinstK (K := K) rfl) (by rfl) T.isinstance boot_isinstance' (pa_cons (pv 14) (pa_cons (pe_bltn (v := .ty "list") rfl T.list boot_list' rfl) pa_nil))))) (pw_or (pt_cmpR op_ne (pe_callB (call_lenK (K := K) rfl) (by rfl) T.len boot_len' (pa_cons (pv 14) pa_nil)) (pe_callB (call_lenK (K := K) rfl) (by rfl) T.len boot_len' (pa_cons (pv 10) pa_nil)) (nomark _)) (pw_or1 (pt_not (pt_val (pe_callB (call_allK (K := K) rfl rfl) (by rfl) T.all boot_all' (pa_cons (pe_comp ["_law_r"] [none] rfl rfl rfl (pi_listK (K := K) rfl (pv 14)) (fun _ _ _ _ => (pg_name (i := 0) (by decide +kernel : (["_law_r"] : List PySem.Str).Nodup) rfl (Or.inl rfl))) (fun _ _ _ _ => pifs_nil) (fun _ _ _ _ => (pe_def D_law_whole (hr.mono (by decide)) rfl (pa_cons (pv 0) pa_nil)))) pa_nil)))))))) (pss_one (ps_ret pe_bl)) pss_nil)
      (pss_cons (ps_if (pt_val (pe_callB (call_anyK (K := K) rfl rfl) (by rfl) T.any boot_any' (pa_cons (pe_comp ["_law_j", "_law_i", "_law_found", "_law_lists", "_law_rooms"] [none, none, some 14, some 3, some 8] rfl rfl rfl (pi_enumK (K := K) rfl rfl T.enumerate (pa_cons (pv 7) pa_nil)) (fun _ _ _ _ => (pg_tupK (K := K) (n := 2) rfl rfl (pgs_cons (pg_name (i := 0) (by decide +kernel : (["_law_j", "_law_i", "_law_found", "_law_lists", "_law_rooms"] : List PySem.Str).Nodup) rfl (Or.inl rfl)) (pgs_cons (pg_name (i := 1) (by decide +kernel : (["_law_j", "_law_i", "_law_found", "_law_lists", "_law_rooms"] : List PySem.Str).Nodup) rfl (Or.inl rfl)) pgs_nil)))) (fun _ _ _ _ => pifs_nil) (fun _ _ _ _ => (pe_cmpR (op_notIn_seqK (K := K) rfl) (pe_ix (ix_seqK (K := K) rfl) (pv 4) (pe_ix (ix_seqK (K := K) rfl) (pv 2) (pv 0) (fun _ _ => rfl)) (fun _ _ => rfl)) (pe_ix (ix_seqK (K := K) rfl) (pv 3) (pv 1) (fun _ _ => rfl)) (by with_unfolding_all rfl)))) pa_nil))) (pss_one (ps_ret pe_bl)) pss_nil)
      (pss_cons (ps_if (pt_val (pe_callB (call_anyK (K := K) rfl rfl) (by rfl) T.any boot_any' (pa_cons (pe_comp ["_law_r", "_law_found", "_law_house_here"] [none, some 14, some 13] rfl rfl rfl (pi_listK (K := K) rfl (pv 14)) (fun _ _ _ _ => (pg_name (i := 0) (by decide +kernel : (["_law_r", "_law_found", "_law_house_here"] : List PySem.Str).Nodup) rfl (Or.inl rfl))) (fun _ _ _ _ => pifs_nil) (fun _ _ _ _ => (pe_cmpR op_gt (pe_bmK (K := K) rfl PySem.F.plainAttrs_list PySem.F.slot_list_count PySem.F.type_list_count (mt_countK (K := K) rfl) (pv 1) (pa_cons (pv 0) pa_nil)) (pe_ix (ix_seqK (K := K) rfl) (pe_fldK (K := K) rfl (pv 2) rfl) (pv 0) (fun _ _ => rfl)) (nomark _)))) pa_nil))) (pss_one (ps_ret pe_bl)) pss_nil)
      (pss_one (ps_ret (pe_cmpR op_eq (pe_callB (call_lenK (K := K) rfl) (by rfl) T.len boot_len' (pa_cons (pe_comp ["_law_j", "_law_found", "_law_old"] [none, some 14, some 10] rfl rfl rfl (pi_range1 rfl T.range (pa_cons (pe_callB (call_lenK (K := K) rfl) (by rfl) T.len boot_len' (pa_cons (pv 10) pa_nil)) pa_nil)) (fun _ _ _ _ => (pg_name (i := 0) (by decide +kernel : (["_law_j", "_law_found", "_law_old"] : List PySem.Str).Nodup) rfl (Or.inl rfl))) (fun _ _ _ _ => (pifs_one (pt_cmpR op_eq (pe_ix (ix_seqK (K := K) rfl) (pv 2) (pv 0) (fun _ _ => rfl)) (pe_ix (ix_seqK (K := K) rfl) (pv 1) (pv 0) (fun _ _ => rfl)) (nomark _)))) (fun _ _ _ _ => (pv 0))) pa_nil)) (pe_op op_sub (pe_callB (call_lenK (K := K) rfl) (by rfl) T.len boot_len' (pa_cons (pv 10) pa_nil)) pe_int) (nomark _)))))))))))))))))), ?_⟩
    walk_at "go"
    refine ⟨a, ns, _, rfl, hS, by omega, fun z1 => ?_⟩
    walk_at "go"
    refine ⟨z1, _, rfl, by omega, by omega, fun y1 y10 y11 => ?_⟩
    walk_at "go"
    have g1 := Int.emod_nonneg y1 (show (3 : Int) ≠ 0 by decide)
    have g2 := Int.emod_lt_of_pos y1 (show (0 : Int) < 3 by decide)
    obtain ⟨R, hR⟩ : ∃ R : Nat, 2 + y1 % 3 = (R : Int) := ⟨(2 + y1 % 3).toNat, by omega⟩
    have R2 : 2 ≤ R := by omega
    have R4 : R ≤ 4 := by omega
    dsimp only
    rw [hR]
    refine fun t1 H1 n1 => ?_
    walk_at "go"
    refine fun t2 H2 n2 => ?_
    walk_at "go"
    refine fun la H3 n3 => ?_
    walk_at "go"
    refine fun D hD => ?_
    rw [show ((R : Int) - 1).toNat = R - 1 by omega]
    refine comp_range (fun i y H => ∃ t, y = .ref t ∧ t ≠ D ∧ H t = some (.tup [.int (2 + (0 + (i : Int))), .int (3 + (0 + (i : Int)))])) (by rw [sizeLine_eq]; omega) hD (fun i y H H' k h => by
      obtain ⟨t, e, ne, ht⟩ := h
      exact ⟨t, e, ne, k _ _ ne ht⟩) ?_ ?_
    · rintro i H4 ys N hi s4 d4 hN
      walk_at "go"
      exact fun t H5 n5 => hN _ _ n5.same ⟨t, rfl, (ne_of_none d4 n5.none).symm, n5.at_⟩
    rintro ys H4 s4 d4 ly hy
    obtain ⟨as, e, hz⟩ := vals_of (P := fun _ _ => True) V.ref (fun i t => H4 t = some (.tup [.int (2 + (0 + (i : Int))), .int (3 + (0 + (i : Int)))])) ys 0 (fun i y h => by
      obtain ⟨t, e, _, ht⟩ := hy i y h
      exact ⟨t, e, by rw [Nat.zero_add]; exact ht⟩)
    subst e
    have las : as.length = R - 1 := by simpa using ly
    have pB := pairs_of (H := H4) las (fun i t h => by have := hz i t h; rwa [Nat.zero_add] at this)
    refine ⟨la, D, _, _, rfl, rfl, s4 _ _ n3.at_, d4, by rw [sizeLine_eq]; simp; omega, fun lb H5 n5 => ?_⟩
    walk_at "go"
    refine fun t3 H6 n6 => ?_
    walk_at "go"
    refine fun lc H7 n7 => ?_
    refine ⟨lb, lc, _, _, rfl, rfl, n7.same _ _ (n6.same _ _ n5.at_), n7.at_, by rw [sizeLine_eq]; simp; omega, fun ld H8 n8 => ?_⟩
    have s58 : Same H5 H8 := (n6.same.trans n7.same).trans n8.same
    have s48 : Same H4 H8 := n5.same.trans s58
    have s38 : Same H3 H8 := s4.trans s48
    have hld : H8 ld = some (.lst (([t1, t2] ++ as ++ [t3]).map V.ref)) := by rw [n8.at_]; simp
    have hpr : Prs H8 ([t1, t2] ++ as ++ [t3]) ((rowP0 R).map iP) := by
      have p1 : Prs H8 [t1] [iP (0, 1)] := Prs.one (s38 _ _ (n3.same _ _ (n2.same _ _ n1.at_)))
      have p2 : Prs H8 [t2] [iP (0, 2)] := Prs.one (s38 _ _ (n3.same _ _ n2.at_))
      have p3 : Prs H8 [t3] [iP (1 + R, 1)] := Prs.one (by
        have := n8.same _ _ (n7.same _ _ n6.at_)
        rw [this]
        congr 3)
      have := ((p1.append p2).append (pB.same s48)).append p3
      unfold rowP0
      simpa using this
    -- the rooms that they had
    walk_at "go"
    refine fun lh0 H9 n9 => ?_
    refine ⟨_, rfl, _, rfl, by omega, by omega, fun D2 hD2 => ?_⟩
    rw [Int.toNat_natCast]
    refine compRangeV (fun i => .int (2 + (0 + (i : Int)))) (by rw [sizeLine_eq]; omega) hD2 (fun i hi H10 N s10 hN => ?_) fun H10 s10 d10 => ?_
    · walk_at "go"
      exact hN _ (Same.refl _)
    refine ⟨lh0, D2, _, _, rfl, rfl, s10 _ _ n9.at_, d10, by rw [sizeLine_eq]; simp; omega, fun lh H11 n11 => ?_⟩
    have s811 : Same H8 H11 := (n9.same.trans s10).trans n11.same
    have hlh : H11 lh = some (.lst (hadV (rowH0 R))) := by
      rw [n11.at_]
      unfold rowH0
      rw [hadV_app, ← hadV_rng R 2]
      rfl
    have hld11 := s811 _ _ hld
    have nlh : ld ≠ lh := ne_of_none ((n9.same.trans s10) _ _ hld) n11.none
    have S8 : Same H H8 := ((n1.same.trans n2.same).trans n3.same).trans s38
    have S11 : Same H H11 := S8.trans s811
    have fld : H ld = none := (((((n1.same.trans n2.same).trans n3.same).trans s4).trans n5.same).trans (n6.same.trans n7.same)).free n8.none
    have flh : H lh = none := (S8.trans (n9.same.trans s10)).free n11.none
    -- those in the two great rooms
    refine ⟨_, rfl, _, _, rfl, rfl, _, rfl, by omega, by omega, ?_⟩
    have e8 : ((8 : Int) - (R : Int)).toNat = 8 - R := by omega
    refine for_range (fun k σ H' => ∃ (as' : List Addr) (o5 : Option V), σ = [some (.ref a), some (.int (R : Int)), none, some (.ref ld), some (.ref lh), o5, none, none, none, none, none, none, none, none, none] ∧ H' ld = some (.lst (as'.map V.ref)) ∧ Prs H' as' ((rowP0 R ++ List.replicate k (2 + R, 3 + R)).map iP) ∧ H' lh = some (.lst (hadV (rowH0 R ++ (List.range k).map fun k => some (2 + R + k % 2)))) ∧ Same H H')
      ⟨_, none, rfl, hld11, by simpa using hpr.same s811, by simpa using hlh, S11⟩ ?_ ?_
    · rintro k σ H12 hk ⟨as', o5, rfl, hl12, hp12, hh12, S12⟩
      have la' : as'.length ≤ 20 := by rw [hp12.1]; unfold rowP0; simp; omega
      refine ⟨_, rfl, .inl ⟨rfl, _, SqL.of hl12⟩, ?_⟩
      walk_at "go"
      refine fun t H13 n13 => ?_
      refine ⟨ld, _, _, rfl, rfl, n13.same _ _ hl12, by rw [sizeLine_eq, List.length_map]; omega, ?_⟩
      have hh14 : upd H13 ld (.lst (as'.map V.ref ++ [.ref t])) lh = some (.lst (hadV (rowH0 R ++ (List.range k).map fun k => some (2 + R + k % 2)))) := by rw [upd_ne nlh.symm]; exact n13.same _ _ hh12
      have ntl : t ≠ ld := (ne_of_none hl12 n13.none).symm
      have nth : t ≠ lh := (ne_of_none hh12 n13.none).symm
      refine ⟨_, rfl, .inl ⟨rfl, _, SqL.of hh14⟩, ?_⟩
      walk_at "go"
      refine ⟨lh, _, _, rfl, rfl, hh14, by rw [sizeLine_eq]; unfold hadV rowH0; simp; omega, ?_⟩
      refine ⟨as' ++ [t], _, rfl, ?_, ?_, ?_, fun c o e => ?_⟩
      · rw [upd_ne nlh, upd_same]
        simp
      · have e1 : rowP0 R ++ List.replicate (k + 1) (2 + R, 3 + R) = (rowP0 R ++ List.replicate k (2 + R, 3 + R)) ++ [(2 + R, 3 + R)] := by rw [List.replicate_succ', List.append_assoc]
        rw [e1, List.map_append]
        refine ((hp12.same n13.same).keep fun c hc o e => ?_).append (Prs.one (p := iP (2 + R, 3 + R)) ?_)
        · rw [upd_ne (hp12.neL hh12 c hc), upd_ne (hp12.neL hl12 c hc)]
          exact e
        · rw [upd_ne nth, upd_ne ntl, n13.at_]
          congr 3
      · rw [upd_same, List.range_succ, List.map_append, ← List.append_assoc, hadV_app (rowH0 R ++ _)]
        congr 3
        show [V.int (2 + (R : Int) + (0 + (k : Int)) % 2)] = [V.int ((2 + R + k % 2 : Nat) : Int)]
        congr 2
        omega
      · rw [upd_ne (ne_of_none e flh), upd_ne (ne_of_none e fld)]
        exact n13.same _ _ (S12 _ _ e)
    rintro σ H12 ⟨as', o5, rfl, hl12, hp12, hh12, S12⟩
    rw [e8, rowL_is] at hp12
    rw [e8, rowH_is] at hh12
    obtain ⟨ll, lhh, lbb⟩ := row_lens R2 R4
    have la' : as'.length = 10 := by rw [hp12.1, List.length_map, ll]
    -- the beds
    walk_at "go"
    refine fun l1 H13 n13 => ?_
    walk_at "go"
    refine ⟨l1, _, _, rfl, rfl, n13.at_, by omega, by omega, by rw [sizeLine_eq]; simp; omega, fun l2 H14 n14 => ?_⟩
    walk_at "go"
    refine fun l3 H15 n15 => ?_
    refine ⟨l2, l3, _, _, rfl, rfl, n15.same _ _ n14.at_, n15.at_, by rw [sizeLine_eq]; simp; omega, fun lb H16 n16 => ?_⟩
    have hlb : H16 lb = some (.lst ((rowB R).map fun (b : Nat) => V.int (b : Int))) := by
      rw [n16.at_, rep_one, show ((2 : Int) + (R : Int)).toNat = 2 + R by omega]
      unfold rowB
      rw [List.map_append, List.map_replicate]
      rfl
    have s1216 : Same H12 H16 := ((n13.same.trans n14.same).trans n15.same).trans n16.same
    have S16 : Same H H16 := S12.trans s1216
    -- an order of the people
    refine ⟨_, rfl, ld, _, rfl, .inl (SqL.of (s1216 _ _ hl12)), 10, by rw [List.length_map, la'], by omega, fun lr H17 n17 => ?_⟩
    have S17 : Same H H17 := S16.trans n17.same
    refine ⟨lr, (List.range 10).map fun (i : Nat) => (i : Int), #[], rfl, SqL.of (by rw [n17.at_, List.map_map]; rfl), by simp, S17 _ _ hP, trivial, rfl, fun z hz H18 sb18 => ?_, fun lo co zs H18 hp sb18 so18 hDn hP18 => ?_⟩
    · obtain ⟨i, hi, rfl⟩ := List.mem_map.mp hz
      have hi := List.mem_range.mp hi
      walk_at "go"
      refine ⟨a, ns, _, rfl, sb18.seq (S17.seq hS), by omega, fun y => ?_⟩
      walk_at "go"
      exact ⟨y, _, rfl, by omega, by omega, fun m _ _ => ⟨⟨m, rfl⟩, rfl⟩⟩
    obtain ⟨os, rfl, po⟩ := cast_perm hp
    have hlo : upd H18 lo (.lst ((os.map fun (i : Nat) => (i : Int)).map V.int)) lo = some (.lst ((os.map fun (i : Nat) => (i : Int)).map V.int)) := upd_same
    have nPl : PT ≠ lo := ne_of_none hP18 hDn
    have hP19 : upd H18 lo (.lst ((os.map fun (i : Nat) => (i : Int)).map V.int)) PT = some (.tbl (#[] ++ #[rawInt 145, rawInt 58, .ref co])) := by rw [upd_ne nPl]; exact hP18
    have B19 : SameB H17 (upd H18 lo (.lst ((os.map fun (i : Nat) => (i : Int)).map V.int))) := sb18.trans (Same.upd hDn).b
    have O19 : SameO PT H17 (upd H18 lo (.lst ((os.map fun (i : Nat) => (i : Int)).map V.int))) := SameO.trans so18 (Same.upd hDn).o
    generalize upd H18 lo (.lst ((os.map fun (i : Nat) => (i : Int)).map V.int)) = H19 at *
    have hlb19 := B19.to _ _ (n17.same _ _ hlb) rfl
    -- an order of the rooms
    refine ⟨_, rfl, lb, _, rfl, .inl (SqL.of hlb19), R + 4, by rw [List.length_map, lbb], by omega, fun lr2 H20 n20 => ?_⟩
    have B20 : SameB H17 H20 := B19.trans n20.same.b
    refine ⟨lr2, (List.range (R + 4)).map fun (i : Nat) => (i : Int), _, rfl, SqL.of (by rw [n20.at_, List.map_map]; rfl), by simp; omega, n20.same _ _ hP19, trivial, rfl, fun z hz H21 sb21 => ?_, fun lq cq zs H21 hp2 sb21 so21 hDn2 hP21 => ?_⟩
    · obtain ⟨i, hi, rfl⟩ := List.mem_map.mp hz
      have hi := List.mem_range.mp hi
      walk_at "go"
      refine ⟨a, ns, _, rfl, sb21.seq (B20.seq (S17.seq hS)), by omega, fun y => ?_⟩
      walk_at "go"
      exact ⟨y, _, rfl, by omega, by omega, fun m _ _ => ⟨⟨m, rfl⟩, rfl⟩⟩
    obtain ⟨rs, rfl, pr⟩ := cast_perm hp2
    have B22 : SameB H20 (upd H21 lq (.lst ((rs.map fun (i : Nat) => (i : Int)).map V.int))) := sb21.trans (Same.upd hDn2).b
    have O22 : SameO PT H20 (upd H21 lq (.lst ((rs.map fun (i : Nat) => (i : Int)).map V.int))) := SameO.trans so21 (Same.upd hDn2).o
    have hlq : upd H21 lq (.lst ((rs.map fun (i : Nat) => (i : Int)).map V.int)) lq = some (.lst ((rs.map fun (i : Nat) => (i : Int)).map V.int)) := upd_same
    generalize upd H21 lq (.lst ((rs.map fun (i : Nat) => (i : Int)).map V.int)) = H22 at *
    have B1722 : SameB H17 H22 := B20.trans B22
    have O1722 : SameO PT H17 H22 := SameO.trans (SameO.trans O19 n20.same.o) O22
    have s1217 : Same H12 H17 := s1216.trans n17.same
    have lo10 : os.length = 10 := by rw [po.length_eq, List.length_range]
    have lrs : rs.length = R + 4 := by rw [pr.length_eq, List.length_range]
    -- two lists to fill
    walk_at "go"
    refine fun lw H23 n23 => ?_
    walk_at "go"
    refine fun lold H24 n24 => ?_
    walk_at "go"
    refine fun tt H25 n25 => ?_
    refine ⟨tt, _, rfl, SqT.of n25.at_, rfl, _, _, rfl, _, _, rfl, rfl, ?_⟩
    have s2225 : Same H22 H25 := (n23.same.trans n24.same).trans n25.same
    have hlo22 : H22 lo = some (.lst ((os.map fun (i : Nat) => (i : Int)).map V.int)) := B22.to _ _ (n20.same _ _ hlo) rfl
    have hld22 := B1722.to _ _ (s1217 _ _ hl12) rfl
    have hlh22 := B1722.to _ _ (s1217 _ _ hh12) rfl
    have hlb22 := B1722.to _ _ (n17.same _ _ hlb) rfl
    have hpr22 : Prs H22 as' ((rowL R).map iP) := (hp12.same s1217).sameB B1722
    have hS22 : SqL K H22 a (ns.map V.int) := B1722.seq (S17.seq hS)
    have nwo : lw ≠ lold := ne_of_none n23.at_ n24.none
    have f1 : ∀ c o, H22 c = some o → c ≠ lw := fun c o e => ne_of_none e n23.none
    have f2 : ∀ c o, H22 c = some o → c ≠ lold := fun c o e => ne_of_none (n23.same _ _ e) n24.none
    refine ⟨_, rfl, lo, rfl, ⟨_, SqL.of (s2225 _ _ hlo22)⟩, ?_⟩
    refine for_list (xs := (os.map fun (i : Nat) => (i : Int)).map V.int) (fun j σ H' => ∃ (ws : List Addr) (rows : List (List Int)) (o2 o11 o12 : Option V), σ = [some (.ref a), some (.int (R : Int)), o2, some (.ref ld), some (.ref lh), o5, some (.ref lb), some (.ref lo), some (.ref lq), some (.ref lw), some (.ref lold), o11, o12, none, none] ∧ H' lw = some (.lst (ws.map V.ref)) ∧ rows.length = j ∧ Rows H' ws rows ∧ (∀ c ∈ ws, c ≠ lw ∧ c ≠ lold) ∧ H' lold = some (.lst (((os.take j).map (rowO R rs)).map oV)) ∧ (∀ j' row, rows[j']? = some row → RowW R rs (os.getD j' 0) row) ∧ Same H22 H')
      ⟨[], [], _, _, _, rfl, n25.same _ _ (n24.same _ _ n23.at_), rfl, ⟨rfl, fun i a row h => by simp at h⟩, (fun c h => by cases h), by simpa using n25.same _ _ n24.at_, (fun j row h => by simp at h), s2225⟩ ?_ ?_ ?_
    · rintro j σ H' hj ⟨ws, rows, o2, o11, o12, rfl, h1, h2, h3, h4, h5, h6, h7⟩
      exact SqL.of (h7 _ _ hlo22)
    · rintro j x σ H26 hx ⟨ws, rows, o2, o11, o12, rfl, hlw, hrl, hRw, hwn, hol, hrow, S26⟩
      obtain ⟨iz, hiz, rfl⟩ := int_at hx
      have hj : j < 10 := by have := (List.getElem?_eq_some_iff.mp hiz).1; simp at this; omega
      have hmj : os.getD j 0 ∈ os := by
        rw [List.getD_eq_getElem?_getD, List.getElem?_eq_getElem (by omega)]
        exact List.getElem_mem _
      have hi10 : os.getD j 0 < 10 := List.mem_range.mp (po.mem_iff.mp hmj)
      have ei : iz = ((os.getD j 0 : Nat) : Int) := by
        rw [List.getElem?_map, List.getElem?_eq_getElem (by omega)] at hiz
        rw [List.getD_eq_getElem?_getD, List.getElem?_eq_getElem (by omega)]
        exact (Option.some.inj hiz).symm
      subst ei
      have etk : os.take (j + 1) = os.take j ++ [os.getD j 0] := by
        rw [List.take_add_one, List.getElem?_eq_getElem (by omega), List.getD_eq_getElem?_getD, List.getElem?_eq_getElem (by omega)]
        rfl
      have hrow' : ∀ row, RowW R rs (os.getD j 0) row → ∀ j' r', (rows ++ [row])[j']? = some r' → RowW R rs (os.getD j' 0) r' := fun row hok j' r' h => by
        by_cases hji : j' < rows.length
        · rw [List.getElem?_append_left hji] at h
          exact hrow j' r' h
        · have hjl := (List.getElem?_eq_some_iff.mp h).1
          have e : j' = rows.length := by simp at hjl; omega
          rw [List.getElem?_append_right (by omega), e, Nat.sub_self] at h
          have : row = r' := Option.some.inj h
          rw [← this, e, hrl]
          exact hok
      generalize os.getD j 0 = i at *
      obtain ⟨tp, htp⟩ : ∃ tp, as'[i]? = some tp := ⟨_, List.getElem?_eq_getElem (by omega)⟩
      have hip : (rowL R)[i]? = some ((rowL R).getD i (0, 0)) := by rw [List.getD_eq_getElem?_getD, List.getElem?_eq_getElem (by omega)]; rfl
      have ht22 := hpr22.2 i tp _ htp (by rw [List.getElem?_map, hip]; rfl)
      have ght : (as'.map V.ref)[i]? = some (.ref tp) := by rw [List.getElem?_map, htp]; rfl
      have ghh : (hadV (rowH R))[i]? = some (oV (((rowH R).getD i none).map fun (r : Nat) => (r : Int))) := by
        unfold hadV
        rw [List.getElem?_map, List.getD_eq_getElem?_getD, List.getElem?_eq_getElem (by omega)]
        rfl
      walk_at "go"
      refine ⟨a, ns, _, rfl, S26.seq hS22, by omega, fun cell => ?_⟩
      walk_at "go"
      have c0 := Int.emod_nonneg cell (show (10 : Int) ^ Int.toNat 39 ≠ 0 by decide)
      have c1 := Int.emod_lt_of_pos cell (show (0 : Int) < 10 ^ Int.toNat 39 by decide)
      have ge : (10 : Int) ^ Int.toNat 39 = 10 ^ 39 := rfl
      refine ⟨.inl ⟨rfl, _, SqL.of hlw⟩, ?_⟩
      dsimp only
      generalize cell % 10 ^ Int.toNat 39 = wo at *
      have hlq26 := S26 _ _ hlq
      refine ⟨_, rfl, lq, rfl, ⟨_, SqL.of hlq26⟩, fun D hD => ?_⟩
      refine comp_list (fun q y _ => ∃ p : Int, (1 ≤ p ∧ p ≤ 1000) ∧ y = .int (wo - (if inP ((rowL R).getD i (0, 0)) (rs.getD q 0) = true then 0 else p))) (SqL.of hlq26) (by rw [sizeLine_eq]; simp; omega) hD (fun _ _ _ _ _ h => h) ?_ ?_
      · rintro q y H27 ys N hy s27 d27 hN
        obtain ⟨rz, hrz, rfl⟩ := int_at hy
        have hq : q < rs.length := by have := (List.getElem?_eq_some_iff.mp hrz).1; simpa using this
        have er : rz = ((rs.getD q 0 : Nat) : Int) := by
          rw [List.getElem?_map, List.getElem?_eq_getElem hq] at hrz
          rw [List.getD_eq_getElem?_getD, List.getElem?_eq_getElem hq]
          exact (Option.some.inj hrz).symm
        subst er
        walk_at "go"
        refine ⟨cell, _, rfl, by omega, by omega, fun m m0 m1 => ?_⟩
        have k0 := Int.emod_nonneg m (show (1000 : Int) ≠ 0 by decide)
        have k1 := Int.emod_lt_of_pos m (show (0 : Int) < 1000 by decide)
        walk_at "go"
        refine ixL (SqL.of (s27 _ _ (S26 _ _ hld22))) (atI_int i rfl ght) ?_
        refine ⟨tp, _, rfl, .inr (SqT.of (s27 _ _ (S26 _ _ ht22))), rfl, rfl, ?_⟩
        rw [in_two]
        cases hin : inP ((rowL R).getD i (0, 0)) (rs.getD q 0) with
        | true =>
          refine .inr ⟨false, rfl, ?_⟩
          simp only [Bool.false_eq_true, if_false]
          walk_at "go"
          exact hN _ _ (Same.refl _) ⟨1, ⟨by omega, by omega⟩, by rw [hin, if_pos rfl, Int.mul_zero]⟩
        | false =>
          refine .inr ⟨true, rfl, ?_⟩
          simp only [if_true]
          walk_at "go"
          exact hN _ _ (Same.refl _) ⟨1 + m % 1000, ⟨by omega, by omega⟩, by rw [hin, if_neg Bool.false_ne_true, Int.mul_one]⟩
      · rintro ys H27 s27 d27 ly hy
        obtain ⟨row, e, hz⟩ := vals_of (P := fun _ _ => True) V.int (fun q z => ∃ p : Int, (1 ≤ p ∧ p ≤ 1000) ∧ z = wo - (if inP ((rowL R).getD i (0, 0)) (rs.getD q 0) = true then 0 else p)) ys 0 (fun q y h => by
          obtain ⟨p, hp, e⟩ := hy q y h
          exact ⟨_, e, p, hp, by rw [Nat.zero_add]⟩)
        subst e
        have lrow : row.length = R + 4 := by simp at ly; omega
        have hok : RowW R rs i row := ⟨lrow, wo, ⟨by omega, by omega⟩, fun q hq => by
          obtain ⟨p, hp, e⟩ := hz q (row[q]'(by omega)) (List.getElem?_eq_getElem (by omega))
          rw [Nat.zero_add] at e
          exact ⟨p, hp, by rw [List.getD_eq_getElem?_getD, List.getElem?_eq_getElem (by omega)]; exact e⟩⟩
        have hlw27 := s27 _ _ hlw
        have lws : ws.length = j := by rw [hRw.1, hrl]
        refine ⟨lw, _, _, rfl, rfl, hlw27, by rw [sizeLine_eq, List.length_map]; omega, ?_⟩
        have S27 : Same H22 H27 := S26.trans s27
        have k28 : ∀ c o, c ≠ lw → H27 c = some o → upd H27 lw (.lst (ws.map V.ref ++ [.ref D])) c = some o := fun c o hc e => by rw [upd_ne hc]; exact e
        have hw28 : upd H27 lw (.lst (ws.map V.ref ++ [.ref D])) lw = some (.lst ((ws ++ [D]).map V.ref)) := by rw [upd_same]; simp
        have hol28 := k28 _ _ nwo.symm (s27 _ _ hol)
        generalize upd H27 lw (.lst (ws.map V.ref ++ [.ref D])) = H28 at *
        have S28 : Same H22 H28 := fun c o e => k28 c o (f1 c o e) (S27 c o e)
        refine ⟨_, rfl, .inl ⟨rfl, _, SqL.of hol28⟩, ?_⟩
        refine ⟨fun v H' => H28 = H' ∧ v = oV (rowO R rs i), ?_, ?_⟩
        · walk_at "go"
          refine ixL (SqL.of (S28 _ _ hlh22)) (atI_int i rfl ghh) ?_
          cases hh : (rowH R).getD i none with
          | none =>
            refine ⟨rfl, _, rfl, iteTr rfl ?_⟩
            exact ⟨rfl, by unfold rowO; rw [hh]; rfl⟩
          | some r =>
            refine ⟨rfl, _, rfl, iteE rfl ?_⟩
            have hr := rowH_lt R2 R4 hh
            have hm : r ∈ rs := pr.mem_iff.mpr (List.mem_range.mpr hr)
            refine ⟨_, rfl, .inl ⟨rfl, _, SqL.of (S28 _ _ hlq)⟩, ?_⟩
            walk_at "go"
            refine ixL (SqL.of (S28 _ _ hlh22)) (atI_int i rfl ghh) ?_
            rw [hh]
            refine ⟨lq, _, (r : Int), rfl, rfl, S28 _ _ hlq, List.mem_map.mpr ⟨r, hm, rfl⟩, ?_⟩
            rw [idx_cast]
            exact ⟨rfl, by unfold rowO; rw [hh]; rfl⟩
        · rintro v H' ⟨rfl, rfl⟩
          have nD : D ≠ lw ∧ D ≠ lold := ⟨(ne_of_none hlw hD).symm, (ne_of_none hol hD).symm⟩
          refine ⟨lold, _, _, rfl, rfl, hol28, by rw [sizeLine_eq]; simp; omega, ?_⟩
          refine ⟨ws ++ [D], rows ++ [row], _, _, _, rfl, by rw [upd_ne nwo]; exact hw28, by simp [hrl], hRw.snoc (fun c hc o e => ?_) (by rw [upd_ne nD.2]; exact k28 _ _ nD.1 d27), fun c hc => ?_, by rw [upd_same, etk, List.map_append, List.map_append]; rfl, hrow' row hok, fun c o e => ?_⟩
          · rw [upd_ne (hwn c hc).2]
            exact k28 c o (hwn c hc).1 (s27 _ _ e)
          · rcases List.mem_append.mp hc with h | h
            · exact hwn c h
            · have : c = D := by simpa using h
              rw [this]
              exact nD
          · rw [upd_ne (f2 c o e)]
            exact S28 c o e
    · rintro σ H26 ⟨ws, rows, o2, o11, o12, rfl, hlw, hrl, hRw, hwn, hol, hrow, S26⟩
      have lr10 : rows.length = 10 := by rw [hrl]; simp [lo10]
      rw [show ((os.map fun (i : Nat) => (i : Int)).map V.int).length = 10 by simp [lo10], List.take_of_length_le (by omega)] at hol
      have hL22 : LamAt H22 PB lamPos "bring_in.<locals>.<lambda>" := (hL.same S17).o ⟨_, S17 _ _ hP⟩ hne O1722
      -- the house
      refine ⟨_, rfl, lq, rfl, ⟨_, SqL.of (S26 _ _ hlq)⟩, fun D hD => ?_⟩
      refine compMapV (rs.map fun (i : Nat) => (i : Int)) (fun z => .int (((rowB R).getD z.toNat 0 : Nat) : Int)) (SqL.of (S26 _ _ hlq)) (by rw [sizeLine_eq]; simp; omega) hD (fun z hz H27 N s27 hN => ?_) fun H27 s27 d27 => ?_
      · obtain ⟨r, hr, rfl⟩ := List.mem_map.mp hz
        have hrl := (List.mem_range.mp (pr.mem_iff.mp hr))
        have gb : ((rowB R).map fun (b : Nat) => V.int (b : Int))[r]? = some (.int (((rowB R).getD r 0 : Nat) : Int)) := by
          rw [List.getElem?_map, List.getD_eq_getElem?_getD, List.getElem?_eq_getElem (by omega)]
          rfl
        walk_at "go"
        refine ixL (SqL.of (s27 _ _ (S26 _ _ hlb22))) (atI_int r rfl gb) ?_
        have := hN _ (Same.refl _)
        rw [Int.toNat_natCast] at this
        exact this
      have d27' : H27 D = some (.lst ((rs.map fun r => (((rowB R).getD r 0 : Nat) : Int)).map V.int)) := by
        rw [d27, List.map_map, List.map_map]
        congr 2
      have S27 : Same H22 H27 := S26.trans s27
      walk_at "go"
      refine ⟨a, ns, _, rfl, S27.seq hS22, by omega, fun zr => ?_⟩
      walk_at "go"
      refine fun x dx nx ndx nex => ?_
      have s0 : Same H27 (upd (upd H27 dx (.own x)) x (.ins C dx [])) := fun c o e => by
        rw [upd_ne (ne_of_none e nx), upd_ne (ne_of_none e ndx)]
        exact e
      have hM : Mat H27 lw rows := ⟨ws, s27 _ _ hlw, hRw.1, fun i b row h1 h2 => s27 _ _ (hRw.2 i b row h1 h2)⟩
      have hro : ∀ row ∈ rows, row.length = R + 4 ∧ ∀ z ∈ row, -(10 ^ 40) < z ∧ z < 10 ^ 40 := fun row hr => by
        obtain ⟨j, hj, rfl⟩ := List.mem_iff_getElem.mp hr
        have := hrow j _ (List.getElem?_eq_getElem hj)
        exact ⟨this.len, this.bd⟩
      have hsum := rowB_sum R2 R4 pr
      refine ⟨x, dx, D, lw, _, rows, _, rfl, upd_same, s0 _ _ d27', hM.same s0, by simp; omega, by omega, by rw [hsum, lr10]; omega, fun H28 hA28 kp => ⟨rfl, ?_⟩⟩
      have S2728 : Same H27 H28 := fun c o e => kp c o (s0 _ _ e) (ne_of_none e nx)
      have S28 : Same H22 H28 := S27.trans S2728
      have hol28 := S2728 _ _ (s27 _ _ hol)
      refine ⟨_, rfl, _, rfl, lold, _, rfl, .inl (SqL.of hol28), fun lh2 H29 n29 => ?_⟩
      refine ⟨x, lh2, _, rows, _, os.map (rowO R rs), rfl, hA28.same n29.same, ⟨by simp; omega, by omega, fun row hr => by rw [(hro row hr).1]; simp [lrs]⟩, fun row hr z hz => by have := (hro row hr).2 z hz; omega, SqL.of n29.at_, by simp [lo10, lr10], by rw [hsum, lr10]; omega, fun b hb => by
        obtain ⟨r, _, rfl⟩ := List.mem_map.mp hb
        omega, (hL22.same S28).same n29.same, fun l way H30 s30 so30 f30 h30 hL30 ln fit opt kp30 => ?_⟩
      obtain ⟨hin, h8⟩ := row_end R2 R4 po pr lr10 hrow (by omega) fit opt kp30
      have hA30 := (hA28.same n29.same).sameB s30
      obtain ⟨dx3, bb3, ww3, i1, i2, i3⟩ := hA30.ex
      have B30 : SameB H22 H30 := (S28.trans n29.same).b.trans s30
      have hol30 := s30.to _ _ (n29.same _ _ hol28) rfl
      have hlt := fit_lt fit
      have hwl : ∀ i, i < way.length → way.getD i 0 < R + 4 := fun i hi => by
        have := hlt (way.getD i 0) (by
          rw [List.getD_eq_getElem?_getD, List.getElem?_eq_getElem hi]
          exact List.getElem_mem _)
        simpa [lrs] using this
      have lnw : way.length = 10 := by omega
      -- a list of as many whole numbers
      walk_at "go"
      refine ⟨_, _, _, true, rfl, .lst h30, kit_same _ _, _, rfl, iteF ?_⟩
      walk_at "go"
      refine ⟨l, _, rfl, .inl (SqL.of h30), ?_⟩
      walk_at "go"
      refine ⟨lold, _, rfl, .inl (SqL.of hol30), ?_⟩
      refine ⟨rfl, _, rfl, iteE (by rw [wI_len, List.length_map, List.length_map]; simp; omega) ?_⟩
      walk_at "go"
      refine ⟨⟨_, SqL.of h30⟩, fun D3 hD3 => ?_⟩
      refine compMapV (wI way) (fun _ => .bl true) (SqL.of h30) (by rw [sizeLine_eq]; simp [wI]; omega) hD3 (fun z hz H31 N s31 hN => ?_) fun H31 s31 d31 => ?_
      · walk_at "go"
        exact hN _ (Same.refl _)
      have d31' : H31 D3 = some (.lst (((wI way).map fun _ => true).map V.bl)) := by rw [d31, List.map_map]; rfl
      refine ⟨D3, _, rfl, SqL.of d31', ?_⟩
      rw [show (((wI way).map fun _ => true).all id) = true by simp]
      refine ⟨_, rfl, iteF ?_⟩
      have h31 := s31 _ _ h30
      -- each in a room that is level
      have hlo31 := s31 _ _ (B30.to _ _ hlo22 rfl)
      have hld31 := s31 _ _ (B30.to _ _ hld22 rfl)
      have hlq31 := s31 _ _ (B30.to _ _ hlq rfl)
      have hpr31 : Prs H31 as' ((rowL R).map iP) := (hpr22.sameB B30).same s31
      walk_at "go"
      refine ⟨⟨_, SqL.of hlo31⟩, fun D4 hD4 => ?_⟩
      refine comp_enum (fun j y _ => y = .bl false) (SqL.of hlo31) (by rw [sizeLine_eq]; simp; omega) hD4 (fun _ _ _ _ _ h => h) ?_ ?_
      · rintro j y H32 ys N hy s32 d32 hN
        obtain ⟨iz, hiz, rfl⟩ := int_at hy
        have hj : j < 10 := by have := (List.getElem?_eq_some_iff.mp hiz).1; simp at this; omega
        have hmj : os.getD j 0 ∈ os := by
          rw [List.getD_eq_getElem?_getD, List.getElem?_eq_getElem (by omega)]
          exact List.getElem_mem _
        have hi10 : os.getD j 0 < 10 := List.mem_range.mp (po.mem_iff.mp hmj)
        have ei : iz = ((os.getD j 0 : Nat) : Int) := by
          rw [List.getElem?_map, List.getElem?_eq_getElem (by omega)] at hiz
          rw [List.getD_eq_getElem?_getD, List.getElem?_eq_getElem (by omega)]
          exact (Option.some.inj hiz).symm
        subst ei
        have hin' := hin j hj
        have hwj := hwl j (by omega)
        generalize os.getD j 0 = i at *
        obtain ⟨tp, htp⟩ : ∃ tp, as'[i]? = some tp := ⟨_, List.getElem?_eq_getElem (by omega)⟩
        have hip : (rowL R)[i]? = some ((rowL R).getD i (0, 0)) := by rw [List.getD_eq_getElem?_getD, List.getElem?_eq_getElem (by omega)]; rfl
        have ht31 := hpr31.2 i tp _ htp (by rw [List.getElem?_map, hip]; rfl)
        have ght : (as'.map V.ref)[i]? = some (.ref tp) := by rw [List.getElem?_map, htp]; rfl
        have gw : ((wI way).map V.int)[j]? = some (.int ((way.getD j 0 : Nat) : Int)) := by simp [wI, show j < way.length by omega]
        have gr : ((rs.map fun (i : Nat) => (i : Int)).map V.int)[way.getD j 0]? = some (.int ((rs.getD (way.getD j 0) 0 : Nat) : Int)) := by
          rw [List.getElem?_map, List.getElem?_map, List.getD_eq_getElem?_getD (l := rs), List.getElem?_eq_getElem (show way.getD j 0 < rs.length by omega)]
          rfl
        walk_at "go"
        refine ixL (SqL.of (s32 _ _ h31)) (atI_int j rfl gw) ?_
        refine ixL (SqL.of (s32 _ _ hlq31)) (atI_int (way.getD j 0) rfl gr) ?_
        walk_at "go"
        refine ixL (SqL.of (s32 _ _ hld31)) (atI_int i rfl ght) ?_
        refine ⟨tp, _, rfl, .inr (SqT.of (s32 _ _ ht31)), rfl, rfl, ?_⟩
        rw [in_two, hin']
        exact hN _ _ (Same.refl _) rfl
      rintro ys H32 s32 d32 ly hy
      obtain ⟨bs, eb, hb⟩ := vals_of (P := fun _ _ => True) V.bl (fun q b => b = false) ys 0 (fun q y h => ⟨false, hy q y h, rfl⟩)
      subst eb
      have hb' : bs.any id = false := by
        rw [List.any_eq_false]
        intro b hbm
        obtain ⟨k, hk, rfl⟩ := List.mem_iff_getElem.mp hbm
        have := hb k _ (List.getElem?_eq_getElem hk)
        simp [this]
      refine ⟨D4, bs, rfl, SqL.of d32, ?_⟩
      rw [hb']
      refine ⟨_, rfl, iteF ?_⟩
      have h32 := s32 _ _ h31
      have s3032 : Same H30 H32 := s31.trans s32
      -- no room over its beds
      walk_at "go"
      refine ⟨⟨_, SqL.of h32⟩, fun D5 hD5 => ?_⟩
      refine compMapV (wI way) (fun _ => .bl false) (SqL.of h32) (by rw [sizeLine_eq]; simp [wI]; omega) hD5 (fun z hz H33 N s33 hN => ?_) fun H33 s33 d33 => ?_
      · have hl5 := s33 _ _ h32
        refine ⟨_, rfl, .inl ⟨rfl, _, SqL.of hl5⟩, _, rfl, l, wI way, _, rfl, rfl, SqL.of hl5, ?_⟩
        obtain ⟨r, hr, rfl⟩ := List.mem_map.mp hz
        have hrb := hlt r hr
        have hc := wI_count way r
        have hfr := fit r
        have i1' := s33 _ _ (s3032 _ _ i1)
        rw [hc]
        refine ⟨_, rfl, x, C, dx3, _, _, rfl, i1', HC.cl, HC.nB, hf_beds _ _ _, _, rfl, ?_⟩
        refine ixRow (s33 _ _ (s3032 _ _ i2)) hrb ?_
        walk_at "go"
        have hb : 0 ≤ (rs.map fun r => (((rowB R).getD r 0 : Nat) : Int)).getD r 0 := by
          rw [List.getD_eq_getElem?_getD, List.getElem?_eq_getElem hrb]
          simp
        unfold bF at hfr
        dsimp only
        rw [show decide ((rs.map fun r => (((rowB R).getD r 0 : Nat) : Int)).getD r 0 < ((way.count r : Nat) : Int)) = false from decide_eq_false (by omega)]
        exact hN _ (Same.refl _)
      have d33' : H33 D5 = some (.lst (((wI way).map fun _ => false).map V.bl)) := by rw [d33, List.map_map]; rfl
      refine ⟨D5, _, rfl, SqL.of d33', ?_⟩
      rw [show (((wI way).map fun _ => false).any id) = false by simp]
      refine ⟨_, rfl, iteF ?_⟩
      have s3033 : Same H30 H33 := s3032.trans s33
      have h33 := s33 _ _ h32
      have hol33 := s3033 _ _ hol30
      have lold10 : (os.map (rowO R rs)).length = 10 := by simp [lo10]
      -- all but two stay
      walk_at "go"
      refine ⟨lold, _, rfl, .inl (SqL.of hol33), ?_⟩
      rw [List.length_map, lold10]
      refine ⟨_, rfl, by omega, by omega, fun D6 hD6 => ?_⟩
      refine compIf_range (n := 10) (fun i => decide ((os.map (rowO R rs)).getD i none = some ((way.getD i 0 : Nat) : Int))) (fun (i : Nat) => .int i) (by rw [sizeLine_eq]; omega) hD6 ?_ ?_ ?_
      · intro i H34 N hi s34 hN
        walk_at "go"
        refine ixOld (s34 _ _ hol33) (by omega) ?_
        walk_at "go"
        refine ixWI (s34 _ _ h33) (by omega) ?_
        have hN1 := hN _ (Same.refl _)
        cases ho : (os.map (rowO R rs)).getD i none with
        | none =>
          rw [ho] at hN1
          refine ⟨rfl, ?_⟩
          exact ⟨_, rfl, hN1⟩
        | some m =>
          rw [ho] at hN1
          refine ⟨rfl, ?_⟩
          have e2 : decide (oV (some m) = V.int ((way.getD i 0 : Nat) : Int)) = decide (some m = some ((way.getD i 0 : Nat) : Int)) := by
            rw [Bool.eq_iff_iff, decide_eq_true_eq, decide_eq_true_eq]
            show V.int m = V.int _ ↔ _
            constructor
            · intro z; injection z with z; rw [z]
            · intro z; injection z with z; rw [z]
          rw [e2]
          exact ⟨_, rfl, hN1⟩
      · intro i H34 N hi hp s34 hN
        walk_at "go"
        have := hN _ (Same.refl _)
        rw [Int.zero_add]
        exact this
      intro H34 s34 d34
      refine ⟨D6, _, rfl, .inl (SqL.of d34), ?_⟩
      have e8' : ((List.range 10).filter fun i => decide ((os.map (rowO R rs)).getD i none = some ((way.getD i 0 : Nat) : Int))).length = 8 := by
        unfold keepsN at h8
        rw [lnw] at h8
        exact h8
      rw [List.length_map, e8']
      walk_at "go"
      refine ⟨lold, _, rfl, .inl (SqL.of (s34 _ _ hol33)), ?_⟩
      rw [List.length_map, lold10]
      walk_at "go"
      have S34 : Same H30 H34 := s3033.trans s34
      show Q (V.bl (decide (V.int ((8 : Nat) : Int) = V.int (((10 : Nat) : Int) - 2)))) H34
      rw [decide_eq_true (show V.int ((8 : Nat) : Int) = V.int (((10 : Nat) : Int) - 2) from rfl)]
      exact q H34 ((S17.b.trans B1722).trans (B30.trans S34.b)) (hL30.same S34)
theorem D_law {C PT PR : Addr} (T : Txt mg) (HC : HCls K mg C) (S : Src K mg "law" "law" s_law) (hne : PT ≠ PR) (M__init__ : MDef P w K mg base 1 C "__init__" ["self", "beds", "worths", "rent"] (sp_init C)) (D_law_house : Def P w K mg base 3 "_law_house" ["_law_script", "_law_most_people", "_law_most_rooms"] (sp_house K)) (D_law_halved : Def P w K mg base 1 "_law_halved" ["_law_worths_here"] (sp_halved72 K)) (D_law_lifted : Def P w K mg base 2 "_law_lifted" ["_law_script", "_law_worths_here"] (sp_lifted72 K)) (D_law_mixed : Def P w K mg base 1 "_law_mixed" ["_law_cell", "_law_k"] sp_mixed) (D_law_cell_at : Def P w K mg base 1 "_law_cell_at" ["_law_script", "_law_k"] (sp_cell K)) (Dbest_way : Def P w K mg base 5 "best_way" ["house"] (sp_best2 K C PT lamPos "bring_in.<locals>.<lambda>")) (D_law_stays : Def P w K mg base 7 "_law_stays" ["_law_house_here", "_law_worths_here", "_law_old", "_law_most"] (sp_stays72 K C PT lamPos "bring_in.<locals>.<lambda>")) (D_law_all_move : Def P w K mg base 7 "_law_all_move" ["_law_script"] (sp_allmove72 K PT lamPos "bring_in.<locals>.<lambda>")) (D_law_row_moves : Def P w K mg base 7 "_law_row_moves" ["_law_script"] (sp_rowmoves72 K PT lamPos "bring_in.<locals>.<lambda>" PR)) : Def P w K mg base 8 "law" ["_law_script"] (sp_law72 K PT lamPos "bring_in.<locals>.<lambda>" PR) := by
  refine S.mk' sc_law (fun vs H Q E h => ?_) (fun _ _ _ _ _ _ us hl => match us, hl with | [_], _ => rfl) (fun f cdv A outer s H vs Q E hr h => ?_)
  · obtain ⟨a, ns, rfl, _⟩ := h
    rfl
  · obtain ⟨a, ns, rfl, hS, hlen, hL, hP, q⟩ := h
    refine ⟨_, (pss_cons (ps_asg (pe_def D_law_house (hr.mono (by decide)) rfl (pa_cons (pv 0) (pa_cons pe_int (pa_cons pe_int pa_nil)))) (pg_tupK (K := K) (n := 3) rfl rfl (pgs_cons (pg_name (i := 1) sc_law.nd rfl (Or.inl rfl)) (pgs_cons (pg_name (i := 2) sc_law.nd rfl (Or.inr rfl)) (pgs_cons (pg_name (i := 3) sc_law.nd rfl (Or.inl rfl)) pgs_nil)))))
      (pss_cons (ps_set (i := 2) sc_law.nd rfl (Or.inr rfl) (pe_def D_law_halved (hr.mono (by decide)) rfl (pa_cons (pv 2) pa_nil)))
      (pss_cons (ps_set (i := 4) sc_law.nd rfl (Or.inl rfl) (pe_mk M__init__ HC.mks HC.kp HC.mgC (hr.mono (by decide)) rfl (pa_cons (pe_callTy (call_list_ofK (K := K) rfl) (by rfl) T.list boot_list' (pa_cons (pv 1) pa_nil)) (pa_cons (pe_comp ["_law_row"] [none] rfl rfl rfl (pi_listK (K := K) rfl (pv 2)) (fun _ _ _ _ => (pg_name (i := 0) (by decide +kernel : (["_law_row"] : List PySem.Str).Nodup) rfl (Or.inl rfl))) (fun _ _ _ _ => pifs_nil) (fun _ _ _ _ => (pe_callTy (call_list_ofK (K := K) rfl) (by rfl) T.list boot_list' (pa_cons (pv 0) pa_nil)))) (pa_cons (pv 3) pa_nil)))))
      (pss_cons (ps_set (i := 5) sc_law.nd rfl (Or.inl rfl) (pe_mk M__init__ HC.mks HC.kp HC.mgC (hr.mono (by decide)) rfl (pa_cons (pe_callTy (call_list_ofK (K := K) rfl) (by rfl) T.list boot_list' (pa_cons (pv 1) pa_nil)) (pa_cons (pe_comp ["_law_row"] [none] rfl rfl rfl (pi_revK (K := K) rfl rfl T.reversed (pv 2)) (fun _ _ _ _ => (pg_name (i := 0) (by decide +kernel : (["_law_row"] : List PySem.Str).Nodup) rfl (Or.inl rfl))) (fun _ _ _ _ => pifs_nil) (fun _ _ _ _ => (pe_callTy (call_list_ofK (K := K) rfl) (by rfl) T.list boot_list' (pa_cons (pv 0) pa_nil)))) (pa_cons (pv 3) pa_nil)))))
      (pss_cons (ps_set (i := 6) sc_law.nd rfl (Or.inr rfl) (pe_listRev (K := K) rfl rfl (by rfl) T.list (by rfl) T.reversed (pe_def Dbest_way (hr.mono (by decide)) rfl (pa_cons (pv 5) pa_nil))))
      (pss_cons (ps_set (i := 7) sc_law.nd rfl (Or.inl rfl) (pe_lst' pa_nil))
      (pss_cons (ps_for PassesOwn.never rfl (pi_range1 rfl T.range (pa_cons (pe_callB (call_lenK (K := K) rfl) (by rfl) T.len boot_len' (pa_cons (pv 6) pa_nil)) pa_nil)) (pg_name (i := 8) sc_law.nd rfl (Or.inl rfl))
      (pss_one (ps_expr (pe_bmK (K := K) rfl PySem.F.plainAttrs_list PySem.F.slot_list_append PySem.F.type_list_append mt_append (pv 7) (pa_cons (pe_ix (ix_seqK (K := K) rfl) (pe_lst' (pa_cons (pe_ix (ix_seqK (K := K) rfl) (pv 6) (pv 8) (fun _ _ => rfl)) (pa_cons (pe_ix (ix_seqK (K := K) rfl) (pv 6) (pv 8) (fun _ _ => rfl)) (pa_cons pe_non pa_nil)))) (pe_op op_mod (pe_def D_law_mixed (hr.mono (by decide)) rfl (pa_cons (pe_def D_law_cell_at (hr.mono (by decide)) rfl (pa_cons (pv 0) (pa_cons (pe_op op_add pe_int (pv 8)) pa_nil))) (pa_cons (pe_op op_add pe_int (pv 8)) pa_nil))) pe_int) (fun _ _ => rfl)) pa_nil)))))
      (pss_cons (ps_if (pt_not (pt_val (pe_def D_law_stays (hr.mono (by decide)) rfl (pa_cons (pv 4) (pa_cons (pv 2) (pa_cons (pv 7) (pa_cons (pe_callB (call_sumK (K := K) rfl rfl) (by rfl) T.sum boot_sum' (pa_cons (pe_comp ["_law_i", "_law_way", "_law_worths_here"] [none, some 6, some 2] rfl rfl rfl (pi_range1 rfl T.range (pa_cons (pe_callB (call_lenK (K := K) rfl) (by rfl) T.len boot_len' (pa_cons (pv 6) pa_nil)) pa_nil)) (fun _ _ _ _ => (pg_name (i := 0) (by decide +kernel : (["_law_i", "_law_way", "_law_worths_here"] : List PySem.Str).Nodup) rfl (Or.inl rfl))) (fun _ _ _ _ => pifs_nil) (fun _ _ _ _ => (pe_ix (ix_seqK (K := K) rfl) (pe_ix (ix_seqK (K := K) rfl) (pv 2) (pv 0) (fun _ _ => rfl)) (pe_ix (ix_seqK (K := K) rfl) (pv 1) (pv 0) (fun _ _ => rfl)) (fun _ _ => rfl)))) pa_nil)) pa_nil))))))) (pss_one (ps_ret pe_bl)) pss_nil)
      (pss_cons (ps_set (i := 9) sc_law.nd rfl (Or.inr rfl) (pe_def D_law_lifted (hr.mono (by decide)) rfl (pa_cons (pv 0) (pa_cons (pv 2) pa_nil))))
      (pss_cons (ps_set (i := 10) sc_law.nd rfl (Or.inl rfl) (pe_mk M__init__ HC.mks HC.kp HC.mgC (hr.mono (by decide)) rfl (pa_cons (pe_callTy (call_list_ofK (K := K) rfl) (by rfl) T.list boot_list' (pa_cons (pv 1) pa_nil)) (pa_cons (pe_comp ["_law_row"] [none] rfl rfl rfl (pi_listK (K := K) rfl (pv 9)) (fun _ _ _ _ => (pg_name (i := 0) (by decide +kernel : (["_law_row"] : List PySem.Str).Nodup) rfl (Or.inl rfl))) (fun _ _ _ _ => pifs_nil) (fun _ _ _ _ => (pe_callTy (call_list_ofK (K := K) rfl) (by rfl) T.list boot_list' (pa_cons (pv 0) pa_nil)))) (pa_cons (pe_un un_neg (pv 3)) pa_nil)))))
      (pss_cons (ps_if (PW.pt (pw_or (pt_not (pt_val (pe_def D_law_all_move (hr.mono (by decide)) rfl (pa_cons (pv 0) pa_nil)))) (pw_or1 (pt_not (pt_val (pe_def D_law_row_moves (hr.mono (by decide)) rfl (pa_cons (pv 0) pa_nil))))))) (pss_one (ps_ret pe_bl)) pss_nil)
      (pss_one (ps_ret (pe_def D_law_stays (hr.mono (by decide)) rfl (pa_cons (pv 10) (pa_cons (pv 9) (pa_cons (pv 7) (pa_cons (pe_callB (call_sumK (K := K) rfl rfl) (by rfl) T.sum boot_sum' (pa_cons (pe_comp ["_law_i", "_law_lifted_here", "_law_way"] [none, some 9, some 6] rfl rfl rfl (pi_range1 rfl T.range (pa_cons (pe_callB (call_lenK (K := K) rfl) (by rfl) T.len boot_len' (pa_cons (pv 6) pa_nil)) pa_nil)) (fun _ _ _ _ => (pg_name (i := 0) (by decide +kernel : (["_law_i", "_law_lifted_here", "_law_way"] : List PySem.Str).Nodup) rfl (Or.inl rfl))) (fun _ _ _ _ => pifs_nil) (fun _ _ _ _ => (pe_ix (ix_seqK (K := K) rfl) (pe_ix (ix_seqK (K := K) rfl) (pv 1) (pv 0) (fun _ _ => rfl)) (pe_ix (ix_seqK (K := K) rfl) (pv 2) (pv 0) (fun _ _ => rfl)) (fun _ _ => rfl)))) pa_nil)) pa_nil)))))))))))))))))), ?_⟩
    refine ⟨_, rfl, a, ns, _, _, rfl, hS, hlen, by decide, by decide, by decide, by decide, fun t b0 wA beds worths0 rent H1 s1 ht hb1 hMA ok => ?_⟩
    refine ⟨t, _, rfl, SqT.of ht, rfl, _, _, rfl, _, _, rfl, _, _, rfl, rfl, ?_⟩
    have hbl : beds.length ≤ 6 := by have := ok.b2; omega
    have hwl0 : worths0.length ≤ 8 := by have := ok.w2; omega
    have hb0' : ∀ b ∈ beds, 0 ≤ b := fun b hb => by have := ok.b3 b hb; omega
    -- halved
    refine ⟨_, rfl, wA, worths0, rfl, hMA, by omega, fun row hr => by rw [ok.w4 row hr]; omega, ok.w5, fun w0 H2 s2 hM2 => ?_⟩
    have hMh : Mat H2 w0 (halfW worths0) := hM2
    have hwl' : (halfW worths0).length = worths0.length := by simp [halfW]
    have w3 := ok.w3
    have w4 := halfW_rows ok.w4
    have w5 := halfW_bd ok.w5
    have hw1 : 1 ≤ worths0.length := by have := ok.w1; omega
    rw [← hwl'] at w3 hwl0 hw1
    clear hM2 hMA ok hwl'
    generalize halfW worths0 = worths at *
    have S2 : Same H H2 := s1.trans s2
    have hb2 := s2 _ _ hb1
    have hS2 := S2.seq hS
    have hL2 : LamAt H2 PT lamPos "bring_in.<locals>.<lambda>" := hL.same S2
    have hP2 := S2 _ _ hP
    clear s1 s2 ht hb1
    -- the house
    refine ⟨_, rfl, b0, _, rfl, .inl (SqL.of hb2), fun b3 H3 n3 => ?_⟩
    obtain ⟨ws0, hw0, hR0⟩ := id hMh
    refine ⟨_, rfl, w0, rfl, ⟨_, SqL.of (n3.same _ _ hw0)⟩, fun D hD => ?_⟩
    refine comp_copyM (hMh.same n3.same) (by rw [sizeLine_eq]; omega) hD (fun ra row H4 N h4 hN => ?_) fun H4 s4 hM4 => ?_
    · walk_at "go"
      exact ⟨ra, _, rfl, .inl (SqL.of h4), hN⟩
    refine ⟨_, rfl, ?_⟩
    refine fun x dx nx ndx nex => ?_
    have s0 : Same H4 (upd (upd H4 dx (.own x)) x (.ins C dx [])) := fun c o e => by
      rw [upd_ne (ne_of_none e nx), upd_ne (ne_of_none e ndx)]
      exact e
    refine ⟨x, dx, b3, D, beds, worths, rent, rfl, upd_same, s0 _ _ (s4 _ _ n3.at_), hM4.same s0, by omega, by omega, w3, fun H5 hA5 kp => ⟨rfl, ?_⟩⟩
    have S25 : Same H2 H5 := (n3.same.trans s4).trans fun c o e => kp c o (s0 _ _ e) (ne_of_none e nx)
    clear s0 kp nx ndx nex hD
    -- the house turned about
    refine ⟨_, rfl, b0, _, rfl, .inl (SqL.of (S25 _ _ hb2)), fun b6 H6 n6 => ?_⟩
    refine ⟨_, rfl, w0, _, rfl, SqL.of (n6.same _ _ (S25 _ _ hw0)), fun D' hD' => ?_⟩
    refine comp_copyRev ((hMh.same S25).same n6.same) (by rw [List.length_map, hR0.1]) (by rw [sizeLine_eq]; omega) hD' (fun ra row H4 N h4 hN => ?_) fun H7 s7 hM7 => ?_
    · walk_at "go"
      exact ⟨ra, _, rfl, .inl (SqL.of h4), hN⟩
    refine ⟨_, rfl, ?_⟩
    refine fun x' dx' nx' ndx' nex' => ?_
    have s0' : Same H7 (upd (upd H7 dx' (.own x')) x' (.ins C dx' [])) := fun c o e => by
      rw [upd_ne (ne_of_none e nx'), upd_ne (ne_of_none e ndx')]
      exact e
    refine ⟨x', dx', b6, D', beds, worths.reverse, rent, rfl, upd_same, s0' _ _ (s7 _ _ n6.at_), hM7.same s0', by omega, by rw [List.length_reverse]; omega, by rw [List.length_reverse]; exact w3, fun H8 hA8 kp' => ⟨rfl, ?_⟩⟩
    have S58 : Same H5 H8 := (n6.same.trans s7).trans fun c o e => kp' c o (s0' _ _ e) (ne_of_none e nx')
    have S28 : Same H2 H8 := S25.trans S58
    clear s0' kp' nx' ndx' nex' hD'
    -- the way of greatest worth, turned back
    refine ⟨_, rfl, x', beds, worths.reverse, rent, rfl, hA8, ⟨by omega, by rw [List.length_reverse]; omega, fun row hr => w4 row (List.mem_reverse.mp hr)⟩, by rw [List.length_reverse]; exact w3, hb0', hL2.same S28, fun l9 way0 H9 s9 so9 f9 h9 hL9 ln0 fit0 opt0 => ?_⟩
    refine ⟨l9, _, rfl, SqL.of h9, fun lw HA nA => ?_⟩
    have hlw : HA lw = some (.lst ((wI way0.reverse).map V.int)) := by
      rw [nA.at_]
      simp [wI]
    rw [List.length_reverse] at ln0
    have opt := opt_turned ln0 opt0
    have fit := fit_turned fit0
    have ln : way0.reverse.length = worths.length := by rw [List.length_reverse]; exact ln0
    clear opt0 fit0 ln0 h9
    generalize way0.reverse = way at *
    have B2A : SameB H2 HA := (S28.b.trans s9).trans nA.same.b
    have B5A : SameB H5 HA := (S58.b.trans s9).trans nA.same.b
    have O2A : SameO PT H2 HA := SameO.trans (SameO.trans S28.o so9) nA.same.o
    have hbA := B2A.to _ _ hb2 rfl
    have hMA := hMh.sameB B2A
    have hSA := B2A.seq hS2
    have hAA := hA5.sameB B5A
    have hLA := hL9.same nA.same
    have hPA : HA PR = some (.tbl #[]) := O2A _ _ hP2 hne.symm
    have hlt := fit_lt fit
    have hwl : ∀ i, i < way.length → way.getD i 0 < beds.length := fun i hi => hlt _ (by
      rw [List.getD_eq_getElem?_getD, List.getElem?_eq_getElem hi]
      exact List.getElem_mem _)
    -- what they had
    walk_at "go"
    refine fun lo HB nB => ?_
    have hlwB := nB.same _ _ hlw
    refine ⟨_, rfl, lw, _, rfl, .inl (SqL.of hlwB), ?_⟩
    rw [wI_len]
    refine ⟨_, rfl, by omega, by omega, ?_⟩
    rw [Int.toNat_natCast]
    have nlo : ∀ c o, HA c = some o → c ≠ lo := fun c o e => ne_of_none e nB.none
    refine for_range (fun i σ H' => ∃ (olds : List (Option Int)) (o8 : Option V), σ = [some (.ref a), some (.ref b0), some (.ref w0), some (.int rent), some (.ref x), some (.ref x'), some (.ref lw), some (.ref lo), o8, none, none] ∧ H' lo = some (.lst (olds.map oV)) ∧ olds.length = i ∧ (∀ j, j < i → olds.getD j none = none ∨ olds.getD j none = some ((way.getD j 0 : Nat) : Int)) ∧ Same HA H')
      ⟨[], none, rfl, nB.at_, rfl, fun j h => by omega, nB.same⟩ ?_ ?_
    · rintro i σ H' hi ⟨olds, o8, rfl, hl, hol, hod, s'⟩
      refine ⟨_, rfl, .inl ⟨rfl, _, SqL.of hl⟩, ?_⟩
      walk_at "go"
      refine ixWI (s' _ _ hlw) hi ?_
      walk_at "go"
      refine ixWI (s' _ _ hlw) hi ?_
      walk_at "go"
      refine fun p H'' n'' => ?_
      walk_at "go"
      refine ⟨a, ns, _, rfl, n''.same.seq (s'.seq hSA), by omega, fun z1 => ?_⟩
      walk_at "go"
      refine ⟨z1, _, rfl, by omega, by omega, fun y y0 y1 => ?_⟩
      walk_at "go"
      obtain ⟨o, ho, hat⟩ : ∃ o : Option Int, (o = none ∨ o = some ((way.getD i 0 : Nat) : Int)) ∧ atI [V.int ((way.getD i 0 : Nat) : Int), .int ((way.getD i 0 : Nat) : Int), .non] (y % 3) = some (oV o) := by
        have : y % 3 = 0 ∨ y % 3 = 1 ∨ y % 3 = 2 := by omega
        rcases this with e | e | e
        · exact ⟨_, .inr rfl, by rw [e]; rfl⟩
        · exact ⟨_, .inr rfl, by rw [e]; rfl⟩
        · exact ⟨none, .inl rfl, by rw [e]; rfl⟩
      refine ixL (SqL.of n''.at_) hat ?_
      have hl2 := n''.same _ _ hl
      refine ⟨lo, _, _, rfl, rfl, hl2, by rw [sizeLine_eq, List.length_map]; omega, ?_⟩
      refine ⟨olds ++ [o], _, rfl, by rw [upd_same]; simp, by simp [hol], fun j hj => ?_, fun c oo e => ?_⟩
      · by_cases hji : j < olds.length
        · rw [List.getD_eq_getElem?_getD, List.getElem?_append_left hji, ← List.getD_eq_getElem?_getD]
          exact hod j (by omega)
        · have : j = olds.length := by omega
          rw [List.getD_eq_getElem?_getD, this, List.getElem?_append_right (by omega), Nat.sub_self, hol]
          exact ho
      · rw [upd_ne (nlo c oo e)]
        exact n''.same _ _ (s' _ _ e)
    rintro σ HK ⟨olds, o8, rfl, hl, hol, hod, sK⟩
    -- as it was
    have hMK := hMA.same sK
    have hlwK := sK _ _ hlw
    walk_at "go"
    refine ⟨lw, _, rfl, .inl (SqL.of hlwK), ?_⟩
    rw [wI_len]
    refine ⟨_, rfl, by omega, by omega, fun D1 hD1 => ?_⟩
    rw [Int.toNat_natCast]
    refine compRangeV (fun i => .int (wF worths i (way.getD i 0))) (by rw [sizeLine_eq]; omega) hD1 (fun i hi H7 N s7 hN => ?_) fun HE sE dE => ?_
    · walk_at "go"
      refine ixMat (hMK.same s7) (by omega) fun ra hra => ?_
      walk_at "go"
      refine ixWI (s7 _ _ hlwK) hi ?_
      have hrl : (worths.getD i []).length = beds.length := w4 _ (by
        rw [List.getD_eq_getElem?_getD, List.getElem?_eq_getElem (by omega)]
        exact List.getElem_mem _)
      refine ixRow hra (by rw [hrl]; exact hwl i hi) ?_
      exact hN _ (Same.refl _)
    have dE' : HE D1 = some (.lst (((List.range way.length).map fun i => wF worths i (way.getD i 0)).map V.int)) := by rw [dE, List.map_map]; rfl
    have SAE : Same HA HE := sK.trans sE
    refine ⟨D1, _, rfl, SqL.of dE', ?_⟩
    refine ⟨x, w0, lo, beds, worths, rent, olds, way, rfl, hAA.same SAE, hMA.same SAE, ⟨by omega, by omega, w4⟩, fun row hr z hz => by have := w5 row hr z hz; omega, sE _ _ hl, by omega, w3, hb0', hLA.same SAE, ln, fit, opt, fun i hi => hod i (by omega), fun HF BF OF hLF => ?_⟩
    refine ⟨_, rfl, iteF ?_⟩
    have BAF : SameB HA HF := SAE.b.trans BF
    have hPF : HF PR = some (.tbl #[]) := OF _ _ (SAE _ _ hPA) hne.symm
    have hSF := BAF.seq hSA
    have hbF := BAF.to _ _ hbA rfl
    have hMF := hMA.sameB BAF
    have hlwF := BAF.to _ _ hlw rfl
    have hlF := (sE.b.trans BF).to _ _ hl rfl
    -- lifted
    refine ⟨_, rfl, _, rfl, a, w0, ns, worths, rfl, hSF, hMF, by omega, fun row hr => by rw [w4 row hr]; omega, w5, fun w1 st HG sG hst hMG0 => ?_⟩
    have hMG : Mat HG w1 (liftW worths st) := hMG0
    have e1 : (liftW worths st).length = worths.length := liftW_len _ _
    have e2 := liftW_rows (st := st) w4
    have e3 := liftW_bd w5 hst
    have e4 := opt_lift (st := st) w4 ln fit opt
    generalize liftW worths st = later at *
    clear hMG0
    -- another rent
    refine ⟨_, rfl, b0, _, rfl, .inl (SqL.of (sG _ _ hbF)), fun b9 HI nI => ?_⟩
    obtain ⟨ws1, hw1', hR1⟩ := id hMG
    refine ⟨_, rfl, w1, rfl, ⟨_, SqL.of (nI.same _ _ hw1')⟩, fun D2 hD2 => ?_⟩
    refine comp_copyM (hMG.same nI.same) (by rw [sizeLine_eq]; omega) hD2 (fun ra row H4 N h4 hN => ?_) fun HJ sJ hMJ => ?_
    · walk_at "go"
      exact ⟨ra, _, rfl, .inl (SqL.of h4), hN⟩
    walk_at "go"
    refine fun x2 dx2 nx2 ndx2 nex2 => ?_
    have s02 : Same HJ (upd (upd HJ dx2 (.own x2)) x2 (.ins C dx2 [])) := fun c o e => by
      rw [upd_ne (ne_of_none e nx2), upd_ne (ne_of_none e ndx2)]
      exact e
    refine ⟨x2, dx2, b9, D2, beds, later, -rent, rfl, upd_same, s02 _ _ (sJ _ _ nI.at_), hMJ.same s02, by omega, by omega, by rw [e1]; exact w3, fun HL hAL kp2 => ⟨rfl, ?_⟩⟩
    have SFL : Same HF HL := ((sG.trans nI.same).trans sJ).trans fun c o e => kp2 c o (s02 _ _ e) (ne_of_none e nx2)
    have SGL : Same HG HL := (nI.same.trans sJ).trans fun c o e => kp2 c o (s02 _ _ e) (ne_of_none e nx2)
    -- everybody moves on; the row
    refine ⟨_, rfl, a, ns, rfl, SFL.seq hSF, hLF.same SFL, fun HM BM OM hLM => ?_⟩
    refine ⟨_, rfl, ?_⟩
    have BFM : SameB HF HM := SFL.b.trans BM
    refine iteF ?_
    refine ⟨_, rfl, a, ns, rfl, BFM.seq hSF, hLM, OM _ _ (SFL _ _ hPF) hne.symm, hne, fun HN BN hLN => ?_⟩
    refine ⟨_, rfl, iteF ?_⟩
    have BFN : SameB HF HN := BFM.trans BN
    have BLN : SameB HL HN := BM.trans BN
    have hMN : Mat HN w1 later := (hMG.same SGL).sameB BLN
    have hlwN := BFN.to _ _ hlwF rfl
    have hlN := BFN.to _ _ hlF rfl
    -- as it is then
    walk_at "go"
    refine ⟨lw, _, rfl, .inl (SqL.of hlwN), ?_⟩
    rw [wI_len]
    refine ⟨_, rfl, by omega, by omega, fun D3 hD3 => ?_⟩
    rw [Int.toNat_natCast]
    refine compRangeV (fun i => .int (wF later i (way.getD i 0))) (by rw [sizeLine_eq]; omega) hD3 (fun i hi H7 N s7 hN => ?_) fun HX sX dX => ?_
    · walk_at "go"
      refine ixMat (hMN.same s7) (by omega) fun ra hra => ?_
      walk_at "go"
      refine ixWI (s7 _ _ hlwN) hi ?_
      have hrl : (later.getD i []).length = beds.length := e2 _ (by
        rw [List.getD_eq_getElem?_getD, List.getElem?_eq_getElem (by omega)]
        exact List.getElem_mem _)
      refine ixRow hra (by rw [hrl]; exact hwl i hi) ?_
      exact hN _ (Same.refl _)
    have dX' : HX D3 = some (.lst (((List.range way.length).map fun i => wF later i (way.getD i 0)).map V.int)) := by rw [dX, List.map_map]; rfl
    refine ⟨D3, _, rfl, SqL.of dX', ?_⟩
    refine ⟨x2, w1, lo, beds, later, -rent, olds, way, rfl, (hAL.sameB BLN).same sX, hMN.same sX, ⟨by omega, by omega, e2⟩, e3, sX _ _ hlN, by omega, by rw [e1]; exact w3, hb0', hLN.same sX, by omega, fit, e4, fun i hi => hod i (by omega), fun HY BY OY hLY => ?_⟩
    exact q HY
end
theorem walkT72 {l : PySem.W.OpenLaw} {q : Program} {loose : List Str} {XP : (Str → Option Value) → Heap → Prop} {YP : World → Heap → Prop} {d : DefRec} {K : Params → PySem.W.Frag} {Pa Pb : Addr} (hn : l.most = some 63) (hdf : d.params.defaults = [])
    (hY : ∀ (w : World) (h : Heap), YP w h → (K w.params).In h ∧ ∀ P ∈ [Pa, Pb], h.get? P = some (PySem.W.tabObj #[])) (hcd : ∀ w : World, ([Pa, Pb].all fun P => (K w.params).any fun p => PySem.W.codeHdIn (K w.params) p.1 P) = true) (hnt : ∀ w : World, PySem.W.noTabs (K w.params) = true)
    (F : ∀ (w : World) (mg : Str → Option Value) (fa : Addr) (h : Heap), (K w.params).In h → h.Ns mainGlobals mg → mg d.name = some (.ref fa) →
      ∃ fd : FuncData, (∀ (s : Shared) (u : Value), BindsTo s fd ⟨[u], []⟩ [("_law_script", u)]) ∧ ∀ base : Heap, (K w.params).In base → base.Ns mainGlobals mg → (∀ P ∈ [Pa, Pb], base.BuiltinsAt mg P) → FnOk l.prog w (K w.params) mg base CX0 8 fa fd ["_law_script"] (sp_law72 (K w.params) Pb lamPos "bring_in.<locals>.<lambda>" Pa)) :
    PySem.W.WalkO q loose XP YP l.row.toRowW d [] (fun f vs => PySem.call f vs) :=
  L2.walk_ofT (ts := [Pa, Pb]) (n := 63) (k := 8) (x := "_law_script") (sp := fun w => sp_law72 (K w.params) Pb lamPos "bring_in.<locals>.<lambda>" Pa) hn (by decide) hdf ⟨rfl, by decide, by decide⟩ hY hcd hnt F (fun _ _ a ns hl hb hT hS => ⟨a, ns, rfl, hS, hl, .inl (hT Pb (List.mem_cons_of_mem _ List.mem_cons_self)), hT Pa List.mem_cons_self, fun _ => rfl⟩)
end My
open PySem PySem.W PyProof.Rows
set_option maxRecDepth 100000 in
set_option maxHeartbeats 0 in
theorem PySem.Challenge.cw_rentshare_k72_nobody_moves_holds : PySem.Challenge.rw_rentshare_k72_nobody_moves.Holds := by
  w_on; o_law; k_head; (case hw => w_witness2)
  k_fill
  refine My.walkT72 (l := PySem.Challenge.rw_rentshare_k72_nobody_moves) rfl rfl (fun w h Y => ⟨PySem.W.km_in_of Y, PySem.W.km_tabs_of Y⟩) (fun w => by kernel_rfl) (fun w => by kernel_rfl) ?F
  case F =>
    intro w mg fa h KX G hmg
    have S_lying : L2.Src (L2.KOf KX) mg "lying" "lying" My.s_lying := by
      dsimp only [L2.KOf]
      refine' L2.src_mk KX G ?a ?l ?c ?k
      (case a => k_is); (case l => k_is); (case c => k_is); (case k => k_is)
    have S_open_rooms : L2.Src (L2.KOf KX) mg "open_rooms" "open_rooms" My.s_open_rooms := by
      dsimp only [L2.KOf]
      refine' L2.src_mk KX G ?a ?l ?c ?k
      (case a => k_is); (case l => k_is); (case c => k_is); (case k => k_is)
    have S_improve : L2.Src (L2.KOf KX) mg "improve" "improve" My.s_improve := by
      dsimp only [L2.KOf]
      refine' L2.src_mk KX G ?a ?l ?c ?k
      (case a => k_is); (case l => k_is); (case c => k_is); (case k => k_is)
    have S_best_way : L2.Src (L2.KOf KX) mg "best_way" "best_way" My.s_best_way := by
      dsimp only [L2.KOf]
      refine' L2.src_mk KX G ?a ?l ?c ?k
      (case a => k_is); (case l => k_is); (case c => k_is); (case k => k_is)
    have S_weighed : L2.Src (L2.KOf KX) mg "weighed" "weighed" My.s_weighed := by
      dsimp only [L2.KOf]
      refine' L2.src_mk KX G ?a ?l ?c ?k
      (case a => k_is); (case l => k_is); (case c => k_is); (case k => k_is)
    have S_kept_way : L2.Src (L2.KOf KX) mg "kept_way" "kept_way" My.s_kept_way := by
      dsimp only [L2.KOf]
      refine' L2.src_mk KX G ?a ?l ?c ?k
      (case a => k_is); (case l => k_is); (case c => k_is); (case k => k_is)
    have S__law_cell_at : L2.Src (L2.KOf KX) mg "_law_cell_at" "_law_cell_at" My.s__law_cell_at := by
      dsimp only [L2.KOf]
      refine' L2.src_mk KX G ?a ?l ?c ?k
      (case a => k_is); (case l => k_is); (case c => k_is); (case k => k_is)
    have S__law_mixed : L2.Src (L2.KOf KX) mg "_law_mixed" "_law_mixed" My.s__law_mixed := by
      dsimp only [L2.KOf]
      refine' L2.src_mk KX G ?a ?l ?c ?k
      (case a => k_is); (case l => k_is); (case c => k_is); (case k => k_is)
    have S__law_beds : L2.Src (L2.KOf KX) mg "_law_beds" "_law_beds" My.s__law_beds := by
      dsimp only [L2.KOf]
      refine' L2.src_mk KX G ?a ?l ?c ?k
      (case a => k_is); (case l => k_is); (case c => k_is); (case k => k_is)
    have S__law_worths : L2.Src (L2.KOf KX) mg "_law_worths" "_law_worths" My.s__law_worths := by
      dsimp only [L2.KOf]
      refine' L2.src_mk KX G ?a ?l ?c ?k
      (case a => k_is); (case l => k_is); (case c => k_is); (case k => k_is)
    have S__law_house : L2.Src (L2.KOf KX) mg "_law_house" "_law_house" My.s__law_house := by
      dsimp only [L2.KOf]
      refine' L2.src_mk KX G ?a ?l ?c ?k
      (case a => k_is); (case l => k_is); (case c => k_is); (case k => k_is)
    have S__law_whole : L2.Src (L2.KOf KX) mg "_law_whole" "_law_whole" My.s__law_whole := by
      dsimp only [L2.KOf]
      refine' L2.src_mk KX G ?a ?l ?c ?k
      (case a => k_is); (case l => k_is); (case c => k_is); (case k => k_is)
    have S__law_lifted : L2.Src (L2.KOf KX) mg "_law_lifted" "_law_lifted" My.s__law_lifted := by
      dsimp only [L2.KOf]
      refine' L2.src_mk KX G ?a ?l ?c ?k
      (case a => k_is); (case l => k_is); (case c => k_is); (case k => k_is)
    have S__law_halved : L2.Src (L2.KOf KX) mg "_law_halved" "_law_halved" My.s__law_halved := by
      dsimp only [L2.KOf]
      refine' L2.src_mk KX G ?a ?l ?c ?k
      (case a => k_is); (case l => k_is); (case c => k_is); (case k => k_is)
    have S__law_stays : L2.Src (L2.KOf KX) mg "_law_stays" "_law_stays" My.s__law_stays := by
      dsimp only [L2.KOf]
      refine' L2.src_mk KX G ?a ?l ?c ?k
      (case a => k_is); (case l => k_is); (case c => k_is); (case k => k_is)
    have S__law_all_move : L2.Src (L2.KOf KX) mg "_law_all_move" "_law_all_move" My.s__law_all_move := by
      dsimp only [L2.KOf]
      refine' L2.src_mk KX G ?a ?l ?c ?k
      (case a => k_is); (case l => k_is); (case c => k_is); (case k => k_is)
    have S_law : L2.Src (L2.KOf KX) mg "law" "law" My.s_law := by
      dsimp only [L2.KOf]
      refine' L2.src_mk KX G ?a ?l ?c ?k
      (case a => k_is); (case l => k_is); (case c => k_is); (case k => k_is)
    obtain ⟨C, HC, M___init__, M_people, M_rooms⟩ : ∃ C, L2.HCls (L2.KOf KX) mg C ∧ L2.MSrc (L2.KOf KX) C "__init__" "House.__init__" My.s___init__ ∧ L2.MSrc (L2.KOf KX) C "people" "House.people" My.s_people ∧ L2.MSrc (L2.KOf KX) C "rooms" "House.rooms" My.s_rooms := by
      dsimp only [L2.KOf]
      refine' ⟨_, ⟨PySem.W.mg_of KX G ?aC, ⟨?pg, ?hd, ?po, ?sa⟩, ?mk, ?kc, ?n1, ?n2, ?n3⟩, L2.msrc_mk ?a0 ?i0 ?l0 ?c0 ?k0, L2.msrc_mk ?a1 ?i1 ?l1 ?c1 ?k1, L2.msrc_mk ?a2 ?i2 ?l2 ?c2 ?k2⟩
      (case aC => k_is); (case a0 => k_is); (case i0 => k_is); (case l0 => k_is); (case c0 => k_is); (case k0 => k_is); (case a1 => k_is); (case i1 => k_is); (case l1 => k_is); (case c1 => k_is); (case k1 => k_is); (case a2 => k_is); (case i2 => k_is); (case l2 => k_is); (case c2 => k_is); (case k2 => k_is)
      (case pg => k_is); (case hd => k_is); (case po => k_is); (case sa => k_is); (case mk => k_is); (case kc => k_is); (case n1 => dsimp only [L2.NoAttr]; k_is); (case n2 => dsimp only [L2.NoAttr]; k_is); (case n3 => dsimp only [L2.NoAttr]; k_is)
    have T : My.Txt mg := by
      refine' ⟨PySem.W.mg_none_of KX G ?z0, PySem.W.mg_none_of KX G ?z1, PySem.W.mg_none_of KX G ?z2, PySem.W.mg_none_of KX G ?z3, PySem.W.mg_none_of KX G ?z4, PySem.W.mg_none_of KX G ?z5, PySem.W.mg_none_of KX G ?z6, PySem.W.mg_none_of KX G ?z7, PySem.W.mg_none_of KX G ?z8, PySem.W.mg_none_of KX G ?z9, PySem.W.mg_none_of KX G ?z10, PySem.W.mg_none_of KX G ?z11, PySem.W.mg_none_of KX G ?z12, PySem.W.mg_none_of KX G ?z13⟩
      (case z0 => k_is); (case z1 => k_is); (case z2 => k_is); (case z3 => k_is); (case z4 => k_is); (case z5 => k_is); (case z6 => k_is); (case z7 => k_is); (case z8 => k_is); (case z9 => k_is); (case z10 => k_is); (case z11 => k_is); (case z12 => k_is); (case z13 => k_is)
    refine L2.law_fdT S_law (fun _ _ _ _ _ _ _ => rfl) (fun base hB => ?_) hmg
    have BA1 := hB _ List.mem_cons_self
    have BA2 := hB _ (List.mem_cons_of_mem _ List.mem_cons_self)
    obtain ⟨cR, S__law_row_moves⟩ : ∃ c, L2.SrcL (L2.KOf KX) mg "_law_row_moves" "_law_row_moves" My.s__law_row_moves c _ := by
      dsimp only [L2.KOf]
      refine' L2.srcL_at "_law_row_moves" "_law_row_moves" My.s__law_row_moves (L2.one_mem72 BA1) KX G ?a ?l ?c ?k ?hd
      (case a => k_is); (case l => k_is); (case c => k_is); (case k => k_is); (case hd => kernel_rfl)
    obtain ⟨cB, S_bring_in⟩ : ∃ c, L2.SrcL (L2.KOf KX) mg "bring_in" "bring_in" My.s_bring_in c _ := by
      dsimp only [L2.KOf]
      refine' L2.srcL_at "bring_in" "bring_in" My.s_bring_in (L2.one_mem72 BA2) KX G ?a2 ?l2 ?c2 ?k2 ?hd2
      (case a2 => k_is); (case l2 => k_is); (case c2 => k_is); (case k2 => k_is); (case hd2 => kernel_rfl)
    have Dm := My.D_mixed (P := PySem.Challenge.rw_rentshare_k72_nobody_moves.prog) (w := w) (base := base) S__law_mixed
    have Da := My.D_cell (P := PySem.Challenge.rw_rentshare_k72_nobody_moves.prog) (w := w) (base := base) T S__law_cell_at
    have Mi := My.D_init (P := PySem.Challenge.rw_rentshare_k72_nobody_moves.prog) (w := w) (base := base) T HC M___init__
    have Mr := My.D_rooms (P := PySem.Challenge.rw_rentshare_k72_nobody_moves.prog) (w := w) (base := base) T HC M_rooms
    have Mp := My.D_people (P := PySem.Challenge.rw_rentshare_k72_nobody_moves.prog) (w := w) (base := base) T HC M_people
    have Dl := My.D_lying (P := PySem.Challenge.rw_rentshare_k72_nobody_moves.prog) (w := w) (base := base) T HC S_lying Mr
    have Do := My.D_open (P := PySem.Challenge.rw_rentshare_k72_nobody_moves.prog) (w := w) (base := base) T HC S_open_rooms Dl Mr
    have Dbr := My.D_bring (P := PySem.Challenge.rw_rentshare_k72_nobody_moves.prog) (w := w) (base := base) T HC S_bring_in BA2 Do (My.D_improve T HC S_improve Mr) Mr
    have Dbw := My.D_best (P := PySem.Challenge.rw_rentshare_k72_nobody_moves.prog) (w := w) (base := base) T HC S_best_way Dbr Mp
    have Dk := My.D_kept (P := PySem.Challenge.rw_rentshare_k72_nobody_moves.prog) (w := w) (base := base) T HC S_kept_way Mi (My.D_weighed T HC S_weighed Mp Mr) Dbw Mp
    have Dw := My.D_whole (P := PySem.Challenge.rw_rentshare_k72_nobody_moves.prog) (w := w) (base := base) T S__law_whole
    have Dst := My.D_stays (P := PySem.Challenge.rw_rentshare_k72_nobody_moves.prog) (w := w) (base := base) T HC S__law_stays Mr Dw Dk
    have Dam := My.D_allmove (P := PySem.Challenge.rw_rentshare_k72_nobody_moves.prog) (w := w) (base := base) T HC S__law_all_move Mi Dm Da Dk
    have Drm := My.D_rowmoves (P := PySem.Challenge.rw_rentshare_k72_nobody_moves.prog) (w := w) (base := base) T HC S__law_row_moves BA1 Mi Dw Dm Da Dk
    exact My.D_law T HC S_law (by decide) Mi (My.D_house T S__law_house Dm Da (My.D_beds T S__law_beds Dm) (My.D_worths T S__law_worths Dm)) (My.D_halved T S__law_halved) (My.D_lifted T S__law_lifted Da) Dm Da Dbw Dst Dam Drm
#print axioms PySem.Challenge.cw_rentshare_k72_nobody_moves_holds
