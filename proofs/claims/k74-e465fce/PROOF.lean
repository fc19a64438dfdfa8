import PyProof.Rows.All
import Wide.All
import OpenK.AllK
import Wide.FinOn
import Lean
import PyProof.EqAt
import PyProof.EqKinds
import PyProof.TupleCall
import PySem.Challenge.RW_rentshare_k74_pairs_counted
set_option Elab.async false
set_option linter.all false
set_option maxRecDepth 100000
/-! THE HAND LAYER, for ints, bools, texts, own classes, LISTS and tuples (index, slices, in, append, pop ..), calls, loops. Paste it whole ahead of your own text; what your proof does not reach may be deleted. -/
namespace L2
open PySem PySem.Spec PyProof.Rows

/-- a key: an int or a str -/
abbrev Key := Sum Int Str
def keyIs : Key → Value → Bool
  | .inl k, v => Value.isInt k v
  | .inr x, v => Value.isStrOf x v
def keyH (w : World) : Key → Int
  | .inl k => hashInt k
  | .inr x => hashStr w x
theorem keyIs_shape : ∀ {k : Key} {v : Value}, keyIs k v = true → (∃ i t, k = Sum.inl i ∧ v = Value.int i t) ∨ (∃ x t, k = Sum.inr x ∧ v = Value.str x t)
  | .inl i, v, h => by
    obtain ⟨t, e⟩ := Value.isInt_shape (k := i) (v := v) h
    exact .inl ⟨i, t, rfl, e⟩
  | .inr x, v, h => by
    obtain ⟨t, e⟩ := Value.isStrOf_shape (x := x) (v := v) h
    exact .inr ⟨x, t, rfl, e⟩
theorem key_ll (a b : Int) : decide ((Sum.inl a : Key) = Sum.inl b) = (a == b) := by
  by_cases e : a = b
  · subst e; simp
  · have h : ¬ (Sum.inl a : Key) = Sum.inl b := fun q => e (Sum.inl.inj q)
    rw [decide_eq_false h]
    exact (beq_eq_false_iff_ne.mpr e).symm
theorem key_rr (a b : Str) : decide ((Sum.inr a : Key) = Sum.inr b) = decide (a = b) := by
  by_cases e : a = b
  · subst e; simp
  · have h : ¬ (Sum.inr a : Key) = Sum.inr b := fun q => e (Sum.inr.inj q)
    rw [decide_eq_false h, decide_eq_false e]
theorem key_lr (a : Int) (b : Str) : decide ((Sum.inl a : Key) = Sum.inr b) = false := decide_eq_false (fun q => nomatch q)
theorem key_rl (a : Str) (b : Int) : decide ((Sum.inr a : Key) = Sum.inl b) = false := decide_eq_false (fun q => nomatch q)

def mixKind (prog : Program) (w : World) : PySem.KeyKind prog w Key where
  is := keyIs
  hash := keyH w
  inj := fun v a b ha hb => by
    rcases keyIs_shape ha with ⟨i, t, rfl, rfl⟩ | ⟨x, t, rfl, rfl⟩
    · rcases keyIs_shape hb with ⟨j, u, rfl, e⟩ | ⟨y, u, rfl, e⟩
      · injection e with e1 _; rw [e1]
      · exact nomatch e
    · rcases keyIs_shape hb with ⟨j, u, rfl, e⟩ | ⟨y, u, rfl, e⟩
      · exact nomatch e
      · injection e with e1 _; rw [e1]
  byValue := fun k v h => by
    rcases keyIs_shape h with ⟨i, t, rfl, rfl⟩ | ⟨x, t, rfl, rfl⟩ <;> rfl
  pyHash := fun hv h => by
    rcases keyIs_shape hv with ⟨i, t, rfl, rfl⟩ | ⟨x, t, rfl, rfl⟩
    · exact wpAny_pyHash_int h
    · exact wpAny_pyHash_str h
  eqBool := fun hu hv h => by
    rcases keyIs_shape hu with ⟨i, t, rfl, rfl⟩ | ⟨x, t, rfl, rfl⟩
    · rcases keyIs_shape hv with ⟨j, u, rfl, rfl⟩ | ⟨y, u, rfl, rfl⟩
      · rw [key_ll] at h; exact wpAny_eqBool_int h
      · rw [key_lr] at h; exact SeqAt.EqAt.int_str i t y u _ _ _ _ h
    · rcases keyIs_shape hv with ⟨j, u, rfl, rfl⟩ | ⟨y, u, rfl, rfl⟩
      · rw [key_rl] at h; exact SeqAt.EqAt.str_int x t j u _ _ _ _ h
      · rw [key_rr] at h; exact wpAny_eqBool_str h
  «strs» := fun k x t v h => by
    rcases keyIs_shape h with ⟨i, u, rfl, e⟩ | ⟨y, u, rfl, e⟩
    · exact nomatch e
    · injection e with e1 _
      subst e1
      cases v <;> rfl

end L2

namespace L2
open PySem PySem.Spec PyProof.Rows

/-- a value, without the heap -/
inductive V where
  | non | bl (b : Bool) | int (i : Int) | str (x : Str) | byt (b : Array UInt8) | flt (b : UInt64) | ref (a : Addr) | ty (n : String)
  deriving DecidableEq

def RelV : V → Value → Prop
  | .non, u => u = Value.none
  | .bl b, u => u = Value.bool b
  | .int i, u => ∃ t, u = Value.int i t
  | .str x, u => ∃ t, u = Value.str x t
  | .byt b, u => ∃ t, u = Value.bytes b t
  | .flt b, u => ∃ t, u = Value.float b t
  | .ref a, u => u = Value.ref a
  | .ty n, u => u = Value.type n

abbrev Vals : List V → List Value → Prop := Paired RelV
theorem Vals.length {xs : List V} {us : List Value} (r : Vals xs us) : xs.length = us.length := Paired.length r
theorem Vals.get : ∀ {xs : List V} {us : List Value} {i : Nat} {x : V}, Vals xs us → xs[i]? = some x → ∃ u, us[i]? = some u ∧ RelV x u
  | _, _, _, _, .nil, e => by simp at e
  | _, _, 0, _, .cons r _, e => by simp at e; subst e; exact ⟨_, rfl, r⟩
  | _, _, i + 1, x, .cons _ t, e => by
    obtain ⟨u, h1, h2⟩ := Vals.get (i := i) (x := x) t (by simpa using e)
    exact ⟨u, by simpa using h1, h2⟩
theorem Vals.set {x : V} {u : Value} (r : RelV x u) : ∀ {xs : List V} {us : List Value} (i : Nat), Vals xs us → Vals (xs.set i x) (us.set i u)
  | _, _, _, .nil => .nil
  | _, _, 0, .cons _ t => .cons r t
  | _, _, i + 1, .cons q t => .cons q (Vals.set r i t)
theorem Vals.append : ∀ {xs ys : List V} {us ws : List Value}, Vals xs us → Vals ys ws → Vals (xs ++ ys) (us ++ ws)
  | _, _, _, _, .nil, s => s
  | _, _, _, _, .cons r t, s => .cons r (Vals.append t s)
theorem Vals.take : ∀ {xs : List V} {us : List Value} (n : Nat), Vals xs us → Vals (xs.take n) (us.take n)
  | _, _, 0, _ => .nil
  | _, _, _ + 1, .nil => .nil
  | _, _, n + 1, .cons r t => .cons r (Vals.take n t)
theorem Vals.drop : ∀ {xs : List V} {us : List Value} (n : Nat), Vals xs us → Vals (xs.drop n) (us.drop n)
  | _, _, 0, r => r
  | _, _, _ + 1, .nil => .nil
  | _, _, n + 1, .cons _ t => Vals.drop n t
def RelO : Option V → Option Value → Prop
  | some v, some u => RelV v u
  | none, none => True
  | _, _ => False
def KV {κ : Type} : List (κ × V) → List (κ × Value) → Prop := Paired fun (p : κ × V) (q : κ × Value) => p.1 = q.1 ∧ RelV p.2 q.2

/-- a key of a dict (00_mix): an int or a text -/
def kV : Key → V
  | .inl i => .int i
  | .inr x => .str x

/-- what stands at a tracked address -/
inductive HO where
  /-- a list -/
  | lst (xs : List V)
  /-- a tuple (never changes) -/
  | tup (xs : List V)
  /-- a dict whose keys are ints and texts; one whose keys are tuples of ints and texts (the empty one is both) -/
  | dK (kvs : List (Key × V)) | dT (kvs : List (List Key × V))
  /-- a set of ints: its members, its size -/
  | set (S : Int → Bool) (n : Nat)
  /-- an instance of the class at C, its dict at dx, its attributes -/
  | ins (C dx : Addr) (fs : List (Str × V))
  /-- the dict of the instance at x -/
  | own (x : Addr)
  /-- the dict of an exception -/
  | xd (fs : List (Str × V))
  /-- a bound method, f of x -/
  | met (f x : Addr)
  /-- a range object lo, lo + 1, .. below hi -/
  | rng (lo hi : Int)
  /-- a thing that is known to the object (the script; a dict while a loop walks it): read, never written while it is so -/
  | frz (o : Obj) (u : HO)
  /-- a code object's table -/
  | tbl (ps : Array Value)
  /-- any other thing, by what is true of its one object (a def of one's own: SetO a S n := HO.ext fun h => ..) -/
  | ext (φ : Heap → Prop)

abbrev Hp := Addr → Option HO
def upd (H : Hp) (a : Addr) (o : HO) : Hp := fun b => if b = a then some o else H b
theorem upd_same {H : Hp} {a : Addr} {o : HO} : upd H a o a = some o := by unfold upd; rw [if_pos rfl]
theorem upd_ne {H : Hp} {a b : Addr} {o : HO} (h : b ≠ a) : upd H a o b = H b := by unfold upd; rw [if_neg h]
theorem ne_of_none {H : Hp} {a b : Addr} {o : HO} (h : H a = some o) (h' : H b = none) : a ≠ b := by
  intro e; subst e; rw [h] at h'; cases h'

section
variable (P : Program) (w : World)
def ObjOk (H : Hp) (h : Heap) (a : Addr) : HO → Prop
  | .lst xs => xs.length ≤ sizeLine ∧ ∃ (its : List Value) (n : Nat), Vals xs its ∧ h.get? a = some { cls := .type "list", data := .seq its.toArray n }
  | .tup xs => xs.length ≤ sizeLine ∧ ∃ its : List Value, Vals xs its ∧ IsTup h a its.toArray
  | .dK kvs => kvs.length ≤ sizeLine ∧ (a == sysModules) = false ∧ ∃ vs, KV kvs vs ∧ h.DictOf (mixKind P w) a vs
  | .dT kvs => kvs.length ≤ sizeLine ∧ (a == sysModules) = false ∧ ∃ xs : List (List Key × Addr × Value),
      Paired (fun (p : List Key × V) (q : List Key × Addr × Value) => p.1 = q.1 ∧ H q.2.1 = some (.tup (p.1.map kV)) ∧ RelV p.2 q.2.2) kvs xs ∧
      ∃ o es ep, h.get? a = some o ∧ o.ExactDict ∧ o.data = .dict es ep ∧ es.toList = xs.map (entryOfKey (tupleKind (mixKind P w))) ∧ (xs.map (·.1)).Nodup
  | .set S n => h.SetOf (intKind P w) a S n
  | .ins C dx fs => H dx = some (.own a) ∧ fs.length ≤ 1000 ∧ dx ≠ a ∧ h.get? a = some (PySem.W.instObj C dx) ∧
      ∃ mA, h.Ns1 dx mA ∧ (∀ f, RelO (fs.lookup f) (mA f)) ∧ PySem.Within mA (fs.map (·.1))
  | .own _ => ∃ o, h.get? a = some o
  | .xd fs => ∃ mA, h.Ns1 a mA ∧ ∀ f, RelO (fs.lookup f) (mA f)
  | .rng lo hi => ∃ t u v, h.get? a = some { cls := .type "range", data := .fields #[.int lo t, .int hi u, .int 1 v] }
  | .frz o u => h.get? a = some o ∧ ObjOk H h a u
  | .tbl ps => h.get? a = some { cls := .none, data := .fields ps }
  | .met f x => h.get? a = some (PySem.W.methodObj (.ref f) (.ref x))
  | .ext φ => φ h ∧ (∃ o, h.get? a = some o) ∧ ∀ h1 h2 : Heap, φ h1 → (∀ o, h1.get? a = some o → h2.get? a = some o) → φ h2
/-- the abstract heap is held -/
def HOk (H : Hp) (h : Heap) : Prop := ∀ a o, H a = some o → ObjOk P w H h a o
end

section
variable {P : Program} {w : World} {H H' : Hp} {h h' : Heap} {a : Addr} {o : HO}
theorem ObjOk.lt (x : ObjOk P w H h a o) : a < h.objs.size := by
  cases o with
  | lst xs => obtain ⟨_, _, _, _, e⟩ := x; exact Heap.lt_size e
  | tup xs => obtain ⟨_, _, _, p⟩ := x; exact p.lt
  | dK kvs => obtain ⟨_, _, _, _, o, _, _, e, _⟩ := x; exact Heap.lt_size e
  | dT kvs => obtain ⟨_, _, _, _, o, _, _, e, _⟩ := x; exact Heap.lt_size e
  | set S n => obtain ⟨o, _, _, _, e, _⟩ := x; exact Heap.lt_size e
  | ins C dx fs => obtain ⟨_, _, _, e, _⟩ := x; exact Heap.lt_size e
  | own y => obtain ⟨_, e⟩ := x; exact Heap.lt_size e
  | xd fs => obtain ⟨_, ⟨_, _, _, e, _⟩, _⟩ := x; exact Heap.lt_size e
  | rng lo hi => obtain ⟨_, _, _, e⟩ := x; exact Heap.lt_size e
  | frz ob u => obtain ⟨e, _⟩ := x; exact Heap.lt_size e
  | tbl ps => exact Heap.lt_size (show h.get? a = some _ from x)
  | met f y => exact Heap.lt_size (show h.get? a = some _ from x)
  | ext φ => obtain ⟨_, ⟨_, e⟩, _⟩ := x; exact Heap.lt_size e
theorem Paired.mapP {α β : Type} {F G : α → β → Prop} : ∀ {l₁ : List α} {l₂ : List β}, Paired F l₁ l₂ → (∀ a b, F a b → G a b) → Paired G l₁ l₂
  | _, _, .nil, _ => .nil
  | _, _, .cons r t, f => .cons (f _ _ r) (Paired.mapP t f)
/-- what an object's description leans on: its own object, its own dict, the tuples -/
theorem ObjOk.stay (x : ObjOk P w H h a o) (k : ∀ b u, (b = a ∨ H b = some (.own a)) → h.get? b = some u → h'.get? b = some u)
    (ho : ∀ b, H b = some (.own a) → H' b = some (.own a)) (ht : ∀ b xs, H b = some (.tup xs) → H' b = some (.tup xs)) : ObjOk P w H' h' a o := by
  induction o with
  | lst xs => obtain ⟨z, its, n, r, e⟩ := x; exact ⟨z, its, n, r, k _ _ (.inl rfl) e⟩
  | tup xs => obtain ⟨z, its, r, ob, e, c⟩ := x; exact ⟨z, its, r, ob, k _ _ (.inl rfl) e, c⟩
  | dK kvs => obtain ⟨z, y, vs, r, ob, es, ep, e, c⟩ := x; exact ⟨z, y, vs, r, ob, es, ep, k _ _ (.inl rfl) e, c⟩
  | dT kvs =>
    obtain ⟨z, y, xs, r, ob, es, ep, e, c⟩ := x
    exact ⟨z, y, xs, Paired.mapP r fun p q z => ⟨z.1, ht _ _ z.2.1, z.2.2⟩, ob, es, ep, k _ _ (.inl rfl) e, c⟩
  | set S n => obtain ⟨ob, es, ep, t, e, c⟩ := x; exact ⟨ob, es, ep, t, k _ _ (.inl rfl) e, c⟩
  | ins C dx fs =>
    obtain ⟨d, z, ne, e, mA, ⟨od, es, ep, e2, c⟩, r⟩ := x
    exact ⟨ho _ d, z, ne, k _ _ (.inl rfl) e, mA, ⟨od, es, ep, k _ _ (.inr d) e2, c⟩, r⟩
  | own y => obtain ⟨ob, e⟩ := x; exact ⟨ob, k _ _ (.inl rfl) e⟩
  | xd fs => obtain ⟨mA, ⟨od, es, ep, e, c⟩, r⟩ := x; exact ⟨mA, ⟨od, es, ep, k _ _ (.inl rfl) e, c⟩, r⟩
  | rng lo hi => obtain ⟨t, u, v, e⟩ := x; exact ⟨t, u, v, k _ _ (.inl rfl) e⟩
  | frz ob u ih => obtain ⟨e, q⟩ := x; exact ⟨k _ _ (.inl rfl) e, ih q⟩
  | tbl ps =>
    have e : h.get? a = some { cls := .none, data := .fields ps } := x
    show h'.get? a = some { cls := .none, data := .fields ps }
    exact k a _ (.inl rfl) e
  | met f y =>
    have e : h.get? a = some (PySem.W.methodObj (.ref f) (.ref y)) := x
    show h'.get? a = some (PySem.W.methodObj (.ref f) (.ref y))
    exact k a _ (.inl rfl) e
  | ext φ => obtain ⟨p, ⟨o, e⟩, st⟩ := x; exact ⟨st _ _ p fun o q => k _ _ (.inl rfl) q, ⟨o, k _ _ (.inl rfl) e⟩, st⟩
theorem HOk.lt (x : HOk P w H h) (e : H a = some o) : a < h.objs.size := (x a o e).lt
theorem HOk.fresh (x : HOk P w H h) (e : h.objs.size ≤ a) : H a = none := by
  cases q : H a with
  | none => rfl
  | some u => exact absurd (Nat.lt_of_lt_of_le (x.lt q) e) (Nat.lt_irrefl _)
/-- every object of the heap is kept -/
theorem HOk.kept (x : HOk P w H h) (k : ∀ b u, h.get? b = some u → h'.get? b = some u) : HOk P w H h' := fun a o e =>
  (x a o e).stay (fun b u _ q => k b u q) (fun _ q => q) fun _ _ q => q
/-- a new object is laid and tracked -/
theorem HOk.laid (x : HOk P w H h) (k : ∀ b u, h.get? b = some u → h'.get? b = some u) (hp : h.objs.size ≤ a) (new : ObjOk P w (upd H a o) h' a o) : HOk P w (upd H a o) h' := fun b u e => by
  have hn := x.fresh hp
  by_cases hb : b = a
  · subst hb; rw [upd_same] at e; cases e; exact new
  · rw [upd_ne hb] at e
    exact (x b u e).stay (fun c v _ q => k c v q) (fun c q => by rw [upd_ne (ne_of_none q hn)]; exact q) fun c xs q => by rw [upd_ne (ne_of_none q hn)]; exact q
end

/-- what may be read as u: it is u, or a known u -/
def Rd (H : Hp) (a : Addr) (u : HO) : Prop := H a = some u ∨ ∃ o, H a = some (.frz o u)
theorem Rd.of {H : Hp} {a : Addr} {u : HO} (h : H a = some u) : Rd H a u := .inl h
theorem Rd.ok {P : Program} {w : World} {H : Hp} {h : Heap} {a : Addr} {u : HO} (r : Rd H a u) (x : HOk P w H h) : ObjOk P w H h a u := by
  rcases r with r | ⟨o, r⟩
  · exact x a u r
  · obtain ⟨_, q⟩ := x a _ r
    exact q
/-- what may be written -/
def Mut : Option HO → Prop
  | some (.lst _) => True
  | some (.dK _) => True
  | some (.dT _) => True
  | some (.set _ _) => True
  | some (.ins _ _ _) => True
  | some (.ext _) => True
  | _ => False
section
variable {P : Program} {w : World} {H : Hp} {h h' : Heap} {x e : Addr} {o' : HO}
/-- the object at e is changed: x itself, or the dict of the instance x -/
theorem HOk.write (ok : HOk P w H h) (mu : Mut (H x)) (he : e = x ∨ H e = some (.own x)) (k : ∀ b u, b ≠ e → h.get? b = some u → h'.get? b = some u) (heo : ∃ u, h'.get? e = some u)
    (new : ObjOk P w (upd H x o') h' x o') : HOk P w (upd H x o') h' := fun b u q => by
  have nown : ∀ c y, H c = some (.own y) → c ≠ x := fun c y r z => by subst z; rw [r] at mu; exact mu
  have ntup : ∀ c xs, H c = some (.tup xs) → c ≠ x := fun c xs r z => by subst z; rw [r] at mu; exact mu
  by_cases hb : b = x
  · subst hb; rw [upd_same] at q; cases q; exact new
  · rw [upd_ne hb] at q
    by_cases hbe : b = e
    · have q' : H b = some (.own x) := by
        rcases he with z | z
        · exact absurd (hbe.trans z) hb
        · rw [hbe]; exact z
      rw [q] at q'; cases q'
      obtain ⟨v, hv⟩ := heo
      exact ⟨v, by rw [hbe]; exact hv⟩
    · refine (ok b u q).stay (fun c v hc r => k c v ?_ r) (fun c r => by rw [upd_ne (nown c b r)]; exact r) fun c xs r => by rw [upd_ne (ntup c xs r)]; exact r
      rcases hc with rfl | hc
      · exact hbe
      · rintro rfl
        rcases he with z | z
        · exact nown c b hc z
        · rw [hc] at z; cases z; exact hb rfl
end

/-! ### kept unless tracked; of the frames at fs (the callers') the slots may change (an exception that passes writes there); of the records at ex (iterators) nothing is said -/
structure Un (fs ex : List Addr) (H H' : Hp) (h h' : Heap) : Prop where
  keep : ∀ b o, h.get? b = some o → H b = none → b ∉ fs → b ∉ ex → h'.get? b = some o
  slot : ∀ b o, h.get? b = some o → H b = none → b ∈ fs → b ∉ ex → ∃ sl, h'.get? b = some { o with slots := sl }
  free : ∀ b o, h.get? b = some o → H b = none → b ∉ ex → H' b = none
  there : ∀ b o, h.get? b = some o → b ∉ ex → ∃ o', h'.get? b = some o'
  tups : ∀ b xs, H b = some (.tup xs) → H' b = some (.tup xs)
  frzs : ∀ b o u, H b = some (.frz o u) → H' b = some (.frz o u)
  tbls : ∀ b ps, H b = some (.tbl ps) → ∃ more, H' b = some (.tbl (ps ++ more))
section
variable {fs fs' ex ex' : List Addr} {H H1 H2 : Hp} {h h1 h2 h' : Heap} {a x e : Addr} {o : HO}
theorem Un.any (u : Un fs ex H H1 h h1) {b : Addr} {ob : Obj} (q : h.get? b = some ob) (n : H b = none) (hx : b ∉ ex) : ∃ sl, h1.get? b = some { ob with slots := sl } := by
  by_cases hb : b ∈ fs
  · exact u.slot b ob q n hb hx
  · exact ⟨ob.slots, u.keep b ob q n hb hx⟩
theorem Un.trans (a : Un fs ex H H1 h h1) (b : Un fs ex H1 H2 h1 h2) : Un fs ex H H2 h h2 where
  keep := fun c ob q n hc hx => b.keep c ob (a.keep c ob q n hc hx) (a.free c ob q n hx) hc hx
  slot := fun c ob q n hc hx => by
    obtain ⟨sl, e1⟩ := a.slot c ob q n hc hx
    obtain ⟨sl', e2⟩ := b.slot c _ e1 (a.free c ob q n hx) hc hx
    exact ⟨sl', e2⟩
  free := fun c ob q n hx => by
    obtain ⟨o', e1⟩ := a.there c ob q hx
    exact b.free c o' e1 (a.free c ob q n hx) hx
  there := fun c ob q hx => by
    obtain ⟨o', e1⟩ := a.there c ob q hx
    exact b.there c o' e1 hx
  tups := fun c xs q => b.tups c xs (a.tups c xs q)
  frzs := fun c ob xs q => b.frzs c ob xs (a.frzs c ob xs q)
  tbls := fun c ps q => by
    obtain ⟨m1, e1⟩ := a.tbls c ps q
    obtain ⟨m2, e2⟩ := b.tbls c _ e1
    exact ⟨m1 ++ m2, by rw [e2, Array.append_assoc]⟩
theorem Un.kept (k : ∀ b u, h.get? b = some u → h'.get? b = some u) : Un fs ex H H h h' :=
  ⟨fun b ob q _ _ _ => k b ob q, fun b ob q _ _ _ => ⟨ob.slots, k b ob q⟩, fun _ _ _ n _ => n, fun b ob q _ => ⟨ob, k b ob q⟩, fun _ _ q => q, fun _ _ _ q => q, fun _ ps q => ⟨#[], by rw [q]; simp⟩⟩
theorem Un.refl : Un fs ex H H h h := Un.kept fun _ _ q => q
theorem Un.laid (k : ∀ b u, h.get? b = some u → h'.get? b = some u) (hp : h.objs.size ≤ a) (hn : H a = none) : Un fs ex H (upd H a o) h h' where
  keep := fun b u q _ _ _ => k b u q
  slot := fun b u q _ _ _ => ⟨u.slots, k b u q⟩
  free := fun b u q n _ => by rw [upd_ne (Nat.ne_of_lt (Nat.lt_of_lt_of_le (Heap.lt_size q) hp))]; exact n
  there := fun b u q _ => ⟨u, k b u q⟩
  tups := fun b xs q => by rw [upd_ne (ne_of_none q hn)]; exact q
  frzs := fun b u xs q => by rw [upd_ne (ne_of_none q hn)]; exact q
  tbls := fun b ps q => ⟨#[], by rw [upd_ne (ne_of_none q hn), q]; simp⟩
theorem Un.write (mu : Mut (H x)) (he : e = x ∨ H e = some (.own x)) (k : ∀ b u, b ≠ e → h.get? b = some u → h'.get? b = some u) (heo : ∃ u, h'.get? e = some u) : Un fs ex H (upd H x o) h h' := by
  have hx : ∀ b, H b = none → b ≠ x := fun b n z => by subst z; rw [n] at mu; exact mu
  have hb : ∀ b, H b = none → b ≠ e := fun b n z => by
    subst z
    rcases he with r | r
    · exact hx b n r
    · rw [n] at r; cases r
  have hm : ∀ b u, H b = some u → ¬ Mut (some u) → b ≠ x := fun b u q nm z => by subst z; rw [q] at mu; exact nm mu
  refine ⟨fun b u q n _ _ => k b u (hb b n) q, fun b u q n _ _ => ⟨u.slots, k b u (hb b n) q⟩, fun b u q n _ => by rw [upd_ne (hx b n)]; exact n, fun b u q _ => ?_,
    fun b xs q => by rw [upd_ne (hm b _ q fun z => z)]; exact q, fun b u xs q => by rw [upd_ne (hm b _ q fun z => z)]; exact q, fun b ps q => ⟨#[], by rw [upd_ne (hm b _ q fun z => z), q]; simp⟩⟩
  by_cases hbe : b = e
  · subst hbe; exact heo
  · exact ⟨u, k b u hbe q⟩
theorem Un.mono (u : Un fs ex H H1 h h1) (hs : ∀ b ∈ fs, b ∈ fs') (hx : ∀ b ∈ ex, b ∈ ex') : Un fs' ex' H H1 h h1 :=
  ⟨fun b ob q n hb he => u.keep b ob q n (fun z => hb (hs b z)) fun z => he (hx b z), fun _ _ q n _ he => u.any q n fun z => he (hx _ z), fun b ob q n he => u.free b ob q n fun z => he (hx b z), fun b ob q he => u.there b ob q fun z => he (hx b z), u.tups, u.frzs, u.tbls⟩
end

/-! ### the heap without what is tracked -/
def trk (h : Heap) (H : Hp) : List Addr := (List.range h.objs.size).filter fun a => (H a).isSome
def hidT (h : Heap) (H : Hp) : Heap := PySem.W.hideAll h (trk h H)
theorem hidT_size (h : Heap) (H : Hp) : (hidT h H).objs.size = h.objs.size := PySem.W.hideAll_size _ _
theorem hidT_get {h : Heap} {H : Hp} {b : Addr} {o : Obj} (e : h.get? b = some o) (n : H b = none) : (hidT h H).get? b = some o :=
  PySem.W.hideAll_get _ e fun hm => by
    have q : (H b).isSome = true := (List.mem_filter.mp hm).2
    rw [n] at q; simp at q
theorem of_hidT {h : Heap} {H : Hp} {b : Addr} {o : Obj} (e : (hidT h H).get? b = some o) : h.get? b = some o ∧ H b = none := by
  have e' : h.get? b = some o := PySem.W.of_hideAll (trk h H) e
  refine ⟨e', ?_⟩
  cases q : H b with
  | none => rfl
  | some x =>
    have hm : b ∈ trk h H := List.mem_filter.mpr ⟨List.mem_range.mpr (Heap.lt_size e'), by simp [q]⟩
    have z : (hidT h H).get? b = none := PySem.W.hideAll_none (trk h H) hm
    rw [z] at e; cases e

/-! ### OpenK's ledger, filled with every new object but one -/
def allNews (g h : Heap) (L : Addr) : List (Addr × Obj) := (List.range h.objs.size).filterMap fun a => if a = L ∨ (g.get? a).isSome = true then none else (h.get? a).map fun o => (a, o)
def rest (g h : Heap) (L d : Addr) : List (Addr × Obj) := (allNews g h L).filter fun p => decide (p.1 ≠ d)
end L2

namespace L2
open PySem PySem.Spec PyProof.Rows

/-- the module's facts, over the base: the heap at the law's entry without what is tracked there -/
structure Mod (K : PySem.W.Frag) (mg : Str → Option Value) (base : Heap) : Prop where
  kin : K.In base
  glob : base.Ns mainGlobals mg
  blt : ∃ mb, base.Ns builtinsNs mb ∧ ∀ x : Str, x ≠ "__name__" → mb x = bootBuiltins x
  nolimit : base.NoLimit

/-- the context: a def's body (or a comprehension's block) running. base: fixed through the whole law; s₀, H₀: the entry; outer: the frames whose slots others may change (a def's callers); stack: all frames that run;
   ex: iterators that were made ahead of the entry and are walked here (a comprehension's); fn: the names whose cells were made at the entry (a def: all; a comprehension's block: its own); calm: not within an except suite; pn: pins that every state bears; xe: what is wanted of an exception that leaves the code -/
structure Cx where
  prog : Program
  w : World
  K : PySem.W.Frag
  mg : Str → Option Value
  base : Heap
  A : Around
  N : List Str
  s₀ : Shared
  H₀ : Hp
  env : Env
  outer : List Env
  stack : List Env
  ex : List Addr
  fn : Str → Bool
  calm : Bool
  pn : List (Addr × Obj)
  xe : Value → Shared → Prop
/-- the callers' frames -/
def frs (l : List Env) : List Addr := l.filterMap (·.frame)
abbrev Cx.fs (X : Cx) : List Addr := frs X.outer

def Vis (sc : Scope) (x : Str) : Prop := sc.names.lookup x = some .local ∨ sc.names.lookup x = some .cell ∨ sc.names.lookup x = some .free
def Loc (sc : Scope) (x : Str) : Prop := sc.names.lookup x = some .local ∨ sc.names.lookup x = some .cell
def Look (env : Env) (h : Heap) (m : Str → Option Value) (x : Str) (u : Value) : Prop :=
  (env.kindOf x = some .local ∧ m x = some u) ∨ ((env.kindOf x = some .cell ∨ env.kindOf x = some .free) ∧ ∃ c, env.cells.lookup x = some c ∧ h.IsCell c (some u))

structure Cx.Ok (X : Cx) : Prop where
  mod : Mod X.K X.mg X.base
  kind : X.env.scope.kind = .function
  glob : X.env.globals = mainGlobals
  blt : X.env.builtins = builtinsNs
  above : X.s₀.heap.objs.size ≤ X.env.locals
  inj : ∀ x y c, X.env.cells.lookup x = some c → X.env.cells.lookup y = some c → x = y
  has : ∀ x, (X.env.kindOf x = some .cell ∨ X.env.kindOf x = some .free) → ∃ c, X.env.cells.lookup x = some c
  cab : ∀ x c, X.fn x = true → X.env.cells.lookup x = some c → X.s₀.heap.objs.size ≤ c
  hd : X.calm = true → X.A.handled = none
  frames : X.A.frames = some X.stack
  stk : X.stack = X.outer ∨ (X.stack = X.env :: X.outer ∧ X.env.frame = some X.env.locals)
  exf : ∀ b ∈ X.ex, b ≠ X.env.locals ∧ ∀ x c, X.env.cells.lookup x = some c → c ≠ b
  bs : ∀ b o, X.base.get? b = some o → X.s₀.heap.get? b = some o ∧ X.H₀ b = none
  bsz : X.base.objs.size ≤ X.s₀.heap.objs.size
  noex : ∀ b o, X.base.get? b = some o → b ∉ X.ex
  exfs : ∀ b ∈ X.ex, b ∉ X.fs
  funs : X.s₀.heap.FunFrames X.base X.outer
  frf : ∀ b ∈ X.fs, X.H₀ b = none

structure Inv (X : Cx) (pins : List (Addr × Obj)) (σ : List (Option V)) (H : Hp) (s : Shared) : Prop where
  ok : X.Ok
  os : s.os = X.s₀.os
  bare : AllBare s.gens
  base : Un X.fs X.ex X.H₀ H X.s₀.heap s.heap
  loc : ∃ m, s.heap.Ns X.env.locals m ∧ ∀ (i : Nat) (x : Str) (v : V), X.N[i]? = some x → σ[i]? = some (some v) → Vis X.env.scope x → ∃ u, RelV v u ∧ Look X.env s.heap m x u
  cell : ∀ x c, X.env.cells.lookup x = some c → ∃ v, s.heap.IsCell c v
  free : H X.env.locals = none
  freeC : ∀ x c, X.env.cells.lookup x = some c → H c = none
  pin : ∀ p ∈ X.pn ++ pins, s.heap.get? p.1 = some p.2 ∧ H p.1 = none ∧ p.1 ≠ X.env.locals ∧ p.1 ∉ X.fs ∧ ∀ v, p.2.data ≠ .cell v
  hok : HOk X.prog X.w H s.heap
  len : σ.length = X.N.length

section
variable {X : Cx} {pins : List (Addr × Obj)} {σ : List (Option V)} {H H' : Hp} {s : Shared} {h' : Heap}

theorem Cx.Ok.nofr (ok : X.Ok) {b : Addr} {o : Obj} (e : X.base.get? b = some o) : b ∉ X.fs := fun hb => by
  have := (ok.funs.mem hb).1
  rw [e] at this; cases this
theorem Inv.bs (I : Inv X pins σ H s) : ∀ b o, X.base.get? b = some o → s.heap.get? b = some o ∧ H b = none := fun b o e =>
  ⟨I.base.keep b o (I.ok.bs b o e).1 (I.ok.bs b o e).2 (I.ok.nofr e) (I.ok.noex b o e), I.base.free b o (I.ok.bs b o e).1 (I.ok.bs b o e).2 (I.ok.noex b o e)⟩
theorem Inv.bk (I : Inv X pins σ H s) : ∀ b o, X.base.get? b = some o → s.heap.get? b = some o := fun b o e => (I.bs b o e).1
theorem Inv.mod (I : Inv X pins σ H s) : Mod X.K X.mg X.base := I.ok.mod
theorem Inv.kIn (I : Inv X pins σ H s) : X.K.In s.heap := I.ok.mod.kin.keeps I.bk
theorem Inv.nolimit (I : Inv X pins σ H s) : s.heap.NoLimit := I.ok.mod.nolimit.keeps I.bk
theorem Inv.lt (I : Inv X pins σ H s) : X.env.locals < s.heap.objs.size := let ⟨_, hn, _⟩ := I.loc; hn.lt
theorem Inv.sz (I : Inv X pins σ H s) : X.s₀.heap.objs.size ≤ s.heap.objs.size := Nat.le_trans I.ok.above (Nat.le_of_lt I.lt)
theorem Inv.nofs (I : Inv X pins σ H s) {a : Addr} (h : s.heap.objs.size ≤ a) : a ∉ X.fs := fun hb => by
  obtain ⟨_, o, ho, _⟩ := I.ok.funs.mem hb
  exact absurd (Nat.lt_of_lt_of_le (Heap.lt_size ho) (Nat.le_trans I.sz h)) (Nat.lt_irrefl _)
theorem Inv.cne (I : Inv X pins σ H s) : ∀ x c, X.env.cells.lookup x = some c → c ≠ X.env.locals := fun x c e z => by
  obtain ⟨v, o, ho, hd⟩ := I.cell x c e
  obtain ⟨m, ⟨o', es, ep, ho', hd', _⟩, _⟩ := I.loc
  rw [z, ho'] at ho; cases ho; rw [hd'] at hd; cases hd
theorem Inv.funs (I : Inv X pins σ H s) : s.heap.FunFrames X.base X.outer := by
  have all : ∀ (l : List Env), (∀ b ∈ frs l, b ∈ X.fs) → X.s₀.heap.FunFrames X.base l → s.heap.FunFrames X.base l := by
    intro l
    induction l with
    | nil => intro _ _; trivial
    | cons env r ih =>
      intro hs hl
      obtain ⟨hk, ⟨L, o, hf, hn, ho, hd⟩, hr⟩ := hl
      have hL : L ∈ X.fs := hs L (by unfold frs; rw [List.filterMap_cons, hf]; exact List.mem_cons_self)
      obtain ⟨sl, e⟩ := I.base.slot L o ho (I.ok.frf L hL) hL fun z => I.ok.exfs L z hL
      exact ⟨hk, ⟨L, _, hf, hn, e, hd⟩, ih (fun b hb => hs b (by unfold frs; rw [List.filterMap_cons, hf]; exact List.mem_cons_of_mem _ hb)) hr⟩
  exact all X.outer (fun _ hb => hb) I.ok.funs

/-- the frames that run, for a call -/
theorem Inv.stack (I : Inv X pins σ H s) : s.heap.FunFrames X.base X.stack := by
  rcases I.ok.stk with e | ⟨e, hf⟩
  · rw [e]; exact I.funs
  · rw [e]
    obtain ⟨m, hn, _⟩ := I.loc
    refine .cons (by rw [I.ok.kind]; decide) hf hn ?_ I.funs
    exact Heap.get?_none_of_le (Nat.le_trans I.ok.bsz I.ok.above)
theorem Inv.stkSub (I : Inv X pins σ H s) : ∀ b ∈ frs X.stack, b ∈ X.env.locals :: X.fs := fun b hb => by
  rcases I.ok.stk with e | ⟨e, hf⟩
  · rw [e] at hb; exact List.mem_cons_of_mem _ hb
  · rw [e] at hb
    unfold frs at hb
    rw [List.filterMap_cons, hf] at hb
    exact hb
theorem Inv.stkFree (I : Inv X pins σ H s) : ∀ b ∈ frs X.stack, H b = none := fun b hb => by
  rcases List.mem_cons.mp (I.stkSub b hb) with e | hb
  · rw [e]; exact I.free
  · obtain ⟨_, o, ho, _⟩ := I.ok.funs.mem hb
    exact I.base.free b o ho (I.ok.frf b hb) fun z => I.ok.exfs b z hb

/-- THE STEP: the untracked objects but the frame and the records at ch are kept (the callers' frames up to slots), the frame's map is kept, the new abstract heap is held -/
theorem Inv.step {g' : Array GenState} {t' : Nat} {d' : Drawn} {ch : List Addr} (I : Inv X pins σ H s)
    (hch : ∀ b ∈ ch, (b ∈ X.ex ∨ X.s₀.heap.objs.size ≤ b) ∧ b ≠ X.env.locals ∧ (∀ x c, X.env.cells.lookup x = some c → c ≠ b) ∧ ∀ p ∈ X.pn ++ pins, p.1 ≠ b)
    (keep : ∀ b o, b ≠ X.env.locals → b ∉ X.fs → b ∉ ch → s.heap.get? b = some o → H b = none → h'.get? b = some o)
    (slot : ∀ b o, b ≠ X.env.locals → b ∈ X.fs → b ∉ ch → s.heap.get? b = some o → H b = none → ∃ sl, h'.get? b = some { o with slots := sl }) (free : ∀ b o, b ∉ ch → s.heap.get? b = some o → H b = none → H' b = none)
    (there : ∀ b o, b ∉ ch → s.heap.get? b = some o → ∃ o', h'.get? b = some o')
    (tups : ∀ b xs, H b = some (.tup xs) → H' b = some (.tup xs)) (frzs : ∀ b o u, H b = some (.frz o u) → H' b = some (.frz o u)) (tbls : ∀ b ps, H b = some (.tbl ps) → ∃ more, H' b = some (.tbl (ps ++ more)))
    (ns : ∀ m, s.heap.Ns X.env.locals m → h'.Ns X.env.locals m) (hok : HOk X.prog X.w H' h') (hg : AllBare g') :
    Inv X pins σ H' { s with heap := h', gens := g', drawn := d', toks := t' } := by
  have neL : ∀ b o, X.s₀.heap.get? b = some o → b ≠ X.env.locals := fun b o e => Nat.ne_of_lt (Nat.lt_of_lt_of_le (Heap.lt_size e) I.ok.above)
  have neC : ∀ b o, X.s₀.heap.get? b = some o → b ∉ X.ex → b ∉ ch := fun b o e hx hb => by
    rcases (hch b hb).1 with z | z
    · exact hx z
    · exact absurd (Nat.lt_of_lt_of_le (Heap.lt_size e) z) (Nat.lt_irrefl _)
  have cellK : ∀ x c, X.env.cells.lookup x = some c → ∀ v, s.heap.IsCell c v → h'.IsCell c v := fun x c e v ⟨o, ho, hd⟩ => by
    have nch : c ∉ ch := fun z => (hch c z).2.2.1 x c e rfl
    by_cases hc : c ∈ X.fs
    · obtain ⟨sl, q⟩ := slot c o (I.cne x c e) hc nch ho (I.freeC x c e)
      exact ⟨_, q, hd⟩
    · exact ⟨o, keep c o (I.cne x c e) hc nch ho (I.freeC x c e), hd⟩
  refine ⟨I.ok, I.os, hg, ⟨fun b o e n hb hx => ?_, fun b o e n hb hx => ?_, fun b o e n hx => ?_, fun b o e hx => ?_, fun b xs e => tups b xs (I.base.tups b xs e), fun b o xs e => frzs b o xs (I.base.frzs b o xs e), fun b ps e => ?_⟩, ?_, fun x c e => ?_, ?_, fun x c e => ?_, fun p hp => ?_, hok, I.len⟩
  · exact keep b o (neL b o e) hb (neC b o e hx) (I.base.keep b o e n hb hx) (I.base.free b o e n hx)
  · obtain ⟨sl, e1⟩ := I.base.slot b o e n hb hx
    obtain ⟨sl', e2⟩ := slot b _ (neL b o e) hb (neC b o e hx) e1 (I.base.free b o e n hx)
    exact ⟨sl', e2⟩
  · obtain ⟨o', e1⟩ := I.base.there b o e hx
    exact free b o' (neC b o e hx) e1 (I.base.free b o e n hx)
  · obtain ⟨o', e1⟩ := I.base.there b o e hx
    exact there b o' (neC b o e hx) e1
  · obtain ⟨m1, e1⟩ := I.base.tbls b ps e
    obtain ⟨m2, e2⟩ := tbls b _ e1
    exact ⟨m1 ++ m2, by rw [e2, Array.append_assoc]⟩
  · obtain ⟨m, hn, hl⟩ := I.loc
    refine ⟨m, ns m hn, fun i x v e1 e2 e3 => ?_⟩
    obtain ⟨u, r, l⟩ := hl i x v e1 e2 e3
    refine ⟨u, r, ?_⟩
    rcases l with l | ⟨k, c, e, z⟩
    · exact .inl l
    · exact .inr ⟨k, c, e, cellK x c e _ z⟩
  · obtain ⟨v, z⟩ := I.cell x c e
    exact ⟨v, cellK x c e v z⟩
  · obtain ⟨m, ⟨o, _, _, ho, _⟩, _⟩ := I.loc
    exact free _ o (fun z => (hch _ z).2.1 rfl) ho I.free
  · obtain ⟨v, o, ho, hd⟩ := I.cell x c e
    exact free c o (fun z => (hch c z).2.2.1 x c e rfl) ho (I.freeC x c e)
  · obtain ⟨e, n, ne, nf, d⟩ := I.pin p hp
    have nch : p.1 ∉ ch := fun z => (hch p.1 z).2.2.2 p hp rfl
    exact ⟨keep p.1 p.2 ne nf nch e n, free p.1 p.2 nch e n, ne, nf, d⟩
/-- .. where the frame's own object is kept too -/
theorem Inv.un {t' : Nat} (I : Inv X pins σ H s) (u : Un X.fs [] H H' s.heap h') (hok : HOk X.prog X.w H' h') : Inv X pins σ H' { s with heap := h', toks := t' } := by
  obtain ⟨m, ⟨o, es, ep, ho, r⟩, _⟩ := id I.loc
  obtain ⟨sl, hL⟩ := u.any ho I.free (by simp)
  exact I.step (g' := s.gens) (d' := s.drawn) (ch := []) (fun _ z => nomatch z) (fun b o _ hb _ e n => u.keep b o e n hb (by simp)) (fun b o _ hb _ e n => u.slot b o e n hb (by simp)) (fun b o _ e n => u.free b o e n (by simp)) (fun b o _ e => u.there b o e (by simp)) u.tups u.frzs u.tbls (fun m' hm => by
    obtain ⟨o', es', ep', ho', r'⟩ := hm
    rw [ho] at ho'; cases ho'
    exact ⟨_, es', ep', hL, r'⟩) hok I.bare
/-- behind a call (or a comprehension's block): the slots of this frame may have changed too, the records at ch may have turned -/
theorem Inv.call {g' : Array GenState} {t' : Nat} {d' : Drawn} {ch : List Addr} (I : Inv X pins σ H s) (u : Un (frs X.stack) ch H H' s.heap h') (hok : HOk X.prog X.w H' h') (hg : AllBare g')
    (hch : ∀ b ∈ ch, (b ∈ X.ex ∨ X.s₀.heap.objs.size ≤ b) ∧ b ≠ X.env.locals ∧ (∀ x c, X.env.cells.lookup x = some c → c ≠ b) ∧ ∀ p ∈ X.pn ++ pins, p.1 ≠ b) :
    Inv X pins σ H' { s with heap := h', gens := g', drawn := d', toks := t' } := by
  obtain ⟨m, ⟨o, es, ep, ho, r⟩, _⟩ := id I.loc
  obtain ⟨sl, hL⟩ := u.any ho I.free fun z => (hch _ z).2.1 rfl
  exact I.step (ch := ch) hch (fun b o hL hb hc e n => u.keep b o e n (fun z => (List.mem_cons.mp (I.stkSub b z)).elim hL hb) hc) (fun b o _ _ hc e n => u.any e n hc) (fun b o hc e n => u.free b o e n hc) (fun b o hc e => u.there b o e hc) u.tups u.frzs u.tbls (fun m' hm => by
    obtain ⟨o', es', ep', ho', r'⟩ := hm
    rw [ho] at ho'; cases ho'
    exact ⟨_, es', ep', hL, r'⟩) hok hg
/-- an untracked record of ours (an iterator) has turned -/
theorem Inv.turned {t' : Nat} {it : Addr} (I : Inv X pins σ H s) (k : ∀ b o, b ≠ it → s.heap.get? b = some o → h'.get? b = some o) (hn : H it = none) (hL : it ≠ X.env.locals)
    (h1 : it ∈ X.ex ∨ X.s₀.heap.objs.size ≤ it) (h2 : ∀ x c, X.env.cells.lookup x = some c → c ≠ it) (h3 : ∀ p ∈ X.pn ++ pins, p.1 ≠ it) : Inv X pins σ H { s with heap := h', toks := t' } := by
  have nit : ∀ b u, H b = some u → b ≠ it := fun b u e z => by rw [z, hn] at e; cases e
  refine I.step (g' := s.gens) (d' := s.drawn) (ch := [it]) (fun b hb => ?_) (fun b o _ _ hc e _ => k b o (fun z => hc (by simp [z])) e) (fun b o _ _ hc e _ => ⟨o.slots, k b o (fun z => hc (by simp [z])) e⟩) (fun _ _ _ _ n => n)
    (fun b o hc e => ⟨o, k b o (fun z => hc (by simp [z])) e⟩) (fun _ _ e => e) (fun _ _ _ e => e) (fun b ps e => ⟨#[], by rw [e]; simp⟩) (fun m hm => ?_) (fun b u e => ?_) I.bare
  · have e : b = it := by simpa using hb
    subst e
    exact ⟨h1, hL, h2, h3⟩
  · obtain ⟨o, es, ep, ho, r⟩ := hm
    exact ⟨o, es, ep, k _ o (Ne.symm hL) ho, r⟩
  · refine (I.hok b u e).stay (fun c v hc q => k c v ?_ q) (fun _ q => q) fun _ _ q => q
    rcases hc with z | z
    · rw [z]; exact nit b u e
    · exact nit c _ z
theorem Inv.tok (I : Inv X pins σ H s) (t : Nat) : Inv X pins σ H { s with toks := t } := I.un (h' := s.heap) (t' := t) Un.refl I.hok
/-- all objects kept -/
theorem Inv.kept {t' : Nat} (I : Inv X pins σ H s) (k : ∀ b u, s.heap.get? b = some u → h'.get? b = some u) : Inv X pins σ H { s with heap := h', toks := t' } := I.un (Un.kept k) (I.hok.kept k)
/-- a new object laid and tracked -/
theorem Inv.laid {a : Addr} {o : HO} {t' : Nat} (I : Inv X pins σ H s) (k : ∀ b u, s.heap.get? b = some u → h'.get? b = some u) (hp : s.heap.objs.size ≤ a) (new : ObjOk X.prog X.w (upd H a o) h' a o) :
    Inv X pins σ (upd H a o) { s with heap := h', toks := t' } := I.un (Un.laid k hp (I.hok.fresh hp)) (I.hok.laid k hp new)
/-- an object written -/
theorem Inv.write {x e : Addr} {o : HO} {t' : Nat} (I : Inv X pins σ H s) (mu : Mut (H x)) (he : e = x ∨ H e = some (.own x)) (k : ∀ b u, b ≠ e → s.heap.get? b = some u → h'.get? b = some u) (heo : ∃ u, h'.get? e = some u)
    (new : ObjOk X.prog X.w (upd H x o) h' x o) : Inv X pins σ (upd H x o) { s with heap := h', toks := t' } := I.un (Un.write mu he k heo) (I.hok.write mu he k heo new)
/-- forgetting slots, pins -/
theorem Inv.weak {σ' : List (Option V)} (I : Inv X pins σ H s) (hl : σ'.length = σ.length) (w : ∀ (i : Nat) v, σ'[i]? = some (some v) → σ[i]? = some (some v)) : Inv X pins σ' H s :=
  ⟨I.ok, I.os, I.bare, I.base, let ⟨m, hn, hl'⟩ := I.loc; ⟨m, hn, fun i x v e1 e2 e3 => hl' i x v e1 (w i v e2) e3⟩, I.cell, I.free, I.freeC, I.pin, I.hok, hl.trans I.len⟩
theorem Inv.pins_of {pins' : List (Addr × Obj)} (I : Inv X pins σ H s) (h : ∀ p ∈ pins', s.heap.get? p.1 = some p.2 ∧ H p.1 = none ∧ p.1 ≠ X.env.locals ∧ p.1 ∉ X.fs ∧ ∀ v, p.2.data ≠ .cell v) : Inv X pins' σ H s :=
  ⟨I.ok, I.os, I.bare, I.base, I.loc, I.cell, I.free, I.freeC, fun p hp => (List.mem_append.mp hp).elim (fun z => I.pin p (List.mem_append_left _ z)) (h p), I.hok, I.len⟩

theorem nodup_ix {N : List Str} (hN : N.Nodup) {i j : Nat} {x : Str} (a : N[i]? = some x) (b : N[j]? = some x) : i = j := by
  obtain ⟨h1, e1⟩ := List.getElem?_eq_some_iff.mp a
  obtain ⟨h2, e2⟩ := List.getElem?_eq_some_iff.mp b
  exact (List.getElem_inj hN).mp (e1.trans e2.symm)

/-- a name is stored; what changed -/
theorem store_ok2 {M : Model} {A : Around} {E : Value → Shared → Prop} {i : Nat} {x : Str} {v : V} {u : Value} {Q : Unit → Shared → Prop} (I : Inv X pins σ H s) (hN : X.N.Nodup) (hi : X.N[i]? = some x) (hx : Loc X.env.scope x) (r : RelV v u)
    (h : ∀ s', Inv X pins (σ.set i (some v)) H s' → (∃ a, Heap.SameBut a s.heap s'.heap ∧ (a = X.env.locals ∨ X.env.cells.lookup x = some a)) → Q () s') (hf : X.fn x = true ∨ X.env.scope.names.lookup x = some .local := by first | exact .inl rfl | exact .inr rfl | assumption) : wpAny M A (storeName X.env x u) Q E s := by
  obtain ⟨m, hn, hl⟩ := id I.loc
  have hcls : (X.env.scope.kind == .class || (X.env.scope.kind == .module && X.env.locals != X.env.globals)) = false := by rw [I.ok.kind]; rfl
  have hiσ : i < σ.length := by rw [I.len]; exact (List.getElem?_eq_some_iff.mp hi).1
  have cne := I.cne
  have tracked : ∀ {a : Addr} {h' : Heap}, (∃ o, s.heap.get? a = some o ∧ H a = none) → Heap.SameBut a s.heap h' → HOk X.prog X.w H h' := fun {a h'} ha hs b ob e => by
    obtain ⟨_, _, hfree⟩ := ha
    refine (I.hok b ob e).stay (fun c w' hc q => (hs.2 c ?_).trans q) (fun _ q => q) fun _ _ q => q
    rintro rfl
    rcases hc with rfl | hc
    · rw [hfree] at e; cases e
    · rw [hfree] at hc; cases hc
  rcases hx with hk | hk
  · refine wpAny_storeName_local hk hn (fun h' hn' hs => ?_) hcls
    obtain ⟨oL, _, _, hoL, _⟩ := id hn
    refine h _ ⟨I.ok, I.os, I.bare, ⟨fun b o e n hb hx => ?_, fun b o e n hb hx => ?_, I.base.free, fun b o e hx => ?_, I.base.tups, I.base.frzs, I.base.tbls⟩, ⟨_, hn', fun j y v' e1 e2 e3 => ?_⟩, fun y c e => ?_, I.free, I.freeC, fun p hp => ?_, tracked ⟨oL, hoL, I.free⟩ hs, by simpa using I.len⟩ ⟨_, hs, .inl rfl⟩
    · exact (hs.2 b (Nat.ne_of_lt (Nat.lt_of_lt_of_le (Heap.lt_size e) I.ok.above))).trans (I.base.keep b o e n hb hx)
    · obtain ⟨sl, e1⟩ := I.base.slot b o e n hb hx
      exact ⟨sl, (hs.2 b (Nat.ne_of_lt (Nat.lt_of_lt_of_le (Heap.lt_size e) I.ok.above))).trans e1⟩
    · obtain ⟨o', e1⟩ := I.base.there b o e hx
      exact ⟨o', (hs.2 b (Nat.ne_of_lt (Nat.lt_of_lt_of_le (Heap.lt_size e) I.ok.above))).trans e1⟩
    · by_cases hj : j = i
      · subst hj
        rw [hi] at e1; cases e1
        rw [List.getElem?_set_self hiσ] at e2
        cases e2
        exact ⟨u, r, .inl ⟨hk, by simp⟩⟩
      · rw [List.getElem?_set_ne (Ne.symm hj)] at e2
        obtain ⟨u', r', q⟩ := hl j y v' e1 e2 e3
        refine ⟨u', r', ?_⟩
        rcases q with ⟨k, e⟩ | ⟨k, c, e, z⟩
        · refine .inl ⟨k, ?_⟩
          have : y ≠ x := fun e => hj (nodup_ix hN e1 (e ▸ hi))
          simp [this, e]
        · exact .inr ⟨k, c, e, z.sameBut hs (cne y c e)⟩
    · obtain ⟨w', z⟩ := I.cell y c e
      exact ⟨w', z.sameBut hs (cne y c e)⟩
    · obtain ⟨e, n, ne, nf, d⟩ := I.pin p hp
      exact ⟨(hs.2 p.1 ne).trans e, n, ne, nf, d⟩
  · have hfn : X.fn x = true := by
      rcases hf with z | z
      · exact z
      · rw [z] at hk; cases hk
    obtain ⟨c, hc⟩ := I.ok.has x (.inl hk)
    obtain ⟨w', z⟩ := I.cell x c hc
    refine wpAny_storeName_cell I.ok.kind hk hc z (fun h' hc' hs => ?_)
    obtain ⟨oc, hoc, hocd⟩ := id z
    refine h { s with heap := h' } ⟨I.ok, I.os, I.bare, ⟨fun b o e n hb hx => ?_, fun b o e n hb hx => ?_, I.base.free, fun b o e hx => ?_, I.base.tups, I.base.frzs, I.base.tbls⟩, ⟨m, hn.sameBut hs (Ne.symm (cne x c hc)), fun j y v' e1 e2 e3 => ?_⟩, fun y c' e => ?_, I.free, I.freeC, fun p hp => ?_, tracked ⟨oc, hoc, I.freeC x c hc⟩ hs, by simpa using I.len⟩ ⟨c, hs, .inr hc⟩
    · exact (hs.2 b (Nat.ne_of_lt (Nat.lt_of_lt_of_le (Heap.lt_size e) (I.ok.cab x c hfn hc)))).trans (I.base.keep b o e n hb hx)
    · obtain ⟨sl, e1⟩ := I.base.slot b o e n hb hx
      exact ⟨sl, (hs.2 b (Nat.ne_of_lt (Nat.lt_of_lt_of_le (Heap.lt_size e) (I.ok.cab x c hfn hc)))).trans e1⟩
    · obtain ⟨o', e1⟩ := I.base.there b o e hx
      exact ⟨o', (hs.2 b (Nat.ne_of_lt (Nat.lt_of_lt_of_le (Heap.lt_size e) (I.ok.cab x c hfn hc)))).trans e1⟩
    · by_cases hj : j = i
      · subst hj
        rw [hi] at e1; cases e1
        rw [List.getElem?_set_self hiσ] at e2
        cases e2
        exact ⟨u, r, .inr ⟨.inl hk, c, hc, hc'⟩⟩
      · rw [List.getElem?_set_ne (Ne.symm hj)] at e2
        obtain ⟨u', r', q⟩ := hl j y v' e1 e2 e3
        refine ⟨u', r', ?_⟩
        rcases q with q | ⟨k, c', e, z'⟩
        · exact .inl q
        · refine .inr ⟨k, c', e, z'.sameBut hs ?_⟩
          rintro rfl
          exact hj (nodup_ix hN e1 (I.ok.inj _ _ _ e hc ▸ hi))
    · by_cases hcc : c' = c
      · subst hcc; exact ⟨_, hc'⟩
      · obtain ⟨w2, z2⟩ := I.cell y c' e
        exact ⟨w2, z2.sameBut hs hcc⟩
    · obtain ⟨e, n, ne, nf, d⟩ := I.pin p hp
      refine ⟨(hs.2 p.1 ?_).trans e, n, ne, nf, d⟩
      intro q
      rw [q, hoc] at e
      have q' : oc = p.2 := Option.some.inj e
      exact d w' (by rw [← q']; exact hocd)
theorem store_ok {M : Model} {A : Around} {E : Value → Shared → Prop} {i : Nat} {x : Str} {v : V} {u : Value} {Q : Unit → Shared → Prop} (I : Inv X pins σ H s) (hN : X.N.Nodup) (hi : X.N[i]? = some x) (hx : Loc X.env.scope x) (r : RelV v u)
    (h : ∀ s', Inv X pins (σ.set i (some v)) H s' → Q () s') (hf : X.fn x = true ∨ X.env.scope.names.lookup x = some .local := by first | exact .inl rfl | exact .inr rfl | assumption) : wpAny M A (storeName X.env x u) Q E s :=
  store_ok2 I hN hi hx r (fun s' I' _ => h s' I') hf
/-- behind a call or a block, the state as it is -/
theorem Inv.call' {s' : Shared} {ch : List Addr} (I : Inv X pins σ H s) (ho : s'.os = s.os) (u : Un (frs X.stack) ch H H' s.heap s'.heap) (hok : HOk X.prog X.w H' s'.heap) (hg : AllBare s'.gens)
    (hch : ∀ b ∈ ch, (b ∈ X.ex ∨ X.s₀.heap.objs.size ≤ b) ∧ b ≠ X.env.locals ∧ (∀ x c, X.env.cells.lookup x = some c → c ≠ b) ∧ ∀ p ∈ X.pn ++ pins, p.1 ≠ b) : Inv X pins σ H' s' := by
  obtain ⟨h', g', d', t', o'⟩ := s'
  have e : o' = s.os := ho
  subst e
  exact I.call (g' := g') (t' := t') (d' := d') u hok hg hch
end

/-! ### the judgements -/
/-- an exception: its class, its own dict's address (where it has one), the abstract heap behind it -/
abbrev XK := Value → Option Addr → Hp → Prop
abbrev St := List (Option V)
abbrev VK := V → Hp → Prop
/-- an expression's reading; a test's; an argument list's -/
abbrev TE := St → Hp → VK → Prop
abbrev TT := St → Hp → (Bool → Hp → Prop) → Prop
abbrev TA := St → Hp → (List V → Hp → Prop) → Prop
/-- what is wanted behind a statement -/
structure Ends where
  nx : St → Hp → Prop
  rt : VK
  bk : St → Hp → Prop := fun _ _ => False
  ct : St → Hp → Prop := fun _ _ => False
abbrev TS := Ends → St → Hp → Prop

def EP (X : Cx) (pins : List (Addr × Obj)) (σ : St) (Q : VK) (u : Value) (s' : Shared) : Prop := ∃ v H', Inv X pins σ H' s' ∧ RelV v u ∧ Q v H'
def TP (X : Cx) (pins : List (Addr × Obj)) (σ : St) (Q : Bool → Hp → Prop) (b : Bool) (s' : Shared) : Prop := ∃ H', Inv X pins σ H' s' ∧ Q b H'
def AP (X : Cx) (pins : List (Addr × Obj)) (σ : St) (Q : List V → Hp → Prop) (us : List Value) (s' : Shared) : Prop := ∃ vs H', Inv X pins σ H' s' ∧ Vals vs us ∧ Q vs H'
def SP (X : Cx) (pins : List (Addr × Obj)) (D : Ends) (f : Flow) (s' : Shared) : Prop :=
  match f with
  | .next => ∃ σ' H', Inv X pins σ' H' s' ∧ D.nx σ' H'
  | .brk => ∃ σ' H', Inv X pins σ' H' s' ∧ D.bk σ' H'
  | .cont => ∃ σ' H', Inv X pins σ' H' s' ∧ D.ct σ' H'
  | .ret u => ∃ v σ' H', Inv X pins σ' H' s' ∧ RelV v u ∧ D.rt v H'

def PE (X : Cx) (e : Expr) (t : TE) : Prop :=
  ∀ (pins : List (Addr × Obj)) (s : Shared) (σ : St) (H : Hp) (Q : VK), Inv X pins σ H s → t σ H Q → wpAny (model X.prog X.w) X.A (eval e X.env) (EP X pins σ Q) X.xe s
def PT (X : Cx) (e : Expr) (t : TT) : Prop :=
  ∀ (pins : List (Addr × Obj)) (s : Shared) (σ : St) (H : Hp) (Q : Bool → Hp → Prop), Inv X pins σ H s → t σ H Q → wpAny (model X.prog X.w) X.A (isTrue e X.env (eval e X.env)) (TP X pins σ Q) X.xe s
/-- a test whatever its 'whole' is (and, or) -/
def PW (X : Cx) (e : Expr) (t : TT) : Prop :=
  ∀ (whole : Sem Value) (pins : List (Addr × Obj)) (s : Shared) (σ : St) (H : Hp) (Q : Bool → Hp → Prop), Inv X pins σ H s → t σ H Q → wpAny (model X.prog X.w) X.A (isTrue e X.env whole) (TP X pins σ Q) X.xe s
theorem PW.pt {X : Cx} {e : Expr} {t : TT} (h : PW X e t) : PT X e t := h _
/-- an argument list (no star), from the left -/
def PA (X : Cx) (es : List Expr) (t : TA) : Prop :=
  ∀ (pos : Pos) (pins : List (Addr × Obj)) (s : Shared) (σ : St) (H : Hp) (Q : List V → Hp → Prop), Inv X pins σ H s → t σ H Q → wpAny (model X.prog X.w) X.A (spliced (backTo pos (starEach es X.env))) (AP X pins σ Q) X.xe s
def PS (X : Cx) (st : Stmt) (t : TS) : Prop :=
  ∀ (pins : List (Addr × Obj)) (s : Shared) (σ : St) (H : Hp) (D : Ends), Inv X pins σ H s → t D σ H → wpAny (model X.prog X.w) X.A (exec st X.env) (SP X pins D) X.xe s
def PSs (X : Cx) (st : List Stmt) (t : TS) : Prop :=
  ∀ (pins : List (Addr × Obj)) (s : Shared) (σ : St) (H : Hp) (D : Ends), Inv X pins σ H s → t D σ H → wpAny (model X.prog X.w) X.A (execs st X.env) (SP X pins D) X.xe s
/-- weaken the end -/
theorem thn {α : Type} {t : Sem α} {Q Q' : α → Shared → Prop} {M : Model} {A : Around} {E : Value → Shared → Prop} {s : Shared} (h : wpAny M A t Q E s) (hQ : ∀ a s, Q a s → Q' a s) : wpAny M A t Q' E s := wpAny_mono h hQ fun _ _ x => x
end L2

namespace L2
open PySem PySem.Spec PyProof.Rows
section
variable {X : Cx}

/-! ### names and constants -/
def tVar (i : Nat) : TE := fun σ H Q => ∃ v, σ[i]? = some (some v) ∧ Q v H
def tC (v : V) : TE := fun _ H Q => Q v H
theorem pe_var {i : Nat} {x : Str} {pos : Pos} (hN : X.N[i]? = some x) (hv : Vis X.env.scope x) (hd : (x == ("__debug__" : Str)) = false := by decide) (hcd : (x == ("__classdict__" : Str)) = false := by decide) : PE X (.Name x pos) (tVar i) := by
  intro pins s σ H Q I h
  obtain ⟨v, e, h⟩ := h
  obtain ⟨m, hn, hl⟩ := I.loc
  obtain ⟨u, r, l⟩ := hl i x v hN e hv
  have fin : EP X pins σ Q u s := ⟨v, H, I, r, h⟩
  rcases l with ⟨hk, hm⟩ | ⟨hk, c, hc, hcell⟩
  · exact wpAny_Name (wpAny_loadName_local I.ok.kind hk hn hm fin) hd
  · rcases hk with hk | hk
    · exact wpAny_Name (wpAny_loadName_cell I.ok.kind hk hc hcell fin) hd
    · exact wpAny_Name (wpAny_loadName_free I.ok.kind hk hc hcell fin hcd) hd
theorem pe_int {i j pos} : PE X (.Constant (.int i) j pos) (tC (.int i)) := fun _ _ _ H _ I h => wpAny_Constant_int ⟨.int i, H, I.tok _, ⟨_, rfl⟩, h⟩
theorem pe_bl {b j pos} : PE X (.Constant (.bool b) j pos) (tC (.bl b)) := fun _ _ _ H _ I h => Constant_bool ⟨.bl b, H, I, rfl, h⟩
theorem pe_str {x j pos} : PE X (.Constant (.str x) j pos) (tC (.str x)) := fun _ _ _ H _ I h => Calls.Constant_str ⟨.str x, H, I.tok _, ⟨_, rfl⟩, h⟩

/-- a global name of the def -/
def Gl (X : Cx) (x : Str) : Prop := X.env.kindOf x = some .globalImplicit
theorem ld_glob {E : Value → Shared → Prop} {pins : List (Addr × Obj)} {s : Shared} {σ : St} {H : Hp} {x : Str} {u : Value} {pos : Pos} {Q : Value → Shared → Prop} (I : Inv X pins σ H s) (hg : Gl X x) (hm : X.mg x = some u) (h : Q u s)
    (hd : (x == ("__debug__" : Str)) = false := by decide) : wpAny (model X.prog X.w) X.A (eval (.Name x pos) X.env) Q E s :=
  Calls.Name_function_global I.ok.kind hg (Calls.loadGlobal_global (by rw [I.ok.glob]; exact I.mod.glob.keeps I.bk) hm h) hd
theorem ld_blt {E : Value → Shared → Prop} {pins : List (Addr × Obj)} {s : Shared} {σ : St} {H : Hp} {x : Str} {u : Value} {pos : Pos} {Q : Value → Shared → Prop} (I : Inv X pins σ H s) (hg : Gl X x) (hm : X.mg x = none) (hv : bootBuiltins x = some u) (h : Q u s)
    (hn : x ≠ "__name__" := by decide) (hd : (x == ("__debug__" : Str)) = false := by decide) : wpAny (model X.prog X.w) X.A (eval (.Name x pos) X.env) Q E s := by
  obtain ⟨mb, h1, h2⟩ := I.mod.blt
  exact Calls.Name_function_global I.ok.kind hg (Calls.loadGlobal_builtin (by rw [I.ok.glob]; exact I.mod.glob.keeps I.bk) hm (by rw [I.ok.blt]; exact h1.keeps I.bk) ((h2 x hn).trans hv) h) hd
theorem pe_bltn {x : Str} {v : V} {u : Value} {pos : Pos} (hg : Gl X x) (hm : X.mg x = none) (hv : bootBuiltins x = some u) (r : RelV v u) (hn : x ≠ "__name__" := by decide) (hd : (x == ("__debug__" : Str)) = false := by decide) : PE X (.Name x pos) (tC v) :=
  fun _ _ _ H _ I h => ld_blt I hg hm hv ⟨v, H, I, r, h⟩ hn hd

/-! ### arithmetic -/
variable {a b : Expr} {ta tb : TE} {pos : Pos}
/-! ### comparisons -/
/-- a comparison as a value, as a test -/
def tB (t : TE) : TT := fun σ H Q => t σ H fun x H1 => ∃ c, x = .bl c ∧ Q c H1
/-- an expression whose value is a bool, as a test -/
theorem pt_val {e : Expr} {t : TE} (h : PE X e t) (he : ∀ whole, isTrue e X.env whole = (do let v ← whole; standAt e.pos; holding [v] (truthy v)) := by intro _; rfl) : PT X e (tB t) := by
  intro pins s σ H Q I hw
  refine isTrue_plain (thn (h pins s σ H _ I hw) fun v s1 ⟨x, H1, I1, r1, q1⟩ => ?_) (he _)
  obtain ⟨d, rfl, q⟩ := q1
  cases r1
  exact wpAny_truthy_bool ⟨H1, I1, q⟩

/-! ### and, or, not -/
variable {tA tB' : TT} {rest : List Expr}
def tOr (t u : TT) : TT := fun σ H Q => t σ H fun c H1 => if c = true then Q true H1 else u σ H1 Q
def tNot (t : TT) : TT := fun σ H Q => t σ H fun c H1 => Q (!c) H1
theorem pw_or1 (ha : PT X a tA) : PW X (.BoolOp .Or [a] pos) tA := by
  intro wh pins s σ H Q I h
  refine isTrue_or (thn (ha pins s σ H Q I h) fun c s1 e => ?_)
  cases c with
  | false => exact isTrue_or_nil e
  | true => exact e
theorem pw_or (ha : PT X a tA) (hb : PW X (.BoolOp .Or (b :: rest) pos) tB') : PW X (.BoolOp .Or (a :: b :: rest) pos) (tOr tA tB') := by
  intro wh pins s σ H Q I h
  refine isTrue_or (thn (ha pins s σ H _ I h) fun c s1 ⟨H1, I1, q1⟩ => ?_)
  cases c with
  | true => exact ⟨H1, I1, q1⟩
  | false => exact hb wh pins s1 σ H1 Q I1 q1
theorem pt_not (ha : PT X a tA) : PT X (.UnaryOp .Not a pos) (tNot tA) := by
  intro pins s σ H Q I h
  exact isTrue_not (ha pins s σ H (fun c H1 => Q (!c) H1) I h)
/-- .. as values (bools) -/
def tAndV (ta tb : TE) : TE := fun σ H Q => ta σ H fun x H1 => ∃ c, x = .bl c ∧ if c = true then tb σ H1 Q else Q (.bl false) H1
def tNotV (ta : TE) : TE := fun σ H Q => ta σ H fun x H1 => ∃ c, x = .bl c ∧ Q (.bl (!c)) H1
theorem pe_one {op} {t : TE} (h : PE X a t) : PE X (.BoolOp op [a] pos) t := fun pins s σ H Q I hw => BoolOp_one (h pins s σ H Q I hw)
theorem pe_and (ha : PE X a ta) (hb : PE X (.BoolOp .And (b :: rest) pos) tb) : PE X (.BoolOp .And (a :: b :: rest) pos) (tAndV ta tb) := by
  intro pins s σ H Q I h
  refine BoolOp_and (thn (ha pins s σ H _ I h) fun v s1 ⟨x, H1, I1, r1, q1⟩ => ?_)
  obtain ⟨c, rfl, q1⟩ := q1
  cases r1
  refine wpAny_truthy_bool ?_
  cases c with
  | true => exact hb pins s1 σ H1 Q I1 q1
  | false => exact ⟨.bl false, H1, I1, rfl, q1⟩
theorem pe_not (ha : PE X a ta) : PE X (.UnaryOp .Not a pos) (tNotV ta) := by
  intro pins s σ H Q I h
  refine UnaryOp_ (thn (ha pins s σ H _ I h) fun v s1 ⟨x, H1, I1, r1, q1⟩ => ?_)
  obtain ⟨c, rfl, q1⟩ := q1
  cases r1
  exact not_of (wpAny_truthy_bool ⟨.bl (!c), H1, I1, rfl, q1⟩)
end
end L2

namespace L2
open PySem PySem.Spec PyProof.Rows

/-! ### a list, a tuple that is read: tracked, frozen, or an object of the module -/
def SqL (K : PySem.W.Frag) (H : Hp) (a : Addr) (xs : List V) : Prop :=
  Rd H a (.lst xs) ∨
    ∃ (o : Obj) (its : Array Value) (n : Nat), K.lookup a = some o ∧ o.cls = .type "list" ∧ o.dict = none ∧ o.data = .seq its n ∧ its.size ≤ sizeLine ∧ Vals xs its.toList
def SqT (K : PySem.W.Frag) (H : Hp) (a : Addr) (xs : List V) : Prop :=
  Rd H a (.tup xs) ∨
    ∃ (o : Obj) (its : Array Value) (n : Nat), K.lookup a = some o ∧ o.cls = .type "tuple" ∧ o.data = .seq its n ∧ its.size ≤ sizeLine ∧ Vals xs its.toList
def absV : Value → Option V
  | .none => some .non
  | .bool b => some (.bl b)
  | .int i _ => some (.int i)
  | .str x _ => some (.str x)
  | .bytes b _ => some (.byt b)
  | .float b _ => some (.flt b)
  | .ref a => some (.ref a)
  | .type n => some (.ty n)
  | _ => none
theorem RelV.abs {x : V} {u : Value} (r : RelV x u) : absV u = some x := by
  cases x with
  | non => cases r; rfl
  | bl _ => cases r; rfl
  | int _ => obtain ⟨t, rfl⟩ := r; rfl
  | str _ => obtain ⟨t, rfl⟩ := r; rfl
  | byt _ => obtain ⟨t, rfl⟩ := r; rfl
  | flt _ => obtain ⟨t, rfl⟩ := r; rfl
  | ref _ => cases r; rfl
  | ty _ => cases r; rfl
theorem RelV.inj {x y : V} {u : Value} (r : RelV x u) (q : RelV y u) : x = y := Option.some.inj (r.abs.symm.trans q.abs)
theorem Vals.inj : ∀ {xs ys : List V} {us : List Value}, Vals xs us → Vals ys us → xs = ys
  | _, _, _, .nil, .nil => rfl
  | _, _, _, .cons r t, .cons r' t' => by rw [r.inj r', Vals.inj t t']
section
variable {X : Cx} {pins : List (Addr × Obj)} {σ : St} {H : Hp} {s : Shared} {a : Addr} {xs ys : List V}
theorem SqL.of {K : PySem.W.Frag} (h : H a = some (.lst xs)) : SqL K H a xs := .inl (.inl h)
theorem SqT.of {K : PySem.W.Frag} (h : H a = some (.tup xs)) : SqT K H a xs := .inl (.inl h)
theorem Inv.list (I : Inv X pins σ H s) (h : SqL X.K H a xs) : ∃ its : List Value, Vals xs its ∧ PlainL s.heap a its.toArray ∧ xs.length ≤ sizeLine := by
  rcases h with h | ⟨o, its, n, hk, hc, hd, hs, hz, r⟩
  · obtain ⟨z, its, n, r, e⟩ := h.ok I.hok
    exact ⟨its, r, ⟨_, n, e, rfl, rfl, rfl⟩, z⟩
  · refine ⟨its.toList, r, ⟨o, n, I.kIn a o hk, hc, hd, by simpa using hs⟩, ?_⟩
    have e := r.length
    simp only [Array.length_toList] at e
    omega
theorem Inv.tuple (I : Inv X pins σ H s) (h : SqT X.K H a xs) : ∃ its : List Value, Vals xs its ∧ IsTup s.heap a its.toArray ∧ xs.length ≤ sizeLine := by
  rcases h with h | ⟨o, its, n, hk, hc, hs, hz, r⟩
  · obtain ⟨z, its, r, p⟩ := h.ok I.hok
    exact ⟨its, r, p, z⟩
  · refine ⟨its.toList, r, ⟨o, I.kIn a o hk, hc, n, by simpa using hs⟩, ?_⟩
    have e := r.length
    simp only [Array.length_toList] at e
    omega
theorem Inv.list_inj (I : Inv X pins σ H s) (h : SqL X.K H a xs) (h' : SqL X.K H a ys) : xs = ys := by
  obtain ⟨its, r, ⟨o, n, e, _, _, d⟩, _⟩ := I.list h
  obtain ⟨its', r', ⟨o', n', e', _, _, d'⟩, _⟩ := I.list h'
  rw [e] at e'; cases e'
  rw [d] at d'
  injection d' with d1 _
  have : its = its' := by simpa using congrArg Array.toList d1
  subst this
  exact r.inj r'
end

/-! ### another wish about exceptions -/
abbrev Cx.wish (X : Cx) (E : Value → Shared → Prop) : Cx := { X with xe := E }
/-- no exception leaves -/
abbrev Cx.nox (X : Cx) : Cx := X.wish fun _ _ => False
theorem Cx.Ok.wish {X : Cx} (ok : X.Ok) (E : Value → Shared → Prop) : (X.wish E).Ok :=
  ⟨ok.mod, ok.kind, ok.glob, ok.blt, ok.above, ok.inj, ok.has, ok.cab, ok.hd, ok.frames, ok.stk, ok.exf, ok.bs, ok.bsz, ok.noex, ok.exfs, ok.funs, ok.frf⟩
theorem Cx.Ok.unwish {X : Cx} {E : Value → Shared → Prop} (ok : (X.wish E).Ok) : X.Ok :=
  ⟨ok.mod, ok.kind, ok.glob, ok.blt, ok.above, ok.inj, ok.has, ok.cab, ok.hd, ok.frames, ok.stk, ok.exf, ok.bs, ok.bsz, ok.noex, ok.exfs, ok.funs, ok.frf⟩
section
variable {X : Cx} {pins : List (Addr × Obj)} {σ : St} {H : Hp} {s : Shared} {E : Value → Shared → Prop}
theorem Inv.wish (I : Inv X pins σ H s) (E : Value → Shared → Prop) : Inv (X.wish E) pins σ H s := ⟨I.ok.wish E, I.os, I.bare, I.base, I.loc, I.cell, I.free, I.freeC, I.pin, I.hok, I.len⟩
theorem Inv.unwish (I : Inv (X.wish E) pins σ H s) : Inv X pins σ H s := ⟨I.ok.unwish, I.os, I.bare, I.base, I.loc, I.cell, I.free, I.freeC, I.pin, I.hok, I.len⟩
theorem SP.unwish {D : Ends} {f : Flow} {s' : Shared} (h : SP (X.wish E) pins D f s') : SP X pins D f s' := by
  cases f with
  | next => obtain ⟨σ', H', I, q⟩ := h; exact ⟨σ', H', I.unwish, q⟩
  | brk => obtain ⟨σ', H', I, q⟩ := h; exact ⟨σ', H', I.unwish, q⟩
  | cont => obtain ⟨σ', H', I, q⟩ := h; exact ⟨σ', H', I.unwish, q⟩
  | ret u => obtain ⟨v, σ', H', I, r, q⟩ := h; exact ⟨v, σ', H', I.unwish, r, q⟩
theorem PE.nox {e : Expr} {t : TE} (h : PE X.nox e t) : PE X e t := fun pins s σ H Q I hw =>
  wpAny_mono (h pins s σ H Q (I.wish _) hw) (fun _ _ ⟨v, H', I', r, q⟩ => ⟨v, H', I'.unwish, r, q⟩) fun _ _ z => False.elim z
theorem PT.nox {e : Expr} {t : TT} (h : PT X.nox e t) : PT X e t := fun pins s σ H Q I hw =>
  wpAny_mono (h pins s σ H Q (I.wish _) hw) (fun _ _ ⟨H', I', q⟩ => ⟨H', I'.unwish, q⟩) fun _ _ z => False.elim z
theorem PSs.nox {st : List Stmt} {t : TS} (h : PSs X.nox st t) : PSs X st t := fun pins s σ H D I hw =>
  wpAny_mono (h pins s σ H D (I.wish _) hw) (fun _ _ q => q.unwish) fun _ _ z => False.elim z
end

/-! ### blocks and small statements -/
section
variable {X : Cx} {st : Stmt} {rest : List Stmt} {t u : TS} {e : Expr} {te : TE} {pos : Pos}
def tNext : TS := fun D σ H => D.nx σ H
def tSeq (t u : TS) : TS := fun D σ H => t { D with nx := u D } σ H
theorem pss_nil : PSs X [] tNext := fun _ _ σ H _ I h => wpAny_execs_nil ⟨σ, H, I, h⟩
theorem pss_cons (h1 : PS X st t) (h2 : PSs X rest u) : PSs X (st :: rest) (tSeq t u) := by
  intro pins s σ H D I h
  refine wpAny_execs_cons (thn (h1 pins s σ H { D with nx := u D } I h) fun f s1 q => ?_)
  cases f with
  | next =>
    obtain ⟨σ', H', I', q⟩ := q
    exact h2 pins s1 σ' H' D I' q
  | ret v => exact q
  | brk => exact q
  | cont => exact q
theorem pss_one (h1 : PS X st t) : PSs X [st] t := by
  intro pins s σ H D I h
  refine wpAny_execs_cons (thn (h1 pins s σ H D I h) fun f s1 q => ?_)
  cases f with
  | next => exact wpAny_execs_nil q
  | ret v => exact q
  | brk => exact q
  | cont => exact q
/-- in a def's body nothing is shown -/
theorem Inv.quiet {pins : List (Addr × Obj)} {σ : St} {H : Hp} {s : Shared} (I : Inv X pins σ H s) : interactive X.env = false := by simp [interactive, I.ok.kind]
/-- an expression whose value is dropped -/
def tDrop (te : TE) : TS := fun D σ H => te σ H fun _ H1 => D.nx σ H1
theorem ps_expr (he : PE X e te) (hs : swapsWith e none pos.line X.env = pure false := by rfl) : PS X (.Expr e pos) (tDrop te) := by
  intro pins s σ H D I h
  exact wpAny_Expr_any (thn (he pins s σ H _ I h) fun v s1 ⟨x, H1, I1, r1, q1⟩ => ⟨σ, H1, I1, q1⟩) I.quiet hs
def tRet (te : TE) : TS := fun D σ H => te σ H D.rt
theorem ps_ret (he : PE X e te) : PS X (.Return (some e) pos) (tRet te) := by
  intro pins s σ H D I h
  exact wpAny_Return_some (thn (he pins s σ H _ I h) fun v s1 ⟨x, H1, I1, r1, q1⟩ => ⟨x, σ, H1, I1, r1, q1⟩)
def tIfS (c : TT) (t u : TS) : TS := fun D σ H => c σ H fun b H1 => if b = true then t D σ H1 else u D σ H1
theorem ps_if {c : Expr} {a b : List Stmt} {tc : TT} (hc : PT X c tc) (ha : PSs X a t) (hb : PSs X b u) : PS X (.If c a b pos) (tIfS tc t u) := by
  intro pins s σ H D I h
  refine wpAny_If (thn (hc pins s σ H _ I h) fun d s1 ⟨H1, I1, q1⟩ => ?_)
  cases d with
  | true => exact ha pins s1 σ H1 D I1 q1
  | false => exact hb pins s1 σ H1 D I1 q1
end

/-! ### targets -/
abbrev TG := V → St → Hp → (St → Hp → Prop) → Prop
def PG (X : Cx) (target : Expr) (t : TG) : Prop :=
  ∀ (pins : List (Addr × Obj)) (s : Shared) (σ : St) (H : Hp) (v : V) (u : Value) (Q : St → Hp → Prop), Inv X pins σ H s → RelV v u → t v σ H Q →
    wpAny (model X.prog X.w) X.A (assign target X.env u) (fun _ s' => ∃ σ' H', Inv X pins σ' H' s' ∧ Q σ' H') X.xe s
section
variable {X : Cx} {pos : Pos}
def gName (i : Nat) : TG := fun v σ H Q => Q (σ.set i (some v)) H
theorem pg_name {i : Nat} {x : Str} (hN : X.N.Nodup) (hi : X.N[i]? = some x) (hx : Loc X.env.scope x) (hf : X.fn x = true ∨ X.env.scope.names.lookup x = some .local := by first | exact .inl rfl | exact .inr rfl | assumption) : PG X (.Name x pos) (gName i) := by
  intro pins s σ H v u Q I r h
  exact wpAny_assign_Name (store_ok I hN hi hx r (fun s' I' => ⟨_, H, I', h⟩) hf)
/-- target = value -/
def tAsg (te : TE) (g : TG) : TS := fun D σ H => te σ H fun x H1 => g x σ H1 D.nx
/-- name = value -/
theorem ps_set {i : Nat} {x : Str} {e : Expr} {te : TE} {pos' : Pos} (hN : X.N.Nodup) (hi : X.N[i]? = some x) (hx : Loc X.env.scope x) (he : PE X e te) (hs : swapsWith e (some (.Name x pos')) pos.line X.env = pure false := by rfl) (hf : X.fn x = true ∨ X.env.scope.names.lookup x = some .local := by first | exact .inl rfl | exact .inr rfl | assumption) :
    PS X (.Assign [.Name x pos'] e pos) (tAsg te (gName i)) := by
  intro pins s σ H D I h
  refine wpAny_Assign_Name (thn (he pins s σ H _ I h) fun v s1 ⟨y, H1, I1, r1, q1⟩ => ?_) hs
  exact store_ok I1 hN hi hx r1 (fun s2 I2 => ⟨_, H1, I2, q1⟩) hf
end

/-! ### while -/
section
variable {X : Cx} {pos : Pos}
/-- the invariant W with its measure -/
def tWhile (c : TT) (tb : TS) : TS := fun D σ H => ∃ W : Nat → St → Hp → Prop, (∃ m, W m σ H) ∧ ∀ m σ H, W m σ H →
  c σ H fun b H1 => if b = true then ∃ N : St → Hp → Prop, (∀ σ' H', N σ' H' → ∃ m', m' < m ∧ W m' σ' H') ∧ tb { D with nx := N, ct := N, bk := D.nx } σ H1 else D.nx σ H1
theorem ps_while {c : Expr} {body : List Stmt} {tc : TT} {tb : TS} (hp : PassesOwn (model X.prog X.w) X.A X.env X.xe) (hc : PT X c tc) (hb : PSs X body tb) : PS X (.While c body [] pos) (tWhile tc tb) := by
  intro pins s σ H D I h
  obtain ⟨W, ⟨m0, w0⟩, turn⟩ := h
  refine wpAny_While (codeAny_whileLoop (fun n s' => ∃ σ' H', Inv X pins σ' H' s' ∧ W n σ' H') ?_ m0 ⟨σ, H, I, w0⟩)
  rintro n s1 ⟨σ1, H1, I1, w1⟩
  refine wpAny_passesOwn hp (thn (hc pins s1 σ1 H1 _ I1 (turn n σ1 H1 w1)) fun b s2 ⟨H2, I2, q2⟩ => ?_)
  cases b with
  | true =>
    obtain ⟨N, hN, q2⟩ := q2
    rw [if_pos rfl]
    refine wpAny_passesOwn hp (thn (hb pins s2 σ1 H2 _ I2 q2) fun f s3 q3 => ?_)
    cases f with
    | next =>
      obtain ⟨σ3, H3, I3, n3⟩ := q3
      obtain ⟨m', hm, w3⟩ := hN σ3 H3 n3
      exact ⟨m', hm, σ3, H3, I3, w3⟩
    | cont =>
      obtain ⟨σ3, H3, I3, n3⟩ := q3
      obtain ⟨m', hm, w3⟩ := hN σ3 H3 n3
      exact ⟨m', hm, σ3, H3, I3, w3⟩
    | brk => exact q3
    | ret v => exact q3
  | false =>
    rw [if_neg Bool.false_ne_true]
    exact wpAny_execs_nil ⟨σ1, H2, I2, q2⟩
end

/-! ### what a loop or a comprehension walks -/
/-- at turn i: it yields x (the heap may grow), or it stops -/
structure It where
  go : Nat → Hp → Prop
  yld : Nat → Hp → V → Hp → Prop
  stop : Nat → Hp → Prop
/-- the iterator's own objects may turn: they are not the frame's, not pinned, younger than the entry (or a comprehension's own) -/
def FpOk (X : Cx) (pins : List (Addr × Obj)) (H : Hp) (b : Addr) : Prop :=
  H b = none ∧ b ≠ X.env.locals ∧ b ∉ X.fs ∧ (b ∈ X.ex ∨ X.s₀.heap.objs.size ≤ b) ∧ (∀ x c, X.env.cells.lookup x = some c → c ≠ b) ∧ ∀ p ∈ X.pn ++ pins, p.1 ≠ b
theorem Inv.fpOk {X : Cx} {pins : List (Addr × Obj)} {σ : St} {H H' : Hp} {s : Shared} {b : Addr} (I : Inv X pins σ H s) (hb : s.heap.objs.size ≤ b) (hn : H' b = none) : FpOk X pins H' b := by
  refine ⟨hn, Nat.ne_of_gt (Nat.lt_of_lt_of_le I.lt hb), I.nofs hb, .inr (Nat.le_trans I.sz hb), fun x c e z => ?_, fun p hp z => ?_⟩
  · obtain ⟨v, q⟩ := I.cell x c e
    exact absurd (Nat.lt_of_lt_of_le q.lt (by rw [z]; exact hb)) (Nat.lt_irrefl _)
  · exact absurd (Nat.lt_of_lt_of_le (Heap.lt_size (I.pin p hp).1) (by rw [z]; exact hb)) (Nat.lt_irrefl _)
structure Turn (P : Program) (w : World) (K : PySem.W.Frag) (tg : Expr) (J : It) (fp : List Addr) (it : Addr) (tn : Nat → Heap → Prop) : Prop where
  mem : it ∈ fp
  obj : ∀ i h, tn i h → ∀ b ∈ fp, ∃ o, h.get? b = some o ∧ ∀ v, o.data ≠ .cell v
  keep : ∀ i h h', tn i h → (∀ b ∈ fp, ∀ o, h.get? b = some o → h'.get? b = some o) → tn i h'
  item : ∀ (X : Cx), X.prog = P → X.w = w → X.K = K → X.calm = true → ∀ (i : Nat) (pins : List (Addr × Obj)) (s : Shared) (σ : St) (H : Hp) (E : Value → Shared → Prop), Inv X pins σ H s → (∀ b ∈ fp, FpOk X pins H b) → tn i s.heap → J.go i H →
    wpAny (model P w) X.A (pyNext (.ref it)) (fun r s1 => ∃ u, r = some u ∧
      wpAny (model P w) X.A (letOwnedTupleGo tg (.ref it) u) (fun _ s2 => ∃ x H', Inv X pins σ H' s2 ∧ RelV x u ∧ J.yld i H x H' ∧ tn (i + 1) s2.heap ∧ ∀ b ∈ fp, H' b = none) E s1) E s
  done : ∀ (X : Cx), X.prog = P → X.w = w → X.K = K → X.calm = true → ∀ (i : Nat) (pins : List (Addr × Obj)) (s : Shared) (σ : St) (H : Hp) (E : Value → Shared → Prop), Inv X pins σ H s → (∀ b ∈ fp, FpOk X pins H b) → tn i s.heap → J.stop i H →
    wpAny (model P w) X.A (pyNext (.ref it)) (fun r s1 => r = none ∧ Inv X pins σ H s1) E s
  self : ∀ (A : Around) (i : Nat) (s : Shared) (Q : Value → Shared → Prop) (E : Value → Shared → Prop), tn i s.heap → Q (.ref it) s → wpAny (model P w) A (pyIter (.ref it)) Q E s
abbrev TI := St → Hp → (It → Hp → Prop) → Prop
/-- an iterator has come -/
def PIE (X : Cx) (pins : List (Addr × Obj)) (σ : St) (tg : Expr) (R : It → Hp → Prop) (itv : Value) (s2 : Shared) : Prop :=
  ∃ (it : Addr) (fp : List Addr) (tn : Nat → Heap → Prop) (J : It) (H' : Hp), itv = .ref it ∧ Inv X pins σ H' s2 ∧ Turn X.prog X.w X.K tg J fp it tn ∧ tn 0 s2.heap ∧ (∀ b ∈ fp, FpOk X pins H' b) ∧ R J H'
def PI (X : Cx) (tg iter : Expr) (wi : TI) : Prop :=
  ∀ (pins : List (Addr × Obj)) (s : Shared) (σ : St) (H : Hp) (R : It → Hp → Prop), Inv X pins σ H s → wi σ H R →
    wpAny (model X.prog X.w) X.A (eval iter X.env) (fun v s1 => wpAny (model X.prog X.w) X.A (pyIter v) (PIE X pins σ tg R) X.xe s1) X.xe s

/-- the step ahead of the store is nothing for an iterator that keeps no tuple -/
theorem go_of {M : Model} {A : Around} {E : Value → Shared → Prop} {s : Shared} {tg : Expr} {it : Addr} {u : Value} {o : Obj} {n : String} {vs : Array Value} {Q : Unit → Shared → Prop} (ho : s.heap.get? it = some o) (hc : o.cls = .type n) (hd : o.data = .fields vs)
    (hn : ["enumerate", "zip", "dict_itemiterator", "dict_reverseitemiterator", "odict_iterator", "itertools.zip_longest", "itertools.pairwise"].contains n = false) (hQ : Q () s) : wpAny M A (letOwnedTupleGo tg (.ref it) u) Q E s := by
  unfold letOwnedTupleGo
  cases tg <;> first
    | exact wpAny_pure hQ
    | (cases u <;> first
        | exact wpAny_pure hQ
        | (refine wpAny_bind (wpAny_load ho ?_)
           rw [hc, hd]
           show wpAny M A (if (["enumerate", "zip", "dict_itemiterator", "dict_reverseitemiterator", "odict_iterator", "itertools.zip_longest", "itertools.pairwise"].contains n && vs[0]? == some (rawInt _)) = true then _ else _) Q E s
           rw [if_neg (by intro h; rw [hn, Bool.false_and] at h; cases h)]
           exact wpAny_pure hQ))

/-- the list at a, as it stands at each turn (a loop may append to it) -/
def Itl (K : PySem.W.Frag) (a : Addr) : It :=
  ⟨fun i H => ∃ xs x, SqL K H a xs ∧ xs[i]? = some x, fun i H x H' => H' = H ∧ ∀ xs, SqL K H a xs → xs[i]? = some x, fun i H => ∃ xs, SqL K H a xs ∧ xs.length ≤ i⟩
/-- lo, lo + 1, .. (n of them) -/
def Itr (lo : Int) (n : Nat) : It := ⟨fun i _ => i < n, fun i H x H' => H' = H ∧ x = .int (lo + i), fun i _ => n ≤ i⟩
theorem turn_list {P : Program} {w : World} {K : PySem.W.Frag} {tg : Expr} (a it : Addr) : Turn P w K tg (Itl K a) [it] it (fun i h => h.IsListIter it a i) where
  mem := by simp
  obj := fun i h st b hb => by
    have e : b = it := by simpa using hb
    subst e
    obtain ⟨o, e, c, d⟩ := st
    exact ⟨o, e, fun v z => by rw [d] at z; cases z⟩
  keep := fun i h h' st k => st.at fun o e => k it (by simp) o e
  item := by
    intro X hP hw hK hc i pins s σ H E I hf st hg
    subst hP hw hK
    obtain ⟨xs, x, hq, hx⟩ := hg
    obtain ⟨its, rv, p, hz⟩ := I.list hq
    obtain ⟨u, hu, ru⟩ := rv.get hx
    obtain ⟨f0, f1, f2, f3, f4, f5⟩ := hf it (by simp)
    refine wpAny_pyNext_list_item st p.isList (x := u) (by simpa using hu) fun h' st' sb => ?_
    have I1 : Inv X pins σ H { s with heap := h' } := I.turned (t' := s.toks) (fun b o hb e => (sb.2 b hb).trans e) f0 f1 f3 f4 f5
    obtain ⟨o, e, c, d⟩ := id st'
    exact ⟨u, rfl, go_of (s := { s with heap := h' }) e c d (by decide) ⟨x, H, I1, ru, ⟨rfl, fun ys hy => by rw [I.list_inj hy hq]; exact hx⟩, st', fun b hb => (hf b hb).1⟩⟩
  done := by
    intro X hP hw hK hc i pins s σ H E I hf st hg
    subst hP hw hK
    obtain ⟨xs, hq, hx⟩ := hg
    obtain ⟨its, rv, p, hz⟩ := I.list hq
    obtain ⟨f0, f1, f2, f3, f4, f5⟩ := hf it (by simp)
    have hl := rv.length
    exact wpAny_pyNext_list_end (I.ok.hd hc) st p.isList (by simp; omega) fun h' eb => ⟨rfl, I.turned (t' := s.toks) (fun b o hb e => eb b o hb e) f0 f1 f3 f4 f5⟩
  self := fun _ _ _ _ _ st h => wpAny_pyIter_listiter st h
theorem turn_range {P : Program} {w : World} {K : PySem.W.Frag} {tg : Expr} (it : Addr) (lo : Int) (n : Nat) : Turn P w K tg (Itr lo n) [it] it (fun i h => IsRangeIter h it (lo + (i : Nat) * 1) ((n : Int) - (i : Nat)) 1) where
  mem := by simp
  obj := fun i h st b hb => by
    have e : b = it := by simpa using hb
    subst e
    exact ⟨_, st, fun v z => by
      have z' : Data.fields _ = Data.cell v := z
      cases z'⟩
  keep := fun i h h' st k => k it (by simp) _ st
  item := by
    intro X hP hw hK hc i pins s σ H E I hf st hg
    subst hP hw hK
    obtain ⟨f0, f1, f2, f3, f4, f5⟩ := hf it (by simp)
    have W := Walks.range (prog := X.prog) (w := X.w) (I.ok.hd hc) it lo 1 n
    refine W.item i s _ _ hg st fun v h' tk hv st' kk => ?_
    obtain ⟨t, rfl⟩ := hv
    have I1 : Inv X pins σ H { s with heap := h', toks := tk } := I.turned (fun b o hb e => kk b o (by simpa using hb) e) f0 f1 f3 f4 f5
    refine ⟨_, rfl, go_of (s := { s with heap := h', toks := tk }) (n := "range_iterator") st' rfl rfl (by decide) ⟨.int (lo + i), H, I1, ⟨t, ?_⟩, ⟨rfl, rfl⟩, st', fun b hb => (hf b hb).1⟩⟩
    rw [Int.mul_one]
  done := by
    intro X hP hw hK hc i pins s σ H E I hf st hg
    subst hP hw hK
    obtain ⟨f0, f1, f2, f3, f4, f5⟩ := hf it (by simp)
    exact wpAny_pyNext_range_end (I.ok.hd hc) st (by have : n ≤ i := hg; omega) fun h' eb => ⟨rfl, I.turned (t' := s.toks) (fun b o hb e => eb b o hb e) f0 f1 f3 f4 f5⟩
  self := fun _ _ _ _ _ st h => wpAny_pyIter_rangeiter st h
end L2

namespace L2
open PySem PySem.Spec PyProof.Rows
section
variable {X : Cx} {tg : Expr}
def iList (K : PySem.W.Frag) (tl : TE) : TI := fun σ H R => tl σ H fun x H1 => ∃ a, x = .ref a ∧ (∃ xs, SqL K H1 a xs) ∧ R (Itl K a) H1
theorem pi_list {l : Expr} {tl : TE} (hl : PE X l tl) : PI X tg l (iList X.K tl) := by
  intro pins s σ H R I h
  refine thn (hl pins s σ H _ I h) fun v s1 ⟨x, H1, I1, r1, q1⟩ => ?_
  obtain ⟨a, e, ⟨xs, hq⟩, q⟩ := q1
  subst e
  cases r1
  obtain ⟨its, rv, p, hz⟩ := I1.list hq
  refine wpAny_pyIter_list p.isList ?_
  refine ⟨s1.heap.objs.size, [s1.heap.objs.size], _, _, H1, rfl, I1.kept (t' := s1.toks) fun b o e => Heap.get?_push_of_some _ e, turn_list a _, ⟨_, Heap.get?_push_size _ rfl, rfl, rfl⟩, fun b hb => ?_, q⟩
  have e : b = s1.heap.objs.size := by simpa using hb
  subst e
  exact I1.fpOk (Nat.le_refl _) (I1.hok.fresh (Nat.le_refl _))
/-- a range object just made, walked -/
theorem range_it {pins : List (Addr × Obj)} {σ : St} {H : Hp} {s : Shared} {R : It → Hp → Prop} {E : Value → Shared → Prop} {lo hi : Int} {t u v : Tok} {tk : Nat} (I : Inv X pins σ H s) (h1 : -(2 ^ 62) ≤ lo) (h2 : lo < 2 ^ 62) (h3 : -(2 ^ 62) ≤ hi) (h4 : hi < 2 ^ 62)
    (q : R (Itr lo (hi - lo).toNat) H) : wpAny (model X.prog X.w) X.A (pyIter (.ref s.heap.objs.size)) (PIE X pins σ tg R) E { s with heap := s.heap.push { cls := .type "range", data := .fields #[.int lo t, .int hi u, .int 1 v] }, toks := tk } := by
  refine wpAny_pyIter_range (IsRange.new ..) (small_one h1 h2 h3 h4) ?_
  have I1 : Inv X pins σ H { s with heap := s.heap.push { cls := .type "range", data := .fields #[.int lo t, .int hi u, .int 1 v] }, toks := tk } := I.kept fun b o e => Heap.get?_push_of_some _ e
  refine ⟨(s.heap.push { cls := .type "range", data := .fields #[.int lo t, .int hi u, .int 1 v] }).objs.size, [(s.heap.push { cls := .type "range", data := .fields #[.int lo t, .int hi u, .int 1 v] }).objs.size], _, _, H, rfl,
    I1.kept (t' := tk) fun b o e => Heap.get?_push_of_some _ e, turn_range _ lo (hi - lo).toNat, ?_, fun b hb => ?_, q⟩
  · have e1 : lo + ((0 : Nat) : Int) * 1 = lo := by simp
    have e2 : (((hi - lo).toNat : Nat) : Int) - ((0 : Nat) : Int) = Builtin.Range.rangeSize lo hi 1 := by rw [rangeSize_one]; split <;> omega
    show IsRangeIter _ _ (lo + ((0 : Nat) : Int) * 1) ((((hi - lo).toNat : Nat) : Int) - ((0 : Nat) : Int)) 1
    rw [e1, e2]
    exact Heap.get?_push_size _ rfl
  · have e : b = (s.heap.push { cls := .type "range", data := .fields #[.int lo t, .int hi u, .int 1 v] }).objs.size := by simpa using hb
    subst e
    exact I1.fpOk (Nat.le_refl _) (I1.hok.fresh (Nat.le_refl _))
def iRng1 (ta : TA) : TI := fun σ H R => ta σ H fun vs H1 => ∃ j : Int, vs = [.int j] ∧ -(2 ^ 62) ≤ j ∧ j < 2 ^ 62 ∧ R (Itr 0 j.toNat) H1
theorem pi_range1 {a : Expr} {ta : TA} {p pos : Pos} (hg : Gl X "range") (hm : X.mg "range" = none) (ha : PA X [a] ta) (hs : starEach [a] X.env = [(false, eval a X.env)] := by rfl) : PI X tg (.Call (.Name "range" p) [a] [] pos) (iRng1 ta) := by
  intro pins s σ H R I h
  refine Call_ (ld_blt I hg hm boot_range (PyProof.Rows.callWith_type1 (thn (ha pos pins s σ H _ I h) fun us s1 ⟨vs, H1, I1, r1, q1⟩ => ?_) hs rfl))
  obtain ⟨j, e, q1, q2, q⟩ := q1
  subst e
  cases r1 with
  | cons r rr =>
    cases rr
    obtain ⟨t, rfl⟩ := r
    exact call_range_1 (range_it I1 (by omega) (by omega) q1 q2 (by simpa using q))
/-! ### for -/
/-- W: the invariant by the turn and a measure; N: what the body is to reach -/
def tFor (wi : TI) (g : TG) (tb : TS) : TS := fun D σ H => wi σ H fun J H1 => ∃ W : Nat → Nat → St → Hp → Prop, (∃ m, W 0 m σ H1) ∧ ∀ i m σ H, W i m σ H →
  (J.stop i H ∧ D.nx σ H) ∨ (J.go i H ∧ ∃ N : St → Hp → Prop, (∀ σ' H', N σ' H' → ∃ m', m' < m ∧ W (i + 1) m' σ' H') ∧ ∀ x H', J.yld i H x H' → g x σ H' fun σ2 H2 => tb { D with nx := N, ct := N, bk := D.nx } σ2 H2)
/-- the records at fp as they stand -/
def pinsAt (fp : List Addr) (h : Heap) : List (Addr × Obj) := fp.filterMap fun b => (h.get? b).map fun o => (b, o)
theorem mem_pinsAt {fp : List Addr} {h : Heap} {b : Addr} {o : Obj} (hb : b ∈ fp) (e : h.get? b = some o) : (b, o) ∈ pinsAt fp h := List.mem_filterMap.mpr ⟨b, hb, by rw [e]; rfl⟩
theorem of_pinsAt {fp : List Addr} {h : Heap} {p : Addr × Obj} (hp : p ∈ pinsAt fp h) : p.1 ∈ fp ∧ h.get? p.1 = some p.2 := by
  obtain ⟨b, hb, e⟩ := List.mem_filterMap.mp hp
  cases q : h.get? b with
  | none => rw [q] at e; cases e
  | some o =>
    rw [q] at e
    have e' : (b, o) = p := Option.some.inj e
    subst e'
    exact ⟨hb, q⟩
theorem Inv.pinned {pins : List (Addr × Obj)} {σ : St} {H : Hp} {s : Shared} {fp : List Addr} (I : Inv X pins σ H s) (hf : ∀ b ∈ fp, FpOk X pins H b) (ho : ∀ b ∈ fp, ∃ o, s.heap.get? b = some o ∧ ∀ v, o.data ≠ .cell v) : Inv X (pins ++ pinsAt fp s.heap) σ H s :=
  I.pins_of fun p hp => (List.mem_append.mp hp).elim (fun z => I.pin p (List.mem_append_right _ z)) fun z => by
    obtain ⟨hb, e⟩ := of_pinsAt z
    obtain ⟨f0, f1, f2, _⟩ := hf p.1 hb
    obtain ⟨o, e', d⟩ := ho p.1 hb
    rw [e] at e'; cases e'
    exact ⟨e, f0, f1, f2, d⟩
theorem Inv.unpinned {pins pl : List (Addr × Obj)} {σ : St} {H : Hp} {s : Shared} (I : Inv X (pins ++ pl) σ H s) : Inv X pins σ H s := I.pins_of fun p hp => I.pin p (List.mem_append_right _ (List.mem_append_left _ hp))
theorem ps_for {iter : Expr} {body : List Stmt} {wi : TI} {g : TG} {tb : TS} {pos : Pos} (hp : PassesOwn (model X.prog X.w) X.A X.env X.xe) (hc : X.calm = true) (hi : PI X tg iter wi) (hg : PG X tg g) (hb : PSs X body tb)
    (hs : ∀ x, foldedSetIterable iter X.env x = pure x := by intro _; rfl) : PS X (.For tg iter body [] pos) (tFor wi g tb) := by
  intro pins s σ H D I h
  refine wpAny_For (thn (hi pins s σ H _ I h) fun v s1 h1 => thn h1 fun itv s2 h2 => ?_) hs
  obtain ⟨it, fp, tn, J, H2, e, I2, T, st2, f2, W, ⟨m0, w0⟩, turn⟩ := h2
  subst e
  -- what stays true of the iterator's objects through the loop
  have stat : ∀ {H' : Hp}, (∀ b ∈ fp, H' b = none) → ∀ b ∈ fp, FpOk X pins H' b := fun hn b hb => ⟨hn b hb, (f2 b hb).2⟩
  refine codeAny_forLoop_any (fun n s' => ∃ i σ' H', Inv X pins σ' H' s' ∧ tn i s'.heap ∧ (∀ b ∈ fp, H' b = none) ∧ W i n σ' H') ?_ m0 ⟨0, σ, H2, I2, st2, fun b hb => (f2 b hb).1, w0⟩
  rintro n s3 ⟨i, σ3, H3, I3, st3, fr3, w3⟩
  rcases turn i n σ3 H3 w3 with ⟨stop, qn⟩ | ⟨go, N, hN, step⟩
  · refine wpAny_passesOwn hp (thn (T.done X rfl rfl rfl hc i pins s3 σ3 H3 X.xe I3 (stat fr3) st3 stop) fun r s4 ⟨hr, I4⟩ => ?_)
    subst hr
    exact wpAny_execs_nil ⟨σ3, H3, I4, qn⟩
  · refine wpAny_passesOwn hp (thn (T.item X rfl rfl rfl hc i pins s3 σ3 H3 X.xe I3 (stat fr3) st3 go) fun r s4 ⟨u, hr, h4⟩ => ?_)
    subst hr
    refine wpAny_passesOwn hp (thn h4 fun _ s5 ⟨x, H5, I5, r5, y5, st5, fr5⟩ => ?_)
    have I5' := I5.pinned (stat fr5) (T.obj _ _ st5)
    refine wpAny_passesOwn hp (thn (hg _ s5 σ3 H5 x u _ I5' r5 (step x H5 y5)) fun _ s6 ⟨σ6, H6, I6, q6⟩ => ?_)
    refine wpAny_passesOwn hp (thn (hb _ s6 σ6 H6 _ I6 q6) fun f s7 q7 => ?_)
    have again : ∀ {σ7 : St} {H7 : Hp}, Inv X (pins ++ pinsAt fp s5.heap) σ7 H7 s7 → N σ7 H7 → ∃ m, m < n ∧ ∃ i σ' H', Inv X pins σ' H' s7 ∧ tn i s7.heap ∧ (∀ b ∈ fp, H' b = none) ∧ W i m σ' H' := fun {σ7 H7} I7 n7 => by
      obtain ⟨m', hm, w7⟩ := hN σ7 H7 n7
      refine ⟨m', hm, i + 1, σ7, H7, I7.unpinned, T.keep _ _ _ st5 fun b hb o e => (I7.pin (b, o) (List.mem_append_right _ (List.mem_append_right _ (mem_pinsAt hb e)))).1, fun b hb => ?_, w7⟩
      obtain ⟨o, e, d⟩ := T.obj _ _ st5 b hb
      exact (I7.pin (b, o) (List.mem_append_right _ (List.mem_append_right _ (mem_pinsAt hb e)))).2.1
    cases f with
    | next => obtain ⟨σ7, H7, I7, n7⟩ := q7; exact again I7 n7
    | cont => obtain ⟨σ7, H7, I7, n7⟩ := q7; exact again I7 n7
    | brk => obtain ⟨σ7, H7, I7, q7⟩ := q7; exact ⟨σ7, H7, I7.unpinned, q7⟩
    | ret v => obtain ⟨x7, σ7, H7, I7, r7, q7⟩ := q7; exact ⟨x7, σ7, H7, I7.unpinned, r7, q7⟩
end

/-! ### the forms one uses -/
/-- over a list that the body leaves as it is -/
theorem for_list {K : PySem.W.Frag} {a : Addr} {xs : List V} {g : TG} {tb : TS} {D : Ends} {σ : St} {H : Hp} (Pv : Nat → St → Hp → Prop) (h0 : Pv 0 σ H) (hl : ∀ i σ H, i ≤ xs.length → Pv i σ H → SqL K H a xs)
    (hs : ∀ i x σ H, xs[i]? = some x → Pv i σ H → g x σ H fun σ2 H2 => tb { D with nx := Pv (i + 1), ct := Pv (i + 1), bk := D.nx } σ2 H2) (hd : ∀ σ H, Pv xs.length σ H → D.nx σ H) :
    ∃ W : Nat → Nat → St → Hp → Prop, (∃ m, W 0 m σ H) ∧ ∀ i m σ H, W i m σ H →
      ((Itl K a).stop i H ∧ D.nx σ H) ∨ ((Itl K a).go i H ∧ ∃ N : St → Hp → Prop, (∀ σ' H', N σ' H' → ∃ m', m' < m ∧ W (i + 1) m' σ' H') ∧ ∀ x H', (Itl K a).yld i H x H' → g x σ H' fun σ2 H2 => tb { D with nx := N, ct := N, bk := D.nx } σ2 H2) := by
  refine ⟨fun i m σ H => m = xs.length - i ∧ i ≤ xs.length ∧ Pv i σ H, ⟨xs.length, by simp, Nat.zero_le _, h0⟩, ?_⟩
  rintro i m σ H ⟨rfl, hi, p⟩
  have q := hl i σ H hi p
  by_cases hlt : i < xs.length
  · refine .inr ⟨⟨xs, xs[i], q, by simp [hlt]⟩, Pv (i + 1), fun σ' H' p' => ⟨xs.length - (i + 1), by omega, rfl, hlt, p'⟩, fun x H' y => ?_⟩
    obtain ⟨e, y⟩ := y
    subst e
    exact hs i x σ _ (y xs q) p
  · have e : i = xs.length := by omega
    subst e
    exact .inl ⟨⟨xs, q, Nat.le_refl _⟩, hd σ H p⟩
theorem for_range {lo : Int} {n : Nat} {g : TG} {tb : TS} {D : Ends} {σ : St} {H : Hp} (Pv : Nat → St → Hp → Prop) (h0 : Pv 0 σ H)
    (hs : ∀ i σ H, i < n → Pv i σ H → g (.int (lo + i)) σ H fun σ2 H2 => tb { D with nx := Pv (i + 1), ct := Pv (i + 1), bk := D.nx } σ2 H2) (hd : ∀ σ H, Pv n σ H → D.nx σ H) :
    ∃ W : Nat → Nat → St → Hp → Prop, (∃ m, W 0 m σ H) ∧ ∀ i m σ H, W i m σ H →
      ((Itr lo n).stop i H ∧ D.nx σ H) ∨ ((Itr lo n).go i H ∧ ∃ N : St → Hp → Prop, (∀ σ' H', N σ' H' → ∃ m', m' < m ∧ W (i + 1) m' σ' H') ∧ ∀ x H', (Itr lo n).yld i H x H' → g x σ H' fun σ2 H2 => tb { D with nx := N, ct := N, bk := D.nx } σ2 H2) := by
  refine ⟨fun i m σ H => m = n - i ∧ i ≤ n ∧ Pv i σ H, ⟨n, by simp, Nat.zero_le _, h0⟩, ?_⟩
  rintro i m σ H ⟨rfl, hi, p⟩
  by_cases hlt : i < n
  · refine .inr ⟨hlt, Pv (i + 1), fun σ' H' p' => ⟨n - (i + 1), by omega, rfl, hlt, p'⟩, fun x H' y => ?_⟩
    obtain ⟨e, y⟩ := y
    subst e y
    exact hs i σ _ hlt p
  · have e : i = n := by omega
    subst e
    exact .inl ⟨Nat.le_refl _, hd σ H p⟩
end L2

namespace L2
open PySem PySem.Spec PyProof.Rows

abbrev R2 := V → V → Hp → VK → Prop
/-- a two-place operation on values: f is binaryOp op, inplaceOp op or compareOp op -/
def OpR (X : Cx) (f : Value → Value → Sem Value) (r : R2) : Prop :=
  ∀ (pins : List (Addr × Obj)) (s : Shared) (σ : St) (H : Hp) (x y : V) (v u : Value) (Q : VK), Inv X pins σ H s → RelV x v → RelV y u → r x y H Q →
    wpAny (model X.prog X.w) X.A (f v u) (EP X pins σ Q) X.xe s
/-- a call of a value that is known (a builtin, a type) with values -/
def CallR (X : Cx) (f : Value) (r : List V → Hp → VK → Prop) : Prop :=
  ∀ (pins : List (Addr × Obj)) (s : Shared) (σ : St) (H : Hp) (xs : List V) (us : List Value) (Q : VK), Inv X pins σ H s → Vals xs us → r xs H Q →
    wpAny (model X.prog X.w) X.A (call f us) (EP X pins σ Q) X.xe s
def tOp (r : R2) (ta tb : TE) : TE := fun σ H Q => ta σ H fun x H1 => tb σ H1 fun y H2 => r x y H2 Q
/-- ints in, under C, and a value out -/
def rI (C : Int → Int → Prop) (g : Int → Int → V) : R2 := fun x y H Q => ∃ i j, x = .int i ∧ y = .int j ∧ C i j ∧ Q (g i j) H
def rI0 (g : Int → Int → V) : R2 := fun x y H Q => ∃ i j, x = .int i ∧ y = .int j ∧ Q (g i j) H
section
variable {X : Cx} {a b c : Expr} {ta tb tc : TE} {pos : Pos}

theorem binT (ha : PE X a ta) (hb : PE X b tb) {pins : List (Addr × Obj)} {s : Shared} {σ : St} {H : Hp} {R : V → V → Hp → Prop} (I : Inv X pins σ H s)
    (h : ta σ H fun x H1 => tb σ H1 fun y H2 => R x y H2) {Q : Value → Shared → Prop} {f : Value → Value → Sem Value}
    (hf : ∀ v u s2 x y H2, Inv X pins σ H2 s2 → RelV x v → RelV y u → R x y H2 → wpAny (model X.prog X.w) X.A (f v u) Q X.xe s2) :
    wpAny (model X.prog X.w) X.A (eval a X.env) (fun v s₁ => wpAny (model X.prog X.w) X.A (eval b X.env) (fun u s₂ => wpAny (model X.prog X.w) X.A (f v u) Q X.xe s₂) X.xe s₁) X.xe s := by
  refine thn (ha pins s σ H _ I h) fun v s1 ⟨x, H1, I1, r1, q1⟩ => ?_
  refine thn (hb pins s1 σ H1 _ I1 q1) fun u s2 ⟨y, H2, I2, r2, q2⟩ => ?_
  exact hf v u s2 x y H2 I2 r1 r2 q2

theorem pe_op {op : Operator} {r : R2} (ho : OpR X (binaryOp op) r) (ha : PE X a ta) (hb : PE X b tb) : PE X (.BinOp a op b pos) (tOp r ta tb) := by
  intro pins s σ H Q I h
  exact wpAny_BinOp (binT ha hb I h fun v u s2 x y H2 I2 rx ry q => ho pins s2 σ H2 x y v u Q I2 rx ry q)
/-! ### ints -/
theorem opI {f : Value → Value → Sem Value} {C : Int → Int → Prop} {g : Int → Int → Int}
    (rule : ∀ (i j : Int) (t u : Tok) (s : Shared) (Q : Value → Shared → Prop) (E : Value → Shared → Prop), C i j → Q (.int (g i j) s.toks) { s with toks := s.toks + 1 } → wpAny (model X.prog X.w) X.A (f (.int i t) (.int j u)) Q E s) :
    OpR X f (rI C fun i j => .int (g i j)) := by
  intro pins s σ H x y v u Q I rx ry h
  obtain ⟨i, j, rfl, rfl, hc, q⟩ := h
  obtain ⟨t, rfl⟩ := rx
  obtain ⟨t', rfl⟩ := ry
  exact rule i j t t' s _ _ hc ⟨.int (g i j), H, I.tok _, ⟨_, rfl⟩, q⟩
theorem opI0 {f : Value → Value → Sem Value} {g : Int → Int → Int}
    (rule : ∀ (i j : Int) (t u : Tok) (s : Shared) (Q : Value → Shared → Prop) (E : Value → Shared → Prop), Q (.int (g i j) s.toks) { s with toks := s.toks + 1 } → wpAny (model X.prog X.w) X.A (f (.int i t) (.int j u)) Q E s) :
    OpR X f (rI0 fun i j => .int (g i j)) := by
  intro pins s σ H x y v u Q I rx ry h
  obtain ⟨i, j, rfl, rfl, q⟩ := h
  obtain ⟨t, rfl⟩ := rx
  obtain ⟨t', rfl⟩ := ry
  exact rule i j t t' s _ _ ⟨.int (g i j), H, I.tok _, ⟨_, rfl⟩, q⟩
theorem opB0 {f : Value → Value → Sem Value} {g : Int → Int → Bool}
    (rule : ∀ (i j : Int) (t u : Tok) (s : Shared) (Q : Value → Shared → Prop) (E : Value → Shared → Prop), Q (.bool (g i j)) s → wpAny (model X.prog X.w) X.A (f (.int i t) (.int j u)) Q E s) :
    OpR X f (rI0 fun i j => .bl (g i j)) := by
  intro pins s σ H x y v u Q I rx ry h
  obtain ⟨i, j, rfl, rfl, q⟩ := h
  obtain ⟨t, rfl⟩ := rx
  obtain ⟨t', rfl⟩ := ry
  exact rule i j t t' s _ _ ⟨.bl (g i j), H, I, rfl, q⟩

def CMul (i j : Int) : Prop := (-(2 ^ 64) < i ∧ i < 2 ^ 64) ∨ (-(2 ^ 64) < j ∧ j < 2 ^ 64)
theorem CMul.ok {i j : Int} (h : CMul i j) : IntMulOk i j := by
  rcases h with ⟨h1, h2⟩ | ⟨h1, h2⟩
  · exact .of_left (intBits_le_64 h1 h2)
  · exact .of_right (intBits_le_64 h1 h2)
theorem op_add : OpR X (binaryOp .Add) (rI0 fun i j => .int (i + j)) := opI0 fun _ _ _ _ _ _ _ q => add_int q
theorem op_sub : OpR X (binaryOp .Sub) (rI0 fun i j => .int (i - j)) := opI0 fun _ _ _ _ _ _ _ q => sub_int q
/-- % by a positive divisor of any size -/
theorem op_mod : OpR X (binaryOp .Mod) (rI (fun _ j => 0 < j) fun i j => .int (i % j)) := opI fun i j _ _ _ _ _ hc q => by
  have h1 : (0 : Int) < j := hc
  exact mod_int' (by omega) (by rw [Int.fmod_eq_emod_of_nonneg i (by omega)]; exact q)
/-! ### bools among ints: n += (a < b) -/
end

/-! ### comparisons -/
/-- the scalars that == tells apart as data does -/
def scal : V → V → Bool
  | .non, .non => true | .non, .int _ => true | .int _, .non => true | .non, .bl _ => true | .bl _, .non => true | .non, .str _ => true | .str _, .non => true
  | .int _, .int _ => true | .bl _, .bl _ => true | .str _, .str _ => true | .byt _, .byt _ => true
  | .int _, .str _ => true | .str _, .int _ => true | .bl _, .str _ => true | .str _, .bl _ => true
  | _, _ => false
def rEq : R2 := fun x y H Q => scal x y = true ∧ Q (.bl (decide (x = y))) H
def rNe : R2 := fun x y H Q => scal x y = true ∧ Q (.bl (!decide (x = y))) H

theorem dec_int {i j : Int} : decide (V.int i = V.int j) = (i == j) := by
  rw [Bool.eq_iff_iff]
  simp
theorem dec_bl {i j : Bool} : decide (V.bl i = V.bl j) = (i == j) := by
  rw [Bool.eq_iff_iff]
  simp
theorem dec_str {i j : Str} : decide (V.str i = V.str j) = (i == j) := by
  rw [Bool.eq_iff_iff]
  simp
theorem dec_byt {i j : Array UInt8} : decide (V.byt i = V.byt j) = (i.toList == j.toList) := by
  rw [Bool.eq_iff_iff]
  cases i
  cases j
  simp

section
variable {X : Cx} {a b c : Expr} {ta tb tc : TE} {pos : Pos}
theorem fin_bl {pins : List (Addr × Obj)} {σ : St} {H : Hp} {s : Shared} {Q : VK} {k k' : Bool} (I : Inv X pins σ H s) (q : Q (.bl k) H) (e : k = k') : EP X pins σ Q (.bool k') s := by
  subst e
  exact ⟨.bl k, H, I, rfl, q⟩
theorem op_eq : OpR X (compareOp .Eq) rEq := by
  intro pins s σ H x y v u Q I rx ry h
  obtain ⟨hs, q⟩ := h
  cases x with
  | non =>
    cases rx
    cases y with
    | non => cases ry; exact PySem.EqNone.eq_none_none (fin_bl I q (by simp))
    | bl j => cases ry; exact PySem.EqNone.eq_none_bool (fin_bl I q (by simp))
    | int j => obtain ⟨t', rfl⟩ := ry; exact PySem.EqNone.eq_none_int (fin_bl I q (by simp))
    | str j => obtain ⟨t', rfl⟩ := ry; exact PySem.EqNone.eq_none_str (fin_bl I q (by simp))
    | _ => exact absurd (show false = true from hs) Bool.false_ne_true
  | bl i =>
    cases rx
    cases y with
    | non => cases ry; exact PySem.EqNone.eq_bool_none (fin_bl I q (by simp))
    | bl j => cases ry; exact eq_bool (fin_bl I q dec_bl)
    | str j => obtain ⟨t', rfl⟩ := ry; exact PySem.EqMixed.eq_bool_str (fin_bl I q (by simp))
    | _ => exact absurd (show false = true from hs) Bool.false_ne_true
  | int i =>
    obtain ⟨t, rfl⟩ := rx
    cases y with
    | non => cases ry; exact PySem.EqNone.eq_int_none (fin_bl I q (by simp))
    | int j => obtain ⟨t', rfl⟩ := ry; exact eq_int (fin_bl I q dec_int)
    | str j => obtain ⟨t', rfl⟩ := ry; exact PySem.EqMixed.eq_int_str (fin_bl I q (by simp))
    | _ => exact absurd (show false = true from hs) Bool.false_ne_true
  | str i =>
    obtain ⟨t, rfl⟩ := rx
    cases y with
    | non => cases ry; exact PySem.EqNone.eq_str_none (fin_bl I q (by simp))
    | bl j => cases ry; exact PySem.EqMixed.eq_str_bool (fin_bl I q (by simp))
    | int j => obtain ⟨t', rfl⟩ := ry; exact PySem.EqMixed.eq_str_int (fin_bl I q (by simp))
    | str j => obtain ⟨t', rfl⟩ := ry; exact eq_str (fin_bl I q dec_str)
    | _ => exact absurd (show false = true from hs) Bool.false_ne_true
  | byt i =>
    obtain ⟨t, rfl⟩ := rx
    cases y with
    | byt j => obtain ⟨t', rfl⟩ := ry; exact PySem.W.eq_bytes (fin_bl I q dec_byt)
    | _ => exact absurd (show false = true from hs) Bool.false_ne_true
  | _ => cases y <;> exact absurd (show false = true from hs) Bool.false_ne_true
theorem op_ne : OpR X (compareOp .NotEq) rNe := by
  intro pins s σ H x y v u Q I rx ry h
  obtain ⟨hs, q⟩ := h
  cases x with
  | non =>
    cases rx
    cases y with
    | non => cases ry; exact PySem.EqNone.ne_none_none (fin_bl I q (by simp))
    | bl j => cases ry; exact PySem.EqNone.ne_none_bool (fin_bl I q (by simp))
    | int j => obtain ⟨t', rfl⟩ := ry; exact PySem.EqNone.ne_none_int (fin_bl I q (by simp))
    | str j => obtain ⟨t', rfl⟩ := ry; exact PySem.EqNone.ne_none_str (fin_bl I q (by simp))
    | _ => exact absurd (show false = true from hs) Bool.false_ne_true
  | bl i =>
    cases rx
    cases y with
    | non => cases ry; exact PySem.EqNone.ne_bool_none (fin_bl I q (by simp))
    | bl j => cases ry; exact ne_bool (fin_bl I q (congrArg not dec_bl))
    | str j => obtain ⟨t', rfl⟩ := ry; exact PySem.EqMixed.ne_bool_str (fin_bl I q (by simp))
    | _ => exact absurd (show false = true from hs) Bool.false_ne_true
  | int i =>
    obtain ⟨t, rfl⟩ := rx
    cases y with
    | non => cases ry; exact PySem.EqNone.ne_int_none (fin_bl I q (by simp))
    | int j => obtain ⟨t', rfl⟩ := ry; exact ne_int (fin_bl I q (congrArg not dec_int))
    | str j => obtain ⟨t', rfl⟩ := ry; exact PySem.EqMixed.ne_int_str (fin_bl I q (by simp))
    | _ => exact absurd (show false = true from hs) Bool.false_ne_true
  | str i =>
    obtain ⟨t, rfl⟩ := rx
    cases y with
    | non => cases ry; exact PySem.EqNone.ne_str_none (fin_bl I q (by simp))
    | bl j => cases ry; exact PySem.EqMixed.ne_str_bool (fin_bl I q (by simp))
    | int j => obtain ⟨t', rfl⟩ := ry; exact PySem.EqMixed.ne_str_int (fin_bl I q (by simp))
    | str j => obtain ⟨t', rfl⟩ := ry; exact ne_str (fin_bl I q (congrArg not dec_str))
    | _ => exact absurd (show false = true from hs) Bool.false_ne_true
  | byt i =>
    obtain ⟨t, rfl⟩ := rx
    cases y with
    | byt j => obtain ⟨t', rfl⟩ := ry; exact PySem.W.ne_bytes (fin_bl I q (congrArg not dec_byt))
    | _ => exact absurd (show false = true from hs) Bool.false_ne_true
  | _ => cases y <;> exact absurd (show false = true from hs) Bool.false_ne_true

theorem op_lt : OpR X (compareOp .Lt) (rI0 fun i j => .bl (decide (i < j))) := opB0 fun _ _ _ _ _ _ _ q => lt_int q
theorem op_gt : OpR X (compareOp .Gt) (rI0 fun i j => .bl (decide (j < i))) := opB0 fun _ _ _ _ _ _ _ q => gt_int q
/-- two rules for one operation: by cases -/
theorem OpR.or {f : Value → Value → Sem Value} {r r' : R2} (h : OpR X f r) (h' : OpR X f r') : OpR X f (fun x y H Q => r x y H Q ∨ r' x y H Q) := by
  intro pins s σ H x y v u Q I rx ry q
  rcases q with q | q
  · exact h pins s σ H x y v u Q I rx ry q
  · exact h' pins s σ H x y v u Q I rx ry q

theorem nomark (b : Expr) {op : CmpOp} (h : op ≠ .In := by decide) (h2 : op ≠ .NotIn := by decide) : behindInMarks op b = false := by
  have e1 : (op == CmpOp.In) = false := by cases op <;> first | rfl | exact absurd rfl h
  have e2 : (op == CmpOp.NotIn) = false := by cases op <;> first | rfl | exact absurd rfl h2
  cases b <;> simp [behindInMarks, e1, e2]
/-- a comparison as a value; hm: nomark b, or (for in, not in) by with_unfolding_all rfl -/
theorem pe_cmpR {op : CmpOp} {r : R2} (ho : OpR X (compareOp op) r) (ha : PE X a ta) (hb : PE X b tb) (hm : behindInMarks op b = false) : PE X (.Compare a [op] [b] pos) (tOp r ta tb) := by
  intro pins s σ H Q I h
  exact wpAny_Compare1 (binT ha hb I h fun v u s2 x y H2 I2 rx ry q => ho pins s2 σ H2 x y v u Q I2 rx ry q) hm
/-- a reading of a value as a test -/
def tTest (t : TE) : TT := fun σ H Q => t σ H fun x H' => ∃ k, x = .bl k ∧ Q k H'
theorem pt_cmpR {op : CmpOp} {r : R2} (ho : OpR X (compareOp op) r) (ha : PE X a ta) (hb : PE X b tb) (hm : behindInMarks op b = false) : PT X (.Compare a [op] [b] pos) (tTest (tOp r ta tb)) := by
  intro pins s σ H Q I h
  refine wpAny_isTrue_Compare1 (thn (ha pins s σ H _ I h) fun v s1 ⟨x, H1, I1, r1, q1⟩ => thn (hb pins s1 σ H1 _ I1 q1) fun u s2 ⟨y, H2, I2, r2, q2⟩ =>
    thn (ho pins s2 σ H2 x y v u _ I2 r1 r2 q2) fun c s3 ⟨z, H3, I3, r3, k, e, q3⟩ => ?_) hm
  subst e
  cases r3
  exact wpAny_truthy_bool ⟨H3, I3, q3⟩
/-! ### truth -/
theorem line63 : (sizeLine : Nat) < 2 ^ 63 := by rw [sizeLine_eq]; decide
/-! ### strs and bytes -/
theorem op_add_str : OpR X (binaryOp .Add) (fun x y H Q => ∃ i j, x = .str i ∧ y = .str j ∧ i.length + j.length ≤ sizeLine ∧ Q (.str (i ++ j)) H) := by
  intro pins s σ H x y v u Q I rx ry h
  obtain ⟨i, j, rfl, rfl, hz, q⟩ := h
  obtain ⟨t, rfl⟩ := rx
  obtain ⟨t', rfl⟩ := ry
  exact add_str (fun t' tk => ⟨.str (i ++ j), H, I.tok _, ⟨_, rfl⟩, q⟩) hz
/-! ### scalar builtins, by CallR -/
theorem vals1 {x : V} {us : List Value} (r : Vals [x] us) : ∃ u, us = [u] ∧ RelV x u := by
  cases r with
  | cons r1 r2 => cases r2; exact ⟨_, rfl, r1⟩
theorem vals2 {x y : V} {us : List Value} (r : Vals [x, y] us) : ∃ u w', us = [u, w'] ∧ RelV x u ∧ RelV y w' := by
  cases r with
  | cons r1 r2 =>
    cases r2 with
    | cons r3 r4 => cases r4; exact ⟨_, _, rfl, r1, r3⟩
theorem call_min2 (hc : X.calm = true) : CallR X (.builtin "min") (fun xs H Q => ∃ i j, xs = [.int i, .int j] ∧ Q (.int (if j < i then j else i)) H) := by
  intro pins s σ H xs us Q I r h
  obtain ⟨i, j, rfl, q⟩ := h
  obtain ⟨u, w', rfl, ⟨t, rfl⟩, ⟨t', rfl⟩⟩ := vals2 r
  refine min_two_ints (I.ok.hd hc) fun h' tk k => ⟨_, H, I.kept k, ?_, q⟩
  by_cases hj : j < i
  · rw [if_pos hj, if_pos hj]; exact ⟨_, rfl⟩
  · rw [if_neg hj, if_neg hj]; exact ⟨_, rfl⟩
theorem call_int1 : CallR X (.type "int") (fun xs H Q => (∃ i, xs = [.int i] ∧ Q (.int i) H) ∨ ∃ k, xs = [.bl k] ∧ Q (.int (if k then 1 else 0)) H) := by
  intro pins s σ H xs us Q I r h
  rcases h with ⟨i, rfl, q⟩ | ⟨k, rfl, q⟩
  · obtain ⟨u, rfl, t, rfl⟩ := vals1 r
    exact call_int_int ⟨.int i, H, I, ⟨_, rfl⟩, q⟩
  · obtain ⟨u, rfl, r1⟩ := vals1 r
    cases r1
    exact call_int_bool ⟨.int (if k then 1 else 0), H, I.tok _, ⟨_, rfl⟩, q⟩
end
end L2

namespace L2
open PySem PySem.Spec PyProof.Rows

/-! ### an instance, its attributes a map -/
structure ObjM (h : Heap) (x dx C : Addr) (mA : Str → Option Value) : Prop where
  obj : h.get? x = some (PySem.W.instObj C dx)
  ns : h.Ns1 dx mA
  ne : dx ≠ x

theorem lookIn_ns {h : Heap} {dx : Addr} {mA : Str → Option Value} (n : h.Ns1 dx mA) : ∃ od, h.get? dx = some od ∧ ∀ name, PySem.W.lookIn name od = some (mA name) := by
  obtain ⟨o, es, ep, ho, hd, hk, _, hm⟩ := n
  refine ⟨o, ho, fun name => ?_⟩
  have e := hm name
  unfold nsFind findBy at e
  rw [← Array.find?_toList] at e
  unfold PySem.W.lookIn
  rw [hd]
  dsimp only
  split
  · rename_i y q
    rw [q] at e
    exact congrArg some e
  · rename_i q
    rw [q] at e
    have a : es.toList.any (·.refKey) = false := by
      rw [List.any_eq_false]
      intro y hy
      obtain ⟨z, t, hkey⟩ := hk y (Array.mem_toList_iff.mp hy)
      simp [DictEntry.refKey, hkey]
    have a' : ¬ es.toList.any (·.refKey) = true := by rw [a]; exact Bool.false_ne_true
    rw [if_neg a']
    exact congrArg some e

theorem ObjM.look {h : Heap} {x dx C : Addr} {mA : Str → Option Value} (I : ObjM h x dx C mA) : ∃ od, PySem.W.InstAt h x (PySem.W.instObj C dx) C (some od) ∧ ∀ name, PySem.W.lookIn name od = some (mA name) :=
  let ⟨od, ho, hl⟩ := lookIn_ns I.ns
  ⟨od, ⟨I.obj, rfl, rfl, ho⟩, hl⟩

section
variable {prog : Program} {w : World} {A : Around} {E : Value → Shared → Prop} {s : Shared} {K : PySem.W.Frag} {x dx C f : Addr} {mA : Str → Option Value} {name : Str} {v : Value}

end

/-! ### the attributes as a list of pairs -/
def putF (f : Str) (v : V) : List (Str × V) → List (Str × V)
  | [] => [(f, v)]
  | (g, x) :: r => if g = f then (g, v) :: r else (g, x) :: putF f v r
section
variable {P : Program} {w : World} {H H' : Hp} {h h' : Heap} {a C dx : Addr} {fs fs' : List (Str × V)}
theorem ins_get (hok : HOk P w H h) (e : H a = some (.ins C dx fs)) : ∃ mA, ObjM h a dx C mA ∧ (∀ f, RelO (fs.lookup f) (mA f)) ∧ PySem.Within mA (fs.map (·.1)) ∧ fs.length ≤ 1000 ∧ H dx = some (.own a) := by
  obtain ⟨d, z, ne, ob, mA, n, r, q⟩ := (show ObjOk P w H h a (.ins C dx fs) from hok a _ e)
  exact ⟨mA, ⟨ob, n, ne⟩, r, q, z, d⟩
end

/-! ### what of the text a class must have -/
structure Cls (K : PySem.W.Frag) (C : Addr) : Prop where
  pg : PySem.W.plainGet K C Str.empty = true
  hd : PySem.W.hasDictIn K C = true
  po : PySem.W.plainOver K C = true
  sa : PySem.W.findIn K (.ref C) "__setattr__" = some (some (.builtin "object.__setattr__"))
theorem Cls.get {K : PySem.W.Frag} {C : Addr} (c : Cls K C) (f : Str) : PySem.W.plainGet K C f = true := c.pg
/-- a method: a plain def of the class or of one above it -/
structure Meth (K : PySem.W.Frag) (C : Addr) (m : Str) (f : Addr) : Prop where
  at_ : PySem.W.findIn K (.ref C) m = some (some (.ref f))
  fn : PySem.W.isFn K (.ref f) = true
  kp : PySem.W.keepIn K (.ref f) = true

section
variable {X : Cx} {pins : List (Addr × Obj)} {σ : St} {H : Hp} {s : Shared} {a C dx : Addr} {fs : List (Str × V)} {f : Str} {v : V} {A : Around} {E : Value → Shared → Prop}

/-- a new instance, tracked, without attributes -/
theorem Inv.made (I : Inv X pins σ H s) : Inv X pins σ (upd (upd H s.heap.objs.size (.own (s.heap.objs.size + 1))) (s.heap.objs.size + 1) (.ins C s.heap.objs.size []))
    { s with heap := (s.heap.push PySem.W.emptyDict).push (PySem.W.instObj C s.heap.objs.size) } := by
  have e1 : (s.heap.push PySem.W.emptyDict).get? s.heap.objs.size = some PySem.W.emptyDict := Heap.get?_push_size s.heap rfl
  have e2 : ((s.heap.push PySem.W.emptyDict).push (PySem.W.instObj C s.heap.objs.size)).get? (s.heap.objs.size + 1) = some (PySem.W.instObj C s.heap.objs.size) := by
    have := Heap.get?_push_size (s.heap.push PySem.W.emptyDict) (o := PySem.W.instObj C s.heap.objs.size) rfl
    rwa [Heap.size_push] at this
  have e3 : (s.heap.push PySem.W.emptyDict).Ns s.heap.objs.size (fun _ => none) := ⟨PySem.W.emptyDict, #[], _, e1, rfl, (fun e he => absurd he (by simp)), fun _ => rfl⟩
  have I1 := I.laid (a := s.heap.objs.size) (o := .own (s.heap.objs.size + 1)) (h' := s.heap.push PySem.W.emptyDict) (t' := s.toks) (fun b u q => Heap.get?_push_of_some _ q) (Nat.le_refl _) ⟨_, e1⟩
  refine I1.laid (a := s.heap.objs.size + 1) (o := .ins C s.heap.objs.size []) (t' := s.toks) (fun b u q => Heap.get?_push_of_some _ q) (Nat.le_of_eq (Heap.size_push _ _)) ?_
  have ne : s.heap.objs.size ≠ s.heap.objs.size + 1 := Nat.ne_of_lt (Nat.lt_succ_self _)
  refine ⟨by rw [upd_ne ne, upd_same], Nat.zero_le _, ne, e2, fun _ => none, (Heap.Ns1.of_empty e3).at fun o q => Heap.get?_push_of_some _ q, fun _ => True.intro, fun y hy => absurd rfl hy⟩

end

/-! ### readings and rules -/
section
variable {X : Cx} {o e value : Expr} {f : Str} {pos pos' tpos : Pos} {ta tv : TE}
end

/-! ### isinstance -/
section
variable {X : Cx} {pins : List (Addr × Obj)} {σ : St} {H : Hp} {s : Shared} {A : Around} {E : Value → Shared → Prop} {Q : Value → Shared → Prop} {c : Value} {b : Bool}
/-- the type of a value, as the fragment's deciders take it; for an instance its class -/
inductive TyOf (K : PySem.W.Frag) (H : Hp) : V → Value → Prop where
  | non : TyOf K H .non (.type "NoneType")
  | bl (x : Bool) : TyOf K H (.bl x) (.type "bool")
  | int (i : Int) : TyOf K H (.int i) (.type "int")
  | str (x : Str) : TyOf K H (.str x) (.type "str")
  | flt (x : UInt64) : TyOf K H (.flt x) (.type "float")
  | lst {a : Addr} {xs : List V} (e : H a = some (.lst xs)) : TyOf K H (.ref a) (.type "list")
  | frz {a : Addr} {o : Obj} {xs : List V} (e : H a = some (.frz o (.lst xs))) : TyOf K H (.ref a) (.type "list")
  | tup {a : Addr} {xs : List V} (e : H a = some (.tup xs)) : TyOf K H (.ref a) (.type "tuple")
  | dK {a : Addr} {kvs : List (Key × V)} (e : H a = some (.dK kvs)) : TyOf K H (.ref a) (.type "dict")
  | dT {a : Addr} {kvs : List (List Key × V)} (e : H a = some (.dT kvs)) : TyOf K H (.ref a) (.type "dict")
  | ins {a C dx : Addr} {fs : List (Str × V)} (e : H a = some (.ins C dx fs)) (cl : Cls K C) (ha : PySem.W.findIn K (.ref C) "__class__" = some (some (.builtin "object.__class__")))
      (hn : PySem.W.specialIn K (.builtin "object.__class__") "__get__" = some (some (.builtin "getset_descriptor.__get__"))) (htk : PySem.W.takesIn K (.builtin "object.__class__") = some true)
      (hm : PySem.W.mroIn K C (.type "object") = some true) : TyOf K H (.ref a) (.ref C)
/-- isinstance(x, c) for one class c, a built-in or an own one: kitOne's answer -/
theorem isinst_ok {x : V} {u t : Value} (I : Inv X pins σ H s) (rx : RelV x u) (ty : TyOf X.K H x t) (e : PySem.W.kitOne X.K t c = some b) (h : ∀ tk, Q (.bool b) { s with toks := tk }) :
    wpAny (model X.prog X.w) A (call (.builtin "isinstance") [u, c]) Q E s := by
  cases ty with
  | non => cases (show u = Value.none from rx); exact PySem.W.kia_one PySem.W.kitx_none I.kIn True.intro e (fun z => nomatch z) h
  | bl y => cases (show u = Value.bool y from rx); exact PySem.W.kia_one PySem.W.kitx_bool I.kIn True.intro e (fun z => nomatch z) h
  | int i => obtain ⟨t, q⟩ := (show ∃ t, u = Value.int i t from rx); cases q; exact PySem.W.kia_one PySem.W.kitx_int I.kIn True.intro e (fun z => nomatch z) h
  | str y => obtain ⟨t, q⟩ := (show ∃ t, u = Value.str y t from rx); cases q; exact PySem.W.kia_one PySem.W.kitx_str I.kIn True.intro e (fun z => nomatch z) h
  | flt y => obtain ⟨t, q⟩ := (show ∃ t, u = Value.float y t from rx); cases q; exact PySem.W.kia_one PySem.W.kitx_float I.kIn True.intro e (fun z => nomatch z) h
  | @lst a xs ea =>
    cases (show u = Value.ref a from rx)
    obtain ⟨_, _, n, _, h1⟩ := (show ObjOk X.prog X.w H s.heap a (.lst xs) from I.hok a _ ea)
    exact PySem.W.kia_one PySem.W.kitx_list I.kIn ⟨_, h1, rfl⟩ e (fun z => nomatch z) h
  | @frz a ob xs ea =>
    cases (show u = Value.ref a from rx)
    obtain ⟨_, _, _, n, _, h1⟩ := (show ObjOk X.prog X.w H s.heap a (.frz ob (.lst xs)) from I.hok a _ ea)
    exact PySem.W.kia_one PySem.W.kitx_list I.kIn ⟨_, h1, rfl⟩ e (fun z => nomatch z) h
  | @tup a xs ea =>
    cases (show u = Value.ref a from rx)
    obtain ⟨_, _, _, p⟩ := (show ObjOk X.prog X.w H s.heap a (.tup xs) from I.hok a _ ea)
    obtain ⟨o, h1, h2, _⟩ := p
    exact PySem.W.kia_one PySem.W.kitx_tuple I.kIn ⟨o, h1, h2⟩ e (fun z => nomatch z) h
  | @dK a kvs ea =>
    cases (show u = Value.ref a from rx)
    obtain ⟨_, _, vs, _, p⟩ := (show ObjOk X.prog X.w H s.heap a (.dK kvs) from I.hok a _ ea)
    obtain ⟨o, es, ep, h1, h2, _⟩ := p
    exact PySem.W.kia_one PySem.W.kitx_dict I.kIn ⟨o, h1, h2.1⟩ e (fun z => nomatch z) h
  | @dT a kvs ea =>
    cases (show u = Value.ref a from rx)
    obtain ⟨_, _, xs, _, o, es, ep, h1, h2, _⟩ := (show ObjOk X.prog X.w H s.heap a (.dT kvs) from I.hok a _ ea)
    exact PySem.W.kia_one PySem.W.kitx_dict I.kIn ⟨o, h1, h2.1⟩ e (fun z => nomatch z) h
  | @ins a C dx fs ea cl ha hn htk hm =>
    cases (show u = Value.ref a from rx)
    obtain ⟨mA, O, _⟩ := ins_get I.hok ea
    obtain ⟨od, J, _⟩ := O.look
    exact PySem.W.kia_one (PySem.W.kitx_own (cl.get _) cl.hd ha hn htk hm) I.kIn J e (fun z => nomatch z) h
end
end L2

namespace L2
open PySem PySem.Spec PyProof.Rows

/-! ### room -/
structure Room (k : Nat) (A : Around) : Prop where
  hd : A.handled = none
  dp : A.depth + 3 * k + 5 < recursionLimit
  un : A.units + 16 * k + 200 < cLine
theorem Room.mono {j k : Nat} {A : Around} (r : Room k A) (h : j ≤ k) : Room j A := ⟨r.hd, by have := r.dp; omega, by have := r.un; omega⟩
theorem Room.deeper {k : Nat} {A : Around} (r : Room (k + 1) A) (env : Env) : Room k (A.deeper env) :=
  ⟨r.hd, by have := r.dp; show A.depth + 1 + 3 * k + 5 < _; omega, by have := r.un; show A.units + 3 + 16 * k + 200 < _; omega⟩
theorem make_depth {A : Around} {C : Addr} {us : List Value} {kw : List (Str × Value)} : (A.under (.builtin "type.__call__" ⟨.ref C :: us, kw⟩)).depth = A.depth + 1 := by
  first | rfl | simp [Around.under, Code.weight, Code.isCreation, Code.isGuard, Code.isCaller, Code.frames, Code.isFrame, guardIds]
theorem make_units {A : Around} {C : Addr} {us : List Value} {kw : List (Str × Value)} : (A.under (.builtin "type.__call__" ⟨.ref C :: us, kw⟩)).units = A.units + 1 := by
  first | rfl | simp [Around.under, Code.cUnits, Code.frames, Code.isFrame]
theorem Room.make {k : Nat} {A : Around} (r : Room (k + 1) A) (C : Addr) (us : List Value) (kw : List (Str × Value)) : Room k (A.under (.builtin "type.__call__" ⟨.ref C :: us, kw⟩)) :=
  ⟨r.hd, by have := r.dp; rw [make_depth]; omega, by have := r.un; rw [make_units]; omega⟩
theorem Room.depth {k : Nat} {A : Around} (r : Room k A) : A.depth < recursionLimit := by have := r.dp; omega
theorem Room.units {k : Nat} {A : Around} (r : Room k A) : A.units + 64 < cLine := by have := r.un; omega
/-! ### argument lists and displays -/
def tNil : TA := fun _ H Q => Q [] H
def tCons (ta : TE) (tr : TA) : TA := fun σ H Q => ta σ H fun x H1 => tr σ H1 fun xs H2 => Q (x :: xs) H2
section
variable {X : Cx} {e : Expr} {es : List Expr} {te : TE} {t : TA} {pos : Pos}
theorem pa_nil : PA X [] tNil := fun _ _ _ _ H Q I h => Calls.spliced_nil ⟨[], H, I, .nil, h⟩
theorem pa_cons (ha : PE X e te) (hr : PA X es t) (hs : starEach (e :: es) X.env = (false, eval e X.env) :: starEach es X.env := by rfl) : PA X (e :: es) (tCons te t) := by
  intro pos pins s σ H Q I h
  rw [hs]
  show wpAny _ _ (spliced ((false, eval e X.env) :: backTo pos (starEach es X.env))) _ _ s
  refine Calls.spliced_cons (thn (ha pins s σ H _ I h) fun u s1 ⟨x, H1, I1, r1, q1⟩ => ?_)
  exact thn (hr pos pins s1 σ H1 _ I1 q1) fun us s2 ⟨xs, H2, I2, r2, q2⟩ => ⟨x :: xs, H2, I2, .cons r1 r2, q2⟩

end

/-! ### what a def promises -/
/-- a def's promise: the bound arguments in the parameters' order, the heap, the wanted end, the wanted exception -/
abbrev Sp := List V → Hp → VK → XK → Prop
/-- how an exception lies behind a call (file 08 gives it): the callers' frames, abstract heap and state ahead of the call, the wish, the exception, the state -/
abbrev CXT := List Env → Hp → Shared → XK → Value → Shared → Prop

/-- the state at a call -/
structure Env0 (P : Program) (w : World) (K : PySem.W.Frag) (mg : Str → Option Value) (base : Heap) (A : Around) (outer : List Env) (s : Shared) (H : Hp) : Prop where
  frames : A.frames = some outer
  mod : Mod K mg base
  bs : ∀ b o, base.get? b = some o → s.heap.get? b = some o ∧ H b = none
  bsz : base.objs.size ≤ s.heap.objs.size
  funs : s.heap.FunFrames base outer
  frf : ∀ b ∈ frs outer, H b = none
  hok : HOk P w H s.heap
  bare : AllBare s.gens
/-- a call's end -/
def CE (outer : List Env) (P : Program) (w : World) (H : Hp) (s : Shared) (Q : VK) (u : Value) (s' : Shared) : Prop :=
  ∃ v H', s'.os = s.os ∧ AllBare s'.gens ∧ Un (frs outer) [] H H' s.heap s'.heap ∧ HOk P w H' s'.heap ∧ RelV v u ∧ Q v H'
def CR (CX : CXT) (outer : List Env) (P : Program) (w : World) (H : Hp) (s : Shared) (Q : VK) (E : XK) (r : Result) (s' : Shared) : Prop :=
  match r with
  | .ok (.ret u) => CE outer P w H s Q u s'
  | .ok _ => False
  | .error e => CX outer H s E e s'
structure FnOk (P : Program) (w : World) (K : PySem.W.Frag) (mg : Str → Option Value) (base : Heap) (CX : CXT) (k : Nat) (f : Addr) (fd : FuncData) (ps : List Str) (sp : Sp) : Prop where
  len : ∀ vs H Q E, sp vs H Q E → vs.length = ps.length
  run : ∀ (A : Around) (outer : List Env) (s : Shared) (H : Hp) (args : Args) (us : List Value) (vs : List V) (Q : VK) (E : XK), Room k A → Env0 P w K mg base A outer s H → BindsTo s fd args (ps.zip us) → Vals vs us → sp vs H Q E →
    codeAny (model P w) A (.call (.ref f) args) (CR CX outer P w H s Q E) s
theorem FnOk.mono {P : Program} {w : World} {K : PySem.W.Frag} {mg : Str → Option Value} {base : Heap} {CX : CXT} {j k : Nat} {f : Addr} {fd : FuncData} {ps : List Str} {sp : Sp} (F : FnOk P w K mg base CX j f fd ps sp) (h : j ≤ k) :
    FnOk P w K mg base CX k f fd ps sp := ⟨F.len, fun A outer s H args us vs Q E hr => F.run A outer s H args us vs Q E (hr.mono h)⟩
/-- a weaker promise -/
theorem FnOk.imp {P : Program} {w : World} {K : PySem.W.Frag} {mg : Str → Option Value} {base : Heap} {CX : CXT} {k : Nat} {f : Addr} {fd : FuncData} {ps : List Str} {sp sp' : Sp} (F : FnOk P w K mg base CX k f fd ps sp)
    (h : ∀ vs H Q E, sp' vs H Q E → sp vs H Q E) : FnOk P w K mg base CX k f fd ps sp' :=
  ⟨fun vs H Q E q => F.len vs H Q E (h _ _ _ _ q), fun A outer s H args us vs Q E hr he hb hv hs => F.run A outer s H args us vs Q E hr he hb hv (h _ _ _ _ hs)⟩

theorem Env0.make {P : Program} {w : World} {K : PySem.W.Frag} {mg : Str → Option Value} {base : Heap} {A : Around} {outer : List Env} {s : Shared} {H : Hp} (e : Env0 P w K mg base A outer s H) (C : Addr) (us : List Value) (kw : List (Str × Value)) :
    Env0 P w K mg base (A.under (.builtin "type.__call__" ⟨.ref C :: us, kw⟩)) outer s H := ⟨by first | exact e.frames | (simpa [Around.under, Code.envs, Code.isFrame, pushEnvs] using e.frames), e.mod, e.bs, e.bsz, e.funs, e.frf, e.hok, e.bare⟩
section
variable {X : Cx} {pins : List (Addr × Obj)} {σ : St} {H : Hp} {s s' : Shared}
/-- from a body: what a callee wants -/
theorem Inv.env0 (I : Inv X pins σ H s) : Env0 X.prog X.w X.K X.mg X.base X.A X.stack s H :=
  ⟨I.ok.frames, I.ok.mod, I.bs, Nat.le_trans I.ok.bsz I.sz, I.stack, I.stkFree, I.hok, I.bare⟩
/-- behind a call -/
theorem Inv.after {Q : VK} {u : Value} (I : Inv X pins σ H s) (h : CE X.stack X.prog X.w H s Q u s') : EP X pins σ Q u s' := by
  obtain ⟨v, H', os, bare, un, hok, r, q⟩ := h
  obtain ⟨hh, g, d, t, os'⟩ := s'
  obtain rfl : os' = s.os := os
  exact ⟨v, H', I.call (h' := hh) (g' := g) (d' := d) (t' := t) (ch := []) un hok bare (fun b z => absurd z (by simp)), r, q⟩
end

/-! ### calls -/
/-- f(..): the written arguments, then the defaults dvs; E: what is wanted of an exception -/
def tCall (sp : Sp) (dvs : List V) (E : XK) (t : TA) : TE := fun σ H Q => t σ H fun vs H1 => sp (vs ++ dvs) H1 Q E
/-- how the parameters are bound: us the positional arguments, kw the keywords' values by name, ds the defaults that fill up -/
def Binds (K : PySem.W.Frag) (fd : FuncData) (ps : List Str) (ds : List Value) : Prop :=
  ∀ (s : Shared) (us : List Value), K.In s.heap → (us ++ ds).length = ps.length → BindsTo s fd ⟨us, []⟩ (ps.zip (us ++ ds))
/-- every parameter is given -/
theorem Binds.all {K : PySem.W.Frag} {fd : FuncData} {ps : List Str} (h : ∀ us : List Value, us.length = ps.length → bindArgs fd ⟨us, []⟩ = pure (ps.zip us)) : Binds K fd ps [] := fun s us _ hl => by
  rw [List.append_nil] at hl ⊢
  exact .of_eq (h us hl)

/-- an exception of a callee reaches what this body wants of exceptions -/
def Passes (CX : CXT) (X : Cx) (E : XK) : Prop := ∀ (pins : List (Addr × Obj)) (σ : St) (H : Hp) (s : Shared) (e : Value) (s' : Shared), Inv X pins σ H s → CX X.stack H s E e s' → X.xe e s'

section
variable {X : Cx} {CX : CXT} {k : Nat} {f C : Addr} {fd : FuncData} {ps : List Str} {sp : Sp} {dvs : List V} {ds : List Value} {E : XK} {x m : Str} {p pos apos : Pos} {e o : Expr} {es : List Expr} {ta : TE} {t : TA}

/-- the callee runs -/
theorem run_fn {pins : List (Addr × Obj)} {σ : St} {H : Hp} {s : Shared} {Q : VK} {us : List Value} {vs : List V} (F : FnOk X.prog X.w X.K X.mg X.base CX k f fd ps sp) (hr : Room k X.A) (hb : Binds X.K fd ps ds) (hd : Vals dvs ds) (hx : Passes CX X E)
    (I : Inv X pins σ H s) (r : Vals vs us) (h : sp (vs ++ dvs) H Q E) : wpAny (model X.prog X.w) X.A (call (.ref f) us) (EP X pins σ Q) X.xe s := by
  have r2 : Vals (vs ++ dvs) (us ++ ds) := r.append hd
  have hl : (us ++ ds).length = ps.length := by rw [← r2.length]; exact F.len _ _ _ _ h
  refine wpAny_call (codeAny_mono (F.run X.A X.stack s H ⟨us, []⟩ (us ++ ds) (vs ++ dvs) Q E hr I.env0 (hb s us I.kIn hl) r2 h) fun r s' hq => ?_)
  cases r with
  | error e => exact hx pins σ H s e s' I hq
  | ok fl =>
    cases fl with
    | ret u => exact I.after hq
    | next => exact False.elim hq
    | brk => exact False.elim hq
    | cont => exact False.elim hq

theorem pe_call (F : FnOk X.prog X.w X.K X.mg X.base CX k f fd ps sp) (hr : Room k X.A) (hg : Gl X x) (hm : X.mg x = some (.ref f)) (hk : PySem.W.keepIn X.K (.ref f) = true) (hb : Binds X.K fd ps ds) (hd : Vals dvs ds) (hx : Passes CX X E)
    (ha : PA X (e :: es) t) (hdb : (x == ("__debug__" : Str)) = false := by decide) (he : starEach (e :: es) X.env = (false, eval e X.env) :: starEach es X.env := by rfl) (hpl : (backTo pos (starEach es X.env)).any (·.1) = false := by rfl) :
    PE X (.Call (.Name x p) (e :: es) [] pos) (tCall sp dvs E t) := by
  intro pins s σ H Q I h
  refine wpAny_Call_Name_kw (ld_glob I hg hm ?_ hdb)
  refine PySem.W.callWith_K (h₀ := X.base) I.ok.mod.kin hk (thn (ha pos pins s σ H _ I h) fun us s1 ⟨vs, H1, I1, r, q⟩ => ⟨I1.kIn, ?_⟩) he hpl
  exact run_fn F hr hb hd hx I1 r q
end

/-! ### keywords -/
section
variable {X : Cx} {CX : CXT} {k : Nat} {f C : Addr} {fd : FuncData} {ps ks : List Str} {sp : Sp} {E : XK} {x m : Str} {p pos apos kpos : Pos} {e o : Expr} {es : List Expr} {kws : List Keyword} {te ta : TE} {t tk : TA} {nm : Option Str}
variable {g : List Value → List Value → List Value} {gV : List V → List V → List V}
end

/-! ### a def's body keeps its promise -/
/-- names: the parameters first -/
structure FnScope (N P : List Str) (sc : Scope) : Prop where
  kind : sc.kind = .function
  co : sc.isCoroutine = false
  gen : sc.isGenerator = false
  nd : N.Nodup
  pre : N.take P.length = P
  par : ∀ x ∈ P, sc.names.lookup x = some .local ∨ sc.names.lookup x = some .cell
  nofree : ∀ y ∈ sc.names, y.2 ≠ .free

theorem bindL_out {kindOf : Str → Option NameKind} {x : Str} : ∀ {binds : List (Str × Value)} {m : Str → Option Value}, (∀ v, (x, v) ∉ binds) → bindL kindOf binds m x = m x
  | [], _, _ => rfl
  | (n, v) :: r, m, h => by
    unfold bindL
    rw [bindL_out fun w hw => h w (List.mem_cons_of_mem _ hw)]
    split
    · have : x ≠ n := by rintro rfl; exact h v List.mem_cons_self
      simp [this]
    · rfl
theorem bindC_out {kindOf : Str → Option NameKind} {x : Str} : ∀ {binds : List (Str × Value)} {m : Str → Option Value}, (∀ v, (x, v) ∉ binds) → bindC kindOf binds m x = m x
  | [], _, _ => rfl
  | (n, v) :: r, m, h => by
    unfold bindC
    rw [bindC_out fun w hw => h w (List.mem_cons_of_mem _ hw)]
    split
    · rfl
    · have : x ≠ n := by rintro rfl; exact h v List.mem_cons_self
      simp [this]
theorem bindL_get {kindOf : Str → Option NameKind} {x : Str} {v : Value} : ∀ {P : List Str} {vs : List Value} {i : Nat} {m : Str → Option Value}, P.Nodup → P[i]? = some x → vs[i]? = some v → kindOf x = some .local →
    bindL kindOf (P.zip vs) m x = some v
  | [], _, _, _, _, h, _, _ => by simp at h
  | _ :: _, [], _, _, _, _, h, _ => by simp at h
  | p :: P, w :: vs, 0, m, nd, h1, h2, hk => by
    simp at h1 h2; subst h1; subst h2
    show bindL kindOf ((p, w) :: P.zip vs) m p = _
    unfold bindL
    rw [bindL_out fun v hv => (List.nodup_cons.mp nd).1 (List.of_mem_zip hv).1, if_pos hk]
    simp
  | p :: P, w :: vs, i + 1, m, nd, h1, h2, hk => by
    show bindL kindOf ((p, w) :: P.zip vs) m x = _
    unfold bindL
    exact bindL_get (i := i) (List.nodup_cons.mp nd).2 (by simpa using h1) (by simpa using h2) hk
theorem bindC_get {kindOf : Str → Option NameKind} {x : Str} {v : Value} : ∀ {P : List Str} {vs : List Value} {i : Nat} {m : Str → Option Value}, P.Nodup → P[i]? = some x → vs[i]? = some v → kindOf x ≠ some .local →
    bindC kindOf (P.zip vs) m x = some v
  | [], _, _, _, _, h, _, _ => by simp at h
  | _ :: _, [], _, _, _, _, h, _ => by simp at h
  | p :: P, w :: vs, 0, m, nd, h1, h2, hk => by
    simp at h1 h2; subst h1; subst h2
    show bindC kindOf ((p, w) :: P.zip vs) m p = _
    unfold bindC
    rw [bindC_out fun v hv => (List.nodup_cons.mp nd).1 (List.of_mem_zip hv).1, if_neg hk]
    simp
  | p :: P, w :: vs, i + 1, m, nd, h1, h2, hk => by
    show bindC kindOf ((p, w) :: P.zip vs) m x = _
    unfold bindC
    exact bindC_get (i := i) (List.nodup_cons.mp nd).2 (by simpa using h1) (by simpa using h2) hk

/-- the names' values at the entry -/
def start (N : List Str) (vs : List V) : St := vs.map some ++ List.replicate (N.length - vs.length) none

/-- the context of a def's body, at its entry; an exception leaves the frame, then lies as CX says -/
def cxOf (CX : CXT) (P : Program) (w : World) (K : PySem.W.Frag) (mg : Str → Option Value) (base : Heap) (N : List Str) (qual : Str) (scope : Scope) (f : Addr) (cd : Value) (A : Around) (outer : List Env) (s : Shared) (H : Hp) (E : XK) : Cx where
  prog := P
  w := w
  K := K
  mg := mg
  base := base
  A := A.deeper (envOfC qual scope s.heap.objs.size f cd)
  N := N
  s₀ := s
  H₀ := H
  env := envOfC qual scope s.heap.objs.size f cd
  outer := outer
  stack := envOfC qual scope s.heap.objs.size f cd :: outer
  ex := []
  calm := true
  fn := fun _ => true
  pn := []
  xe := fun e s' => wpAny (model P w) (A.deeper (envOfC qual scope s.heap.objs.size f cd)) (leaving (envOfC qual scope s.heap.objs.size f cd) e) (fun _ s'' => CX outer H s E e s'') (fun e' s'' => CX outer H s E e' s'') s'

theorem cell_has {sc : Scope} {n : Nat} {x : Str} (h : sc.names.lookup x = some .cell) : ∃ c, (cellsFrom n sc.names []).lookup x = some c := by
  have q := PySem.W.cellsFrom_some sc.names n [] (.inl h)
  exact Option.isSome_iff_exists.mp q

theorem inv_start {CX : CXT} {P : Program} {w : World} {K : PySem.W.Frag} {mg : Str → Option Value} {base : Heap} {N ps : List Str} {qual : Str} {scope : Scope} {f : Addr} {cd : Value} {A : Around} {outer : List Env} {s s1 : Shared} {H : Hp} {E : XK} {us : List Value} {vs : List V}
    (S : FnScope N ps scope) (hd : A.handled = none) (e0 : Env0 P w K mg base A outer s H) (hl : vs.length = ps.length) (r : Vals vs us)
    (x : InCallC s s.heap.objs.size (bindL (envOfC qual scope s.heap.objs.size f cd).kindOf (ps.zip us) fun _ => none) (cellsFrom (s.heap.objs.size + 1) scope.names []) (bindC (envOfC qual scope s.heap.objs.size f cd).kindOf (ps.zip us) fun _ => none) s1) :
    Inv (cxOf CX P w K mg base N qual scope f cd A outer s H E) [] (start N vs) H s1 := by
  have hpl : ps.length ≤ N.length := by have := congrArg List.length S.pre; rw [List.length_take] at this; omega
  obtain ⟨h1, tk, rfl, hk⟩ := x.done
  have noA : ∀ b : Addr, b ∉ (cxOf CX P w K mg base N qual scope f cd A outer s H E).ex := fun b z => absurd (show b ∈ ([] : List Addr) from z) (by simp)
  refine ⟨⟨e0.mod, S.kind, rfl, rfl, Nat.le_refl _, fun y z c h1 h2 => ?_, fun y hy => ?_, fun y c _ h => ?_, fun _ => hd, Around.frames_deeper e0.frames, .inr ⟨rfl, rfl⟩, fun b z => absurd z (noA b), e0.bs, e0.bsz, fun b _ _ => noA b, fun b z => absurd z (noA b), e0.funs, e0.frf⟩,
    rfl, e0.bare, Un.kept hk, ⟨_, x.toInCall.ns, fun i y v h1 h2 h3 => ?_⟩, fun y c h => ⟨_, x.cell y c h⟩, e0.hok.fresh (Nat.le_refl _), fun y c h => ?_, fun p hp => absurd (show p ∈ ([] : List (Addr × Obj)) from hp) (by simp), e0.hok.kept hk, ?_⟩
  · exact name_of_addr x.apart (PySem.mem_of_lookup h1) (PySem.mem_of_lookup h2)
  · have hy : scope.names.lookup y = some .cell ∨ scope.names.lookup y = some .free := hy
    rcases hy with hy | hy
    · exact cell_has hy
    · exact absurd rfl (S.nofree _ (PySem.mem_of_lookup hy))
  · exact Nat.le_of_lt (x.above y c (PySem.mem_of_lookup h))
  · have hi : i < vs.length := by
      unfold start at h2
      by_cases hi : i < vs.length
      · exact hi
      · rw [List.getElem?_append_right (by simpa using hi)] at h2
        rw [List.getElem?_replicate] at h2
        split at h2 <;> cases h2
    have ha : vs[i]? = some v := by
      unfold start at h2
      rw [List.getElem?_append_left (by simpa using hi), List.getElem?_map] at h2
      cases e : vs[i]? with
      | none => rw [e] at h2; cases h2
      | some a => rw [e] at h2; cases h2; rfl
    obtain ⟨u, hu, rv⟩ := r.get ha
    have hp : ps[i]? = some y := by
      rw [← S.pre, List.getElem?_take_of_lt (by omega)]; exact h1
    have ndP : ps.Nodup := by rw [← S.pre]; exact S.nd.sublist (List.take_sublist _ _)
    refine ⟨u, rv, ?_⟩
    rcases S.par y (List.mem_of_getElem? hp) with k | k
    · exact .inl ⟨k, bindL_get ndP hp hu k⟩
    · obtain ⟨c, e⟩ := cell_has (n := s.heap.objs.size + 1) k
      refine .inr ⟨.inl k, c, e, ?_⟩
      have q := x.cell y c e
      rw [bindC_get ndP hp hu (by show scope.names.lookup y ≠ _; rw [k]; decide)] at q
      exact q
  · exact e0.hok.fresh (Nat.le_of_lt (x.above y c (PySem.mem_of_lookup h)))
  · unfold start
    show _ = N.length
    rw [List.length_append, List.length_map, List.length_replicate]
    omega

/-- THE RULE: a def (or a method) of the text, by its body. The body's reading t is chosen for each entry; it is run at the parameters' values -/
theorem fn_of {CX : CXT} {P : Program} {w : World} {K : PySem.W.Frag} {mg : Str → Option Value} {base : Heap} {k : Nat} {f : Addr} {name qual : Str} {params : Arguments} {body : List Stmt} {scope : Scope} {dV kV doc pm cdv ct oc : Value} {an od : Option Addr}
    {osl : Array (Option Value)} {N ps : List Str} {sp : Sp} (lk : K.lookup f = some ⟨oc, od, .func (PySem.W.fnOf name qual params body scope dV kV doc pm an cdv ct), osl⟩) (hcd : PySem.W.codeIn K cdv qual = true) (S : FnScope N ps scope)
    (len : ∀ vs H Q E, sp vs H Q E → vs.length = ps.length)
    (hbody : ∀ (A : Around) (outer : List Env) (s : Shared) (H : Hp) (vs : List V) (Q : VK) (E : XK), Room k (A.deeper (envOfC qual scope s.heap.objs.size f cdv)) → sp vs H Q E →
      ∃ t, PSs (cxOf CX P w K mg base N qual scope f cdv A outer s H E) body t ∧ t { nx := fun _ H' => Q .non H', rt := Q } (start N vs) H) :
    FnOk P w K mg base CX (k + 1) f (PySem.W.fnOf name qual params body scope dV kV doc pm an cdv ct) ps sp := by
  refine ⟨len, fun A outer s H args us vs Q E hr e0 hb r hsp => ?_⟩
  have hl := len _ _ _ _ hsp
  have KX : K.In s.heap := e0.mod.kin.keeps fun b o e => (e0.bs b o e).1
  have lim : s.heap.NoLimit := e0.mod.nolimit.keeps fun b o e => (e0.bs b o e).1
  have hkind : ∀ y ∈ ps.zip us, scope.names.lookup y.1 = some .local ∨ (scope.names.lookup y.1 = some .cell ∧ ((cellsFrom (s.heap.objs.size + 1) scope.names []).lookup y.1).isSome = true) := fun ⟨n, v⟩ hy => by
    rcases S.par n (List.of_mem_zip hy).1 with q | q
    · exact .inl q
    · exact .inr ⟨q, PySem.W.cellsFrom_some _ _ _ (.inl q)⟩
  refine codeAny_call_function hr.depth (KX _ _ lk) rfl S.co S.gen rfl (PySem.W.codeRec_of KX hcd) (hb _ _ _ _ ?_)
  refine wpAny_newFunctionEnv_cells S.kind hkind fun env he s1 x => ?_
  subst he
  refine ⟨lim.keeps x.toInCall.keep, codeAny_func ?_⟩
  obtain ⟨t, ht, hq⟩ := hbody A outer s H vs Q E (hr.deeper _) hsp
  have I : Inv (cxOf CX P w K mg base N qual scope f cdv A outer s H E) [] (start N vs) H s1 := inv_start S hr.hd e0 hl r x
  refine wpAny_mono (ht [] s1 (start N vs) H _ I hq) (fun fl s' hs => ?_) fun e s' hs => hs
  have fin : ∀ {σ' : St} {H' : Hp} {v : V} {u : Value}, Inv (cxOf CX P w K mg base N qual scope f cdv A outer s H E) [] σ' H' s' → RelV v u → Q v H' → CE outer P w H s Q u s' :=
    fun {σ' H' v u} J rv q => ⟨v, H', J.os, J.bare, J.base, J.hok, rv, q⟩
  cases fl with
  | ret u =>
    obtain ⟨v, σ', H', J, rv, q⟩ := hs
    exact fin J rv q
  | next =>
    obtain ⟨σ', H', J, q⟩ := hs
    exact fin (v := V.non) (u := Value.none) J rfl q
  | brk =>
    obtain ⟨_, _, _, q⟩ := hs
    exact False.elim q
  | cont =>
    obtain ⟨_, _, _, q⟩ := hs
    exact False.elim q
end L2

namespace L2
open PySem PySem.Spec PyProof.Rows
section
variable {X : Cx} {x : Str} {p pos : Pos} {e : Expr} {es : List Expr} {t : TA} {id T : String} {r : List V → Hp → VK → Prop}

def tCB (r : List V → Hp → VK → Prop) (t : TA) : TE := fun σ H Q => t σ H fun vs H1 => r vs H1 Q
/-- f(e, ..), f a built-in function -/
theorem pe_callB (hc : CallR X (.builtin id) r) (hg : Gl X x) (hm : X.mg x = none) (hv : bootBuiltins x = some (.builtin id)) (ha : PA X (e :: es) t) (hn : x ≠ "__name__" := by decide) (hdb : (x == ("__debug__" : Str)) = false := by decide)
    (he : starEach (e :: es) X.env = (false, eval e X.env) :: starEach es X.env := by rfl) (hpl : (backTo pos (starEach es X.env)).any (·.1) = false := by rfl) : PE X (.Call (.Name x p) (e :: es) [] pos) (tCB r t) := by
  intro pins s σ H Q I h
  refine wpAny_Call_Name_kw (ld_blt I hg hm hv ?_ hn hdb)
  exact PyProof.Rows.callWith_builtin1 (thn (ha pos pins s σ H _ I h) fun us s1 ⟨vs, H1, I1, r1, q1⟩ => hc pins s1 σ H1 vs us Q I1 r1 q1) he hpl
/-- T(e, ..), T a built-in type -/
theorem pe_callTy (hc : CallR X (.type T) r) (hg : Gl X x) (hm : X.mg x = none) (hv : bootBuiltins x = some (.type T)) (ha : PA X (e :: es) t) (hn : x ≠ "__name__" := by decide) (hdb : (x == ("__debug__" : Str)) = false := by decide)
    (he : starEach (e :: es) X.env = (false, eval e X.env) :: starEach es X.env := by rfl) (hpl : (backTo pos (starEach es X.env)).any (·.1) = false := by rfl) : PE X (.Call (.Name x p) (e :: es) [] pos) (tCB r t) := by
  intro pins s σ H Q I h
  refine wpAny_Call_Name_kw (ld_blt I hg hm hv ?_ hn hdb)
  exact PyProof.Rows.callWith_type1 (thn (ha pos pins s σ H _ I h) fun us s1 ⟨vs, H1, I1, r1, q1⟩ => hc pins s1 σ H1 vs us Q I1 r1 q1) he hpl
end
end L2

namespace HT
open PySem PyProof.Rows

section
open PySem.SeqAt
open PySem.AutoSeq1 (wpAny_loadPart')
open PySem.MeetsSeq PySem.MeetsSeq2 PySem.MeetsSeq3

end

section
variable {prog : Program} {w : World} {A : Around} {E : Value → Shared → Prop} {s : Shared}

/-! ### t[a:b], not the whole -/
end
end HT

namespace L2
open PySem PySem.Spec PyProof.Rows

/-! ### the parts of a slice -/
abbrev TO := St → Hp → (Option Int → Hp → Prop) → Prop
theorem intsAre_of {ns : List Int} : ∀ {us : List Value}, Vals (ns.map V.int) us → IntsAre us ns := by
  induction ns with
  | nil => intro us r; rw [List.map_nil] at r; cases r; exact .nil
  | cons n ns ih =>
    intro us r
    rw [List.map_cons] at r
    cases r with
    | cons r1 r2 =>
      obtain ⟨t, e⟩ := r1
      subst e
      exact .cons n t (ih r2)

section
variable {X : Cx} {e : Expr} {te : TE} {lo hi : Option Expr} {tl th : TO} {pos p2 : Pos}

/-- what a slice of a value is, by values: the slice object stands at sl -/
def SlR (X : Cx) (r : V → Option Int → Option Int → Hp → VK → Prop) : Prop :=
  ∀ (pins : List (Addr × Obj)) (s : Shared) (σ : St) (H : Hp) (x : V) (v vl vu : Value) (lo hi : Option Int) (sl : Addr) (Q : VK), Inv X pins σ H s → RelV x v → s.heap.IsSliceOf sl vl vu .none → IsPart vl lo → IsPart vu hi → r x lo hi H Q →
    ∃ T id, typeLookup (.type T) "__getitem__" = pure (some (.builtin id)) ∧ s.TypeIs v T ∧ wpAny (model X.prog X.w) X.A (getItem v (.ref sl)) (EP X pins σ Q) X.xe s
theorem SlR.or {r r' : V → Option Int → Option Int → Hp → VK → Prop} (h : SlR X r) (h' : SlR X r') : SlR X (fun x lo hi H Q => r x lo hi H Q ∨ r' x lo hi H Q) := by
  intro pins s σ H x v vl vu lo hi sl Q I rx hs pl pu q
  rcases q with q | q
  · exact h pins s σ H x v vl vu lo hi sl Q I rx hs pl pu q
  · exact h' pins s σ H x v vl vu lo hi sl Q I rx hs pl pu q
/-! ### t < u, t + u -/
end
end L2

namespace L2
open PySem PySem.Spec PyProof.Rows

/-! ### places -/
/-- the place that an index of any sign means -/
def ixN (n : Nat) (i : Int) : Option Nat := if 0 ≤ i then (if i < n then some i.toNat else none) else if -(n : Int) ≤ i then some (i + n).toNat else none
def atI {α : Type} (xs : List α) (i : Int) : Option α := (ixN xs.length i).bind fun j => xs[j]?
theorem ixN_seq {n : Nat} {i : Int} {j : Nat} (h : ixN n i = some j) : seqIndex? i n = some j ∧ j < n ∧ -(n : Int) ≤ i ∧ i < n := by
  unfold ixN at h
  by_cases h0 : 0 ≤ i
  · rw [if_pos h0] at h
    by_cases h1 : i < n
    · rw [if_pos h1] at h
      have e : i.toNat = j := Option.some.inj h
      exact ⟨by rw [seqIndex_of h0 h1, e], by omega, by omega, h1⟩
    · rw [if_neg h1] at h; cases h
  · rw [if_neg h0] at h
    by_cases h1 : -(n : Int) ≤ i
    · rw [if_pos h1] at h
      have e : (i + n).toNat = j := Option.some.inj h
      exact ⟨by rw [seqIndex_neg (by omega) h1, e], by omega, h1, by omega⟩
    · rw [if_neg h1] at h; cases h
theorem atI_get {α : Type} {xs : List α} {i : Int} {v : α} (h : atI xs i = some v) : ∃ j, seqIndex? i xs.length = some j ∧ xs[j]? = some v ∧ j < xs.length ∧ -(xs.length : Int) ≤ i ∧ i < xs.length := by
  unfold atI at h
  cases e : ixN xs.length i with
  | none => rw [e] at h; cases h
  | some j =>
    rw [e] at h
    obtain ⟨h1, h2, h3, h4⟩ := ixN_seq e
    exact ⟨j, h1, h, h2, h3, h4⟩
theorem atI_nat {α : Type} {xs : List α} {j : Nat} {v : α} (h : xs[j]? = some v) : atI xs (j : Int) = some v := by
  have hj : j < xs.length := (List.getElem?_eq_some_iff.mp h).1
  have e : ixN xs.length (j : Int) = some j := by
    unfold ixN
    rw [if_pos (by omega), if_pos (by omega)]; simp
  unfold atI; rw [e]; exact h
/-! ### what may be subscripted -/
/-- what stands as an index of a plain subscript -/
def PlainIx (b : Expr) : Prop := ∀ o i, subscripted b false o i = operate [o, i] (getItem o i)
/-- a subscript by values -/
def IxR (X : Cx) (r : R2) : Prop :=
  ∀ (value slice : Expr) (pins : List (Addr × Obj)) (s : Shared) (σ : St) (H : Hp) (x y : V) (v u : Value) (Q : VK), Inv X pins σ H s → RelV x v → RelV y u → r x y H Q →
    subscripted slice false v u = operate [v, u] (getItem v u) → wpAny (model X.prog X.w) X.A (subscriptTail value slice v u) (EP X pins σ Q) X.xe s
/-- a call of a builtin's method by values: the receiver, the arguments -/
def MtR (X : Cx) (id : String) (r : V → List V → Hp → VK → Prop) : Prop :=
  ∀ (pins : List (Addr × Obj)) (s : Shared) (σ : St) (H : Hp) (x : V) (xs : List V) (v : Value) (us : List Value) (Q : VK), Inv X pins σ H s → RelV x v → Vals xs us → r x xs H Q →
    wpAny (model X.prog X.w) X.A (call (.builtin id) (v :: us)) (EP X pins σ Q) X.xe s
section
variable {X : Cx} {a b : Expr} {ta tb : TE} {pos : Pos}
theorem IxR.or {r r' : R2} (h : IxR X r) (h' : IxR X r') : IxR X (fun x y H Q => r x y H Q ∨ r' x y H Q) := by
  intro value slice pins s σ H x y v u Q I rx ry q hs
  rcases q with q | q
  · exact h value slice pins s σ H x y v u Q I rx ry q hs
  · exact h' value slice pins s σ H x y v u Q I rx ry q hs
theorem MtR.or {id : String} {r r' : V → List V → Hp → VK → Prop} (h : MtR X id r) (h' : MtR X id r') : MtR X id (fun x xs H Q => r x xs H Q ∨ r' x xs H Q) := by
  intro pins s σ H x xs v us Q I rx rs q
  rcases q with q | q
  · exact h pins s σ H x xs v us Q I rx rs q
  · exact h' pins s σ H x xs v us Q I rx rs q
/-- a[b] -/
theorem pe_ix {r : R2} (hr : IxR X r) (ha : PE X a ta) (hb : PE X b tb) (hs : PlainIx b) : PE X (.Subscript a b pos) (tOp r ta tb) := by
  intro pins s σ H Q I h
  exact Subscript_ (binT ha hb I h fun v u s2 x y H2 I2 rx ry q => hr a b pins s2 σ H2 x y v u Q I2 rx ry q (hs _ _))

def rIxL (K : PySem.W.Frag) : R2 := fun x y H Q => ∃ p xs i v, x = .ref p ∧ y = .int i ∧ SqL K H p xs ∧ atI xs i = some v ∧ Q v H
def rIxT (K : PySem.W.Frag) : R2 := fun x y H Q => ∃ p xs i v, x = .ref p ∧ y = .int i ∧ SqT K H p xs ∧ atI xs i = some v ∧ Q v H
def rIxS : R2 := fun x y H Q => ∃ z i c, x = .str z ∧ y = .int i ∧ z.length ≤ sizeLine ∧ atI z.cps.toList i = some c ∧ Q (.str ⟨#[c]⟩) H
theorem ix_list : IxR X (rIxL X.K) := by
  intro value slice pins s σ H x y v u Q I rx ry h hs
  obtain ⟨p, xs, i, z, rfl, rfl, hq, he, q⟩ := h
  cases rx
  obtain ⟨t, rfl⟩ := ry
  obtain ⟨its, r, pl, hz⟩ := I.list hq
  obtain ⟨j, h1, h2, h3, h4, h5⟩ := atI_get he
  obtain ⟨w, ew, rw'⟩ := r.get h2
  have hl := r.length
  have hn := line63
  have fin : EP X pins σ Q w s := ⟨z, H, I, rw', q⟩
  by_cases h0 : 0 ≤ i
  · have hj : i.toNat = j := by
      rw [seqIndex_of h0 h5] at h1
      exact Option.some.inj h1
    exact item_listR pl.isList h0 (by omega) (by rw [hj]; simpa using ew) fin hs
  · have hj : (i + (its.toArray.size : Int)).toNat = j := by
      rw [seqIndex_neg (by omega) h4] at h1
      rw [List.size_toArray, ← hl]
      exact Option.some.inj h1
    exact subscriptTail_builtinR (x := w) pl.isList.typeIs slot_list_getitem.lookup
      (wpAny_getItem_list_neg (Q := fun r s' => r = w ∧ EP X pins σ Q r s') pl.isList (by omega) (by rw [List.size_toArray] <;> omega) (by omega) (by rw [hj]; simpa using ew) ⟨rfl, fin⟩) hs
theorem ix_tup : IxR X (rIxT X.K) := by
  intro value slice pins s σ H x y v u Q I rx ry h hs
  obtain ⟨p, xs, i, z, rfl, rfl, hq, he, q⟩ := h
  cases rx
  obtain ⟨t, rfl⟩ := ry
  obtain ⟨its, r, pl, hz⟩ := I.tuple hq
  obtain ⟨j, h1, h2, h3, h4, h5⟩ := atI_get he
  obtain ⟨w, ew, rw'⟩ := r.get h2
  have hl := r.length
  have hn := line63
  have fin : EP X pins σ Q w s := ⟨z, H, I, rw', q⟩
  exact subscriptTail_builtinR (x := w) pl.typeIs slot_tuple_getitem.lookup
    (getItem_tuple (j := j) (Q := fun r s' => r = w ∧ EP X pins σ Q r s') pl (by omega) (by omega) (by rw [List.size_toArray, ← hl]; exact h1) (by simpa using ew) ⟨rfl, fin⟩) hs
theorem ix_str : IxR X rIxS := by
  intro value slice pins s σ H x y v u Q I rx ry h hs
  obtain ⟨z, i, c, rfl, rfl, hz, he, q⟩ := h
  obtain ⟨t, rfl⟩ := rx
  obtain ⟨t', rfl⟩ := ry
  obtain ⟨j, h1, h2, h3, h4, h5⟩ := atI_get he
  have hl : z.cps.toList.length = z.length := by simp [Str.length]
  rw [hl] at h1 h4 h5
  have hn := line63
  exact tail_any (typeIs_str s z t) slot_str_getitem.lookup (getItem_str (c := c) (by
    have e1 : decide (i < -(2 ^ 63 : Int)) = false := decide_eq_false (by omega)
    have e2 : decide (i ≥ 2 ^ 63) = false := decide_eq_false (by omega)
    rw [e1, e2, Bool.or_false]) (by rw [h1]; simpa using h2) ⟨.str ⟨#[c]⟩, H, I.tok _, ⟨_, rfl⟩, q⟩) hs
/-- list, tuple or str -/
def rIx (K : PySem.W.Frag) : R2 := fun x y H Q => rIxL K x y H Q ∨ rIxT K x y H Q ∨ rIxS x y H Q
theorem ix_seq : IxR X (rIx X.K) := ix_list.or (ix_tup.or ix_str)

/-! ### xs[i] = v, any sign -/
theorem Inv.lst {pins : List (Addr × Obj)} {σ : St} {H : Hp} {s : Shared} {p : Addr} {xs : List V} (I : Inv X pins σ H s) (h : H p = some (.lst xs)) :
    ∃ (its : List Value) (n : Nat), Vals xs its ∧ s.heap.get? p = some { cls := .type "list", data := .seq its.toArray n } ∧ xs.length ≤ sizeLine := by
  obtain ⟨z, its, n, r, e⟩ := I.hok p _ h
  exact ⟨its, n, r, e, z⟩
/-! ### slices -/
/-! ### in, not in: flat items -/
/-! ### len, list(x), tuple(x) of any list or tuple that is read -/
theorem call_len_seq : CallR X (.builtin "len") (fun xs H Q => ∃ p ys, xs = [.ref p] ∧ (SqL X.K H p ys ∨ SqT X.K H p ys) ∧ Q (.int ys.length) H) := by
  intro pins s σ H xs us Q I r h
  obtain ⟨p, ys, rfl, hq, q⟩ := h
  obtain ⟨u, rfl, rx⟩ := vals1 r
  cases rx
  have hn := line63
  rcases hq with hq | hq
  · obtain ⟨its, r', pl, hz⟩ := I.list hq
    have hlen := r'.length
    exact Calls.call_len_list pl.isList (by simp only [List.size_toArray] <;> omega) ⟨.int ys.length, H, I.tok _, ⟨s.toks + 1, by rw [List.size_toArray, hlen]⟩, q⟩
  · obtain ⟨its, r', pl, hz⟩ := I.tuple hq
    have hlen := r'.length
    exact len_tuple pl (by simp only [List.size_toArray] <;> omega) ⟨.int ys.length, H, I.tok _, ⟨s.toks + 1, by rw [List.size_toArray, hlen]⟩, q⟩
theorem CallR.or {f : Value} {r r' : List V → Hp → VK → Prop} (h : CallR X f r) (h' : CallR X f r') : CallR X f (fun xs H Q => r xs H Q ∨ r' xs H Q) := by
  intro pins s σ H xs us Q I rs q
  rcases q with q | q
  · exact h pins s σ H xs us Q I rs q
  · exact h' pins s σ H xs us Q I rs q
theorem call_list_of : CallR X (.type "list") (fun xs H Q => ∃ p ys, xs = [.ref p] ∧ (SqL X.K H p ys ∨ SqT X.K H p ys) ∧ ∀ l, H l = none → Q (.ref l) (upd H l (.lst ys))) := by
  intro pins s σ H xs us Q I r h
  obtain ⟨p, ys, rfl, hq, q⟩ := h
  obtain ⟨u, rfl, rx⟩ := vals1 r
  cases rx
  have fin : ∀ (its : List Value), Vals ys its → ys.length ≤ sizeLine → ∀ (h' : Heap) (c' : Nat), (∀ b o', s.heap.get? b = some o' → h'.get? b = some o') →
      h'.get? s.heap.objs.size = some { cls := .type "list", dict := none, data := .seq its.toArray c', slots := #[] } → EP X pins σ Q (.ref s.heap.objs.size) { s with heap := h' } := fun its r' hz h' c' kp e =>
    ⟨.ref s.heap.objs.size, _, I.laid (t' := s.toks) kp (Nat.le_refl _) (show ObjOk X.prog X.w _ h' _ (.lst ys) from ⟨hz, its, c', r', e⟩), rfl, q _ (I.hok.fresh (Nat.le_refl _))⟩
  rcases hq with hq | hq
  · obtain ⟨its, r', pl, hz⟩ := I.list hq
    have hlen := r'.length
    obtain ⟨o, ho, hc, n, hd⟩ := pl.isList
    exact call_list_seq p (.inl rfl) ho hc hd (fun h' c' kp e => fin its r' hz h' c' kp e) (by simp only [List.size_toArray] <;> omega)
  · obtain ⟨its, r', pl, hz⟩ := I.tuple hq
    have hlen := r'.length
    obtain ⟨o, ho, hc, n, hd⟩ := pl
    exact call_list_seq p (.inr rfl) ho hc hd (fun h' c' kp e => fin its r' hz h' c' kp e) (by simp only [List.size_toArray] <;> omega)
/-! ### the call of a builtin's method: o.m(..) -/
/-- the value is of that builtin type -/
def tyV (K : PySem.W.Frag) (T : String) (x : V) (H : Hp) : Prop := match x with
  | .str _ => T = "str"
  | .int _ => T = "int"
  | .ref p => (T = "list" ∧ ∃ xs, SqL K H p xs) ∨ (T = "tuple" ∧ ∃ o, K.lookup p = some o ∧ o.cls = .type "tuple" ∧ o.dict = none) ∨
      (T = "dict" ∧ ((∃ kvs, H p = some (.dK kvs)) ∨ ∃ kvs, H p = some (.dT kvs))) ∨ (T = "set" ∧ ∃ S n, H p = some (.set S n))
  | _ => False
theorem tyV_is {pins : List (Addr × Obj)} {σ : St} {H : Hp} {s : Shared} {T : String} {x : V} {v : Value} (I : Inv X pins σ H s) (r : RelV x v) (ty : tyV X.K T x H) :
    s.TypeIs v T ∧ ∀ a, v = .ref a → ∃ ob, s.heap.get? a = some ob ∧ ob.dict = none := by
  cases x with
  | str z =>
    obtain ⟨t, rfl⟩ := r
    cases (show T = "str" from ty)
    exact ⟨typeIs_str s z t, fun _ e => nomatch e⟩
  | int i =>
    obtain ⟨t, rfl⟩ := r
    cases (show T = "int" from ty)
    exact ⟨typeIs_int s i t, fun _ e => nomatch e⟩
  | ref p =>
    cases r
    rcases ty with ⟨rfl, xs, hq⟩ | ⟨rfl, o, hk, hc, hd⟩ | ⟨rfl, hk⟩ | ⟨rfl, S, n, hk⟩
    · obtain ⟨its, _, pl, _⟩ := I.list hq
      refine ⟨pl.isList.typeIs, fun a e => ?_⟩
      cases e
      obtain ⟨o, n, e, c, hd, _⟩ := pl
      exact ⟨o, e, hd⟩
    · refine ⟨⟨o, I.kIn p o hk, hc⟩, fun a e => ?_⟩
      cases e
      exact ⟨o, I.kIn _ o hk, hd⟩
    · have z : ∃ o, s.heap.get? p = some o ∧ o.ExactDict := by
        rcases hk with ⟨kvs, hk⟩ | ⟨kvs, hk⟩
        · obtain ⟨_, _, _, _, o, _, _, e, ex, _⟩ := I.hok p _ hk
          exact ⟨o, e, ex⟩
        · obtain ⟨_, _, _, _, o, _, _, e, ex, _⟩ := I.hok p _ hk
          exact ⟨o, e, ex⟩
      obtain ⟨o, e, ex⟩ := z
      refine ⟨⟨o, e, ex.1⟩, fun a e2 => ?_⟩
      cases e2
      exact ⟨o, e, ex.2.1⟩
    · obtain ⟨o, _, _, _, e, ex, _⟩ := I.hok p _ hk
      refine ⟨⟨o, e, ex.1⟩, fun a e2 => ?_⟩
      cases e2
      exact ⟨o, e, ex.2.1⟩
  | _ => exact False.elim ty
def tBM (K : PySem.W.Frag) (T : String) (r : V → List V → Hp → VK → Prop) (to : TE) (t : TA) : TE := fun σ H Q => to σ H fun x H1 => tyV K T x H1 ∧ t σ H1 fun xs H2 => r x xs H2 Q
variable {o e : Expr} {es : List Expr} {to : TE} {t : TA} {name : Str} {apos cpos : Pos} {T id : String} {r : V → List V → Hp → VK → Prop}
theorem pe_bm (pa : PlainAttrs T) (slot : Slot T name id) (hty : typeOf (.builtin id) = pure (.type "method_descriptor")) (hm : MtR X id r) (ho : PE X o to) (ha : PA X (e :: es) t)
    (hbase : attributeBase o name X.env (eval o X.env) = eval o X.env := by rfl)
    (hfew : ((backTo cpos (starEach (e :: es) X.env)).all (fun x => !x.1) && (backToKw cpos (keywordEach [] X.env)).all (fun x => x.1.isSome)
      && decide ((e :: es).length + ([] : List Keyword).length + (if ([] : List Keyword).isEmpty then 0 else 1) < 30)) = true := by rfl)
    (hline : (apos.endLine == cpos.line) = true := by rfl) (hs : starEach (e :: es) X.env = (false, eval e X.env) :: starEach es X.env := by rfl) (hplain : (backTo cpos (starEach es X.env)).any (·.1) = false := by rfl) :
    PE X (.Call (.Attribute o name apos) (e :: es) [] cpos) (tBM X.K T r to t) := by
  intro pins s σ H Q I h
  refine wpAny_Call_method_late hbase hfew hline rfl (thn (ho pins s σ H _ I h) fun v s1 ⟨x, H1, I1, r1, ty, q1⟩ => ?_)
  obtain ⟨h1, h2⟩ := tyV_is I1 r1 ty
  refine ⟨T, id, pa, slot, hty, h1, h2, ?_⟩
  have hA := ha cpos pins s1 σ H1 _ I1 q1
  rw [hs] at hA ⊢
  refine Calls.callWith_builtin (by show (false || (backTo cpos (starEach es X.env)).any (·.1)) = false; rw [hplain] <;> rfl) (Calls.evalArgs_plain ?_)
  exact thn hA fun us s2 ⟨vs, H2, I2, r2, q2⟩ => hm pins s2 σ H2 x vs v us Q I2 r1 r2 q2
/- xs.append(e), list.index on a module's tuple .. are MtR facts of 06m -/
end
end L2

namespace L2
open PySem PySem.Spec PyProof.Rows

def MtM (X : Cx) (id : String) (r : V → List V → Hp → VK → Prop) : Prop :=
  ∀ (pins : List (Addr × Obj)) (s : Shared) (σ : St) (H : Hp) (x : V) (xs : List V) (v : Value) (us : List Value) (Q : VK), Inv X pins σ H s → RelV x v → Vals xs us → r x xs H Q →
    wpAny (model X.prog X.w) X.A (call (.builtin id) (v :: us)) (EP X pins σ Q) X.xe s

/-! ### lists of values -/
theorem Vals.one : ∀ {x : V} {us : List Value}, Vals [x] us → ∃ u, us = [u] ∧ RelV x u
  | _, _, .cons r .nil => ⟨_, rfl, r⟩
theorem Vals.two : ∀ {x y : V} {us : List Value}, Vals [x, y] us → ∃ u v, us = [u, v] ∧ RelV x u ∧ RelV y v
  | _, _, _, .cons r (.cons q .nil) => ⟨_, _, rfl, r, q⟩
theorem Vals.zero : ∀ {us : List Value}, Vals [] us → us = []
  | _, .nil => rfl
theorem Vals.reverse {xs : List V} {us : List Value} (h : Vals xs us) : Vals xs.reverse us.reverse := by
  induction h with
  | nil => exact .nil
  | cons r t ih => rw [List.reverse_cons, List.reverse_cons]; exact Vals.append ih (.cons r .nil)
section
variable {X : Cx} {pins : List (Addr × Obj)} {σ : St} {H : Hp} {s : Shared} {l b : Addr} {xs ys zs : List V}

/-! ### the two steps: a tracked list is rewritten, a new list is laid -/
theorem Inv.lset {its its' : List Value} {n : Nat} {f : Array Value → Array Value} {t' : Nat} (I : Inv X pins σ H s) (hH : H l = some (.lst xs))
    (e : s.heap.get? l = some { cls := .type "list", data := .seq its.toArray n }) (hf : f its.toArray = its'.toArray) (hv : Vals ys its') (hz : ys.length ≤ sizeLine) :
    Inv X pins σ (upd H l (.lst ys)) { s with heap := s.heap.update l (Obj.mapSeq f), toks := t' } := by
  have q := PySem.IsL.update e f
  rw [hf] at q
  refine I.write (x := l) (e := l) (by rw [hH]; exact trivial) (.inl rfl) (fun b' u hb hu => (Heap.get?_update_other s.heap (Obj.mapSeq f) (Ne.symm hb)).trans hu) ⟨_, q⟩ ?_
  exact ⟨hz, its', _, hv, q⟩
theorem Inv.lnew {its : List Value} {t' : Nat} (I : Inv X pins σ H s) (hv : Vals ys its) (hz : ys.length ≤ sizeLine) :
    Inv X pins σ (upd H s.heap.objs.size (.lst ys)) { s with heap := s.heap.push { cls := .type "list", data := .seq its.toArray }, toks := t' } :=
  I.laid (fun _ _ q => Heap.get?_push_of_some _ q) (Nat.le_refl _) ⟨hz, its, 0, hv, Heap.get?_push_size _ rfl⟩
theorem Inv.fresh (I : Inv X pins σ H s) : H s.heap.objs.size = none := I.hok.fresh (Nat.le_refl _)
theorem Inv.lstM (I : Inv X pins σ H s) (hH : H l = some (.lst xs)) : xs.length ≤ sizeLine ∧ ∃ (its : List Value) (n : Nat), Vals xs its ∧ xs.length = its.length ∧ s.heap.get? l = some { cls := .type "list", data := .seq its.toArray n } := by
  obtain ⟨z, its, n, r, e⟩ := I.hok l _ hH
  exact ⟨z, its, n, r, r.length, e⟩

theorem notLongL {n : Nat} (h : n ≤ sizeLine) : Builtin.List.listTooLong n = false := by
  unfold Builtin.List.listTooLong
  exact decide_eq_false (by omega)
end

section
variable {X : Cx}

/-! ### methods -/
def rAppend : V → List V → Hp → VK → Prop := fun x vs H Q => ∃ l xs y, x = .ref l ∧ vs = [y] ∧ H l = some (.lst xs) ∧ xs.length < sizeLine ∧ Q .non (upd H l (.lst (xs ++ [y])))
theorem mt_append : MtM X "list.append" rAppend := by
  intro pins s σ H x vs v us Q I rx rv h
  obtain ⟨l, xs, y, rfl, rfl, hH, hz, q⟩ := h
  cases rx
  obtain ⟨u, rfl, ru⟩ := rv.one
  obtain ⟨z, its, n, r, hl, e⟩ := I.lstM hH
  refine call_meets F.slot_list_append ⟨_, e, rfl⟩ F.entry_list_append (F.args_list_append_2 _ _) (PySem.list_append l its.toArray n u (by rw [List.size_toArray]; omega)) ⟨e, ?_⟩
  refine ⟨.non, _, I.lset (its' := its ++ [u]) hH e (by simp) (r.append (.cons ru .nil)) ?_, rfl, q⟩
  rw [List.length_append, List.length_singleton]
  omega

/-! ### list + list, list += list, list * int -/
/-! ### del xs[i] -/
end

/-! ### xs[a:b] = ys -/
section
variable {prog : Program} {w : World} {A : Around} {E : Value → Shared → Prop} {s : Shared}
theorem bounds_run {a c n : Nat} (hac : a ≤ c) (hc : c ≤ n) : sliceBounds (some (a : Int)) (some (c : Int)) none n = ((a : Int), (c : Int), 1) := by
  simp only [sliceBounds, Option.getD_none]
  have h1 : ¬ ((a : Int) < 0) := by omega
  have h2 : ¬ ((c : Int) < 0) := by omega
  simp only [h1, h2, if_false, show (1 : Int) > 0 by decide, if_true]
  congr 1
  · omega
  · congr 1; omega
set_option maxRecDepth 100000 in
/-- list.__setitem__ with a slice of step one and another list -/
theorem setItem_slice {l b sl : Addr} {items new : Array Value} {n n2 : Nat} {vl vu : Value} {a c : Nat} {Q : Unit → Shared → Prop}
    (e : s.heap.get? l = some { cls := .type "list", data := .seq items n }) (e2 : s.heap.get? b = some { cls := .type "list", data := .seq new n2 }) (hne : l ≠ b)
    (hs : s.heap.IsSliceOf sl vl vu .none) (pl : IsPart vl (some (a : Int))) (pu : IsPart vu (some (c : Int))) (hac : a ≤ c) (hc : c ≤ items.size)
    (hsz : items.size + new.size ≤ sizeLine) (h : Q () { s with heap := s.heap.update l (Obj.mapSeq fun xs => xs.extract 0 a ++ new ++ xs.extract c xs.size) }) :
    wpAny (model prog w) A (setItem (.ref l) (.ref sl) (.ref b)) Q E s := by
  have hl : s.heap.IsList l items := PySem.IsL.isList e
  have hb : s.heap.IsList b new := PySem.IsL.isList e2
  obtain ⟨os, hos, hcs, hds⟩ := id hs
  have hTs : s.TypeIs (.ref sl) "slice" := ⟨os, hos, hcs⟩
  have hstep : ¬ ((rawPart none == rawInt 0) = true) := Bool.false_ne_true
  have hsame : Builtin.List.listSameRef (.ref l) (.ref b) = false := by
    unfold Builtin.List.listSameRef
    exact beq_eq_false_iff_ne.mpr hne
  have hmax : (max (a : Int) (c : Int)).toNat = c := by omega
  have hz' : ((fun xs : Array Value => xs.extract 0 a ++ new ++ xs.extract c xs.size) items).size ≤ sizeLine + 1 := by
    simp only [Array.size_append, Array.size_extract]
    omega
  unfold setItem
  try with_reducible refine wpAny_holding ?_
  first | refine wpAny_bind (wpAny_pure ?_) | skip
  refine wpAny_bind (wpAny_sequenceKey hl.typeIs (by decide) ?_)
  refine wpAny_bind (wpAny_callSpecial?_slot (name := Str.ofString "__setitem__") hl.typeIs slot_list_setitem
    (wpAny_call_entry slot_list_setitem hl.typeIs entry_list_setitem ?_ (args_list_setitem _ _ _)))
  show wpAny _ _ (Builtin.List.listSubscript? (.ref sl) >>= _) _ _ s
  refine wpAny_bind ?_
  unfold Builtin.List.listSubscript?
  refine wpAny_bind (wpAny_specialOf hTs slice_no_index ?_)
  simp only [Option.isNone_none, if_true]
  refine wpAny_pure ?_
  show wpAny _ _ (typeOf (.ref sl) >>= _) _ _ s
  refine wpAny_bind (wpAny_typeOf hTs ?_)
  first
    | rw [if_neg (by decide)]
    | refine PySem.W.KFB.if_not (by decide) ?_
  rw [listSliceParts_eq]
  refine wpAny_bind (wpAny_bind (wpAny_field hos hds (x := .none) rfl (wpAny_bind (wpAny_listPart .none ?_))))
  rw [if_neg hstep]
  refine wpAny_bind (wpAny_field hos hds (x := vl) rfl (wpAny_bind (wpAny_listPart pl ?_)))
  refine wpAny_bind (wpAny_field hos hds (x := vu) rfl (wpAny_bind (wpAny_listPart pu (wpAny_pure ?_))))
  first
    | simp only [hsame, Bool.false_eq_true, if_false]
    | refine PySem.W.KFB.if_not hsame ?_
    | (dsimp only
       rw [if_neg (by rw [hsame]; exact Bool.false_ne_true)])
  refine wpAny_bind (m := Builtin.List.listAllItems (.ref b) "must assign iterable to extended slice") ?_
  unfold Builtin.List.listAllItems
  refine wpAny_bind (wpAny_typeOf hb.typeIs ?_)
  first
    | refine PySem.W.KFB.if_so (by decide) ?_
    | rw [if_pos (by decide)]
    | simp only [beq_self_eq_true, Bool.true_or, if_true]
  unfold Builtin.List.listItems
  refine wpAny_bind (wpAny_seqItems e2 rfl (wpAny_pure ?_))
  refine wpAny_bind (wpAny_bind (wpAny_seqItems e rfl (wpAny_pure ?_)))
  refine wpAny_bind (wpAny_of_eq ((sliceIndices_raw (some (a : Int)) (some (c : Int)) none items.size (by simp)).trans (congrArg (pure : Int × Int × Int → Sem (Int × Int × Int)) (bounds_run hac hc))) ?_)
  show wpAny _ _ (if ((1 : Int) == 1) = true then _ else _) _ _ s
  rw [if_pos (by decide)]
  refine wpAny_bind (wpAny_rule ?_)
  first
    | simp only [notLongL hsz, Bool.false_eq_true, if_false]
    | refine PySem.W.KFB.if_not (notLongL hsz) ?_
  first | refine wpAny_bind (wpAny_pure ?_) | skip
  show wpAny _ _ (updateSeq l (fun xs => xs.extract 0 ((a : Int)).toNat ++ new ++ xs.extract (max (a : Int) (c : Int)).toNat xs.size) >>= _) _ _ s
  rw [hmax, Int.toNat_natCast]
  refine wpAny_bind (wpAny_updateSeq (hz := Nat.le_trans (Nat.le_add_right _ _) hsz) (_hz' := hz') e rfl ?_)
  refine wpAny_bind (wpAny_letGo ?_)
  first
    | exact wpAny_bind (wpAny_pure (wpAny_pure ⟨.none, rfl, wpAny_pure h⟩))
    | exact wpAny_pure ⟨.none, rfl, wpAny_pure h⟩
end

section
variable {X : Cx}
end
end L2

namespace Att
open PySem PySem.W PySem.Calls PyProof.Rows

/-! ### the script -/
theorem ints_of_wellAll {P : Params} {h : Heap} : ∀ (ns : List Int) (vs : List Value), WellAll P h vs (ns.map WData.int) → IntsAre vs ns := by
  intro ns
  induction ns with
  | nil =>
    intro vs w
    rw [List.map_nil] at w
    cases w
    exact .nil
  | cons n ns ih =>
    intro vs w
    rw [List.map_cons] at w
    cases w with
    | cons a b =>
      cases a
      exact .cons _ _ (ih _ b)

theorem script_of {l : OpenLaw} {n : Nat} (hn : l.most = some n) {P : Params} {h : Heap} {args : List WData} {vals : List Value}
    (hpre : l.row.toRowW.claim.pre args = true) (hwl : WellAll P h vals args) :
    ∃ a vs ns, vals = [Value.ref a] ∧ args = [WData.list (ns.map WData.int)] ∧ h.get? a = some { cls := .type "list", data := .seq vs.toArray } ∧ IntsAre vs ns ∧ ns.length ≤ n := by
  have hsh : WShape.hasAll [] args [.list .int] = true := (pre_splitW hpre).1
  have hc : l.pre.holds [] { args := args } = true := (pre_splitW hpre).2
  obtain ⟨d, r, rfl, h1, h2⟩ := hasAllW_cons hsh
  obtain rfl := hasAllW_nil h2
  obtain ⟨xs, rfl, h3⟩ := hasW_list h1
  obtain ⟨ns, rfl⟩ := items_int h3
  have hlen : ns.length ≤ n := by
    unfold OpenLaw.pre at hc
    have h4 : (WTm.not (.lt (.lit (.int (n : Int))) (.len (.arg 0)))).holds [] { args := [.list (ns.map .int)] } = true := by
      have h4 := (holds_andW hc).1
      rw [hn] at h4
      exact h4
    have h5 := condW_of h4 (w_not (w_lt w_lit (w_len_list (w_arg rfl))))
    rw [List.length_map] at h5
    refine Nat.le_of_not_lt fun q => ?_
    have q' : (n : Int) < ((ns.length : Nat) : Int) := by omega
    first
      | (rw [decide_eq_true q'] at h5; exact absurd h5 (by decide))
      | (simp at h5; omega)
  cases hwl with
  | cons w1 w2 =>
    cases w2
    cases w1 with
    | list ho hall => exact ⟨_, _, ns, rfl, rfl, ho, ints_of_wellAll ns _ hall, hlen⟩

theorem post_true (l : OpenLaw) (args : List WData) : l.row.toRowW.claim.post args (.bool true) args = true :=
  postW_of (r := l.row.toRowW) (X := (true == true))
    (show WShape.has [] (.bool true) .bool = true by first | rfl | decide | simp [WShape.has, WShape.arms, WShape.armsAll])
    (show (WTm.eq .res (.lit (.bool true))).value [] { args := args, res := some (.bool true), after := args } = some (.bool (true == true)) from w_eq_bool (w_res rfl) w_lit) rfl

/-! ### the attachment: holds_open's last premise (the goal 'hc' behind k_head) from a wpAny of the law's body -/
/-- the same from a codeAny of the CALL (for a layer whose function contracts speak of calls) -/
theorem attach_call {l : OpenLaw} {n : Nat} {q : Program} {loose : List Str} {XP : (Str → Option Value) → Heap → Prop} {YP : World → Heap → Prop} {d : DefRec}
    (hn : l.most = some n) (hdf : d.params.defaults = [])
    (call : ∀ (w : World) (s₀ s₁ : Shared) (mg mb : Str → Option Value) (fa : Addr) (o : Obj) (pm cd doc : Value) (a : Addr) (vs : List Value) (ns : List Int),
      Ground q loose [] XP w s₀ mg mb s₁.heap → YP w s₁.heap →
      s₁.heap.get? fa = some o → o.data = .func (docDef d.name d.params d.body d.scope pm cd doc) → s₁.heap.CodeRec cd d.name → mg d.name = some (.ref fa) →
      s₁.heap.get? a = some { cls := .type "list", data := .seq vs.toArray } → IntsAre vs ns → ns.length ≤ n → s₁.gens = #[] →
      codeAny (model l.prog w) callerA (.call (.ref fa) ⟨[.ref a], []⟩) (fun r s' => r = .ok (.ret (.bool true)) ∧ OldK s₁.heap s'.heap ∧ s'.os = s₁.os ∧ AllBare s'.gens) s₁) :
    WalkO q loose XP YP l.row.toRowW d [] (fun f vs => PySem.call f vs) := by
  intro w s₀ s₁ mg mb G Y fa o pm cd doc dV kV ho hd hcd hD hmg hg args vals as hpre hlay hrd hwl hlo
  obtain rfl : dV = .none := Dflts.none hD hdf
  obtain rfl : kV = .none := Dflts.noKw hD
  obtain ⟨a, vs, ns, rfl, rfl, hobj, hints, hlen⟩ := script_of hn hpre hwl
  refine enter_call (codeAny_mono (call w s₀ s₁ mg mb fa o pm cd doc a vs ns G Y ho (fd_plain hd) hcd hmg hobj hints hlen hg) fun r s' hq => ?_)
  obtain ⟨rfl, h2, h3, h4⟩ := hq
  exact ⟨.inl ⟨.bool true, .bool true, [], rfl, fun _ => rfl, .bool true, post_true l _, fun _ => ⟨List.Pairwise.nil, fun _ hm => (nomatch hm)⟩⟩, h2, h3, h4⟩

/-! ### rules over ANY heap (no ledger) from facts about the written part K: the library's own take a ledger (News) for what they write -/
section
variable {prog : Program} {w : World} {A : Around} {E : Value → Shared → Prop} {s : Shared} {K : Frag}

/-! the whole heap as the ledger: makes every rule that writes through a ledger a rule over any heap -/
def ledger (h : Heap) (L d : Addr) : List (Addr × Obj) := (List.range h.objs.size).filterMap fun a => if a = L ∨ a = d then none else (h.get? a).map fun o => (a, o)
end
end Att

namespace L2
open PySem PySem.Spec PyProof.Rows

theorem vals_ints : ∀ {vs : List Value} {ns : List Int}, IntsAre vs ns → Vals (ns.map V.int) vs
  | _, _, .nil => .nil
  | _, _, .cons n t h => .cons ⟨t, rfl⟩ (vals_ints h)

/-- nothing is tracked but the script, known to the object (or it is an object of the module) -/
def Only (H : Hp) : Prop := ∀ b, H b = none ∨ ∃ o xs, H b = some (.frz o (.lst xs))

/-- THE HEAD: the law's promise, at the heap behind the top. F, the promise of the law's def, may use that base is part of the heap (so K.In base, base.Ns mainGlobals mg stand in Mod) -/
theorem law_call {P : Program} {w : World} {K : PySem.W.Frag} {mg mb : Str → Option Value} {CX : CXT} {k : Nat} {fa a : Addr} {fd : FuncData} {x : Str} {sp : Sp} {s₁ : Shared} {vs : List Value} {ns : List Int}
    (KX : K.In s₁.heap) (hns : s₁.heap.Ns mainGlobals mg) (hb : s₁.heap.Ns builtinsNs mb) (hbb : ∀ x : Str, x ≠ "__name__" → mb x = bootBuiltins x) (hlim : s₁.heap.NoLimit) (hg : s₁.gens = #[])
    (ha : s₁.heap.get? a = some { cls := .type "list", data := .seq vs.toArray }) (hi : IntsAre vs ns) (hl : ns.length ≤ sizeLine) (hr : Room k callerA)
    (F : ∀ base : Heap, K.In base → base.Ns mainGlobals mg → FnOk P w K mg base CX k fa fd [x] sp) (hbind : ∀ (s : Shared) (u : Value), BindsTo s fd ⟨[u], []⟩ [(x, u)])
    (hsp : ∀ H : Hp, Only H → SqL K H a (ns.map V.int) → sp [.ref a] H (fun v _ => v = .bl true) fun _ _ _ => False)
    (hCX : ∀ H e s', CX [] H s₁ (fun _ _ _ => False) e s' → False) :
    codeAny (model P w) callerA (.call (.ref fa) ⟨[.ref a], []⟩) (fun r s' => r = .ok (.ret (.bool true)) ∧ OldK s₁.heap s'.heap ∧ s'.os = s₁.os ∧ AllBare s'.gens) s₁ := by
  have rv := vals_ints hi
  have lenV := hi.length
  -- from an abstract heap in which nothing but the script may be tracked
  have core : ∀ H : Hp, Only H → SqL K H a (ns.map V.int) → HOk P w H s₁.heap → (∀ b, H b ≠ none → b = a) → (H a ≠ none → K.lookup a = none) →
      codeAny (model P w) callerA (.call (.ref fa) ⟨[.ref a], []⟩) (fun r s' => r = .ok (.ret (.bool true)) ∧ OldK s₁.heap s'.heap ∧ s'.os = s₁.os ∧ AllBare s'.gens) s₁ := by
    intro H hO hS hok hA hK
    have base_of : ∀ {b : Addr} {o : Obj}, s₁.heap.get? b = some o → H b = none → (hidT s₁.heap H).get? b = some o := fun e n => hidT_get e n
    have noA : ∀ {b : Addr} {o : Obj} {es : Array DictEntry} {ep : Nat}, s₁.heap.get? b = some o → o.data = .dict es ep → H b = none := fun {b o es ep} e d => by
      cases q : H b with
      | none => rfl
      | some u =>
        have e' : b = a := hA b (by rw [q]; simp)
        subst e'
        rw [ha] at e; cases e
        have d' : Data.seq vs.toArray _ = Data.dict es ep := d
        cases d'
    have nsK : ∀ {b : Addr} {m : Str → Option Value}, s₁.heap.Ns b m → (hidT s₁.heap H).Ns b m := fun {b m} ⟨o, es, ep, e, d, r⟩ => ⟨o, es, ep, base_of e (noA e d), d, r⟩
    have hKb : K.In (hidT s₁.heap H) := fun b o e => base_of (KX b o e) (by
      cases q : H b with
      | none => rfl
      | some u =>
        have e' : b = a := hA b (by rw [q]; simp)
        subst e'
        rw [hK (by rw [q]; simp)] at e; cases e)
    have hM : Mod K mg (hidT s₁.heap H) := ⟨hKb, nsK hns, ⟨mb, nsK hb, hbb⟩, let ⟨mc, h1, h2⟩ := hlim; ⟨mc, nsK h1, h2⟩⟩
    have e0 : Env0 P w K mg (hidT s₁.heap H) callerA [] s₁ H := ⟨rfl, hM, fun b o e => of_hidT e, Nat.le_of_eq (hidT_size _ _), trivial, fun b hb => absurd (show b ∈ ([] : List Addr) from hb) (by simp), hok, .of_eq hg⟩
    refine codeAny_mono ((F _ hKb (nsK hns)).run callerA [] s₁ H ⟨[.ref a], []⟩ [.ref a] [.ref a] _ _ hr e0 (hbind s₁ (.ref a)) (.cons rfl .nil) (hsp H hO hS)) fun r s' h => ?_
    cases r with
    | error e => exact (hCX H e s' h).elim
    | ok fl =>
      cases fl with
      | next => exact False.elim h
      | brk => exact False.elim h
      | cont => exact False.elim h
      | ret u =>
        obtain ⟨v, H', os, bare, un, hok', r', q⟩ := h
        have q' : v = .bl true := q
        subst q'
        obtain rfl : u = Value.bool true := r'
        refine ⟨rfl, OldK.of_keep fun b o e => ?_, os, bare⟩
        cases q : H b with
        | none => exact un.keep b o e q (by intro z; exact absurd (show b ∈ ([] : List Addr) from z) (by simp)) (by simp)
        | some u =>
          rcases hO b with z | ⟨ob, xs, z⟩
          · rw [q] at z; cases z
          · have z2 := un.frzs b ob _ z
            obtain ⟨e1, _⟩ := hok b _ z
            obtain ⟨e2, _⟩ := hok' b _ z2
            rw [e] at e1; cases e1
            exact e2
  cases hk : K.lookup a with
  | some o =>
    -- the script is one of the module's own objects
    have e := KX a o hk
    rw [ha] at e
    cases e
    refine core (fun _ => none) (fun _ => .inl rfl) (.inr ⟨_, vs.toArray, _, hk, rfl, rfl, rfl, by rw [List.size_toArray, lenV]; exact hl, by simpa using rv⟩) (fun b u z => by have z' : (none : Option HO) = some u := z; cases z') (fun b z => absurd rfl z) fun z => absurd rfl z
  | none =>
    refine core (fun b => if b = a then some (.frz { cls := .type "list", data := .seq vs.toArray } (.lst (ns.map V.int))) else none) (fun b => ?_) (.inl (.inr ⟨{ cls := .type "list", data := .seq vs.toArray }, if_pos rfl⟩)) (fun b u z => ?_) (fun b z => ?_) fun _ => hk
    · by_cases hb : b = a
      · exact .inr ⟨_, _, if_pos hb⟩
      · exact .inl (if_neg hb)
    · by_cases hb : b = a
      · have z' := (if_pos hb).symm.trans z
        cases z'
        subst hb
        exact ⟨ha, by rw [List.length_map]; exact hl, vs, _, rv, ha⟩
      · have z' := (if_neg hb).symm.trans z
        cases z'
    · by_cases hb : b = a
      · exact hb
      · exact absurd (if_neg hb) z
end L2

namespace L2
open PySem PySem.Spec PyProof.Rows

abbrev KOf {K : PySem.W.Frag} {h : Heap} (_ : K.In h) : PySem.W.Frag := K

/-- the goal that k_head leaves (case hc), from the law's promise. F gives the function object fd (K's own) once, then the promise over every base -/
theorem walk_of {l : PySem.W.OpenLaw} {n k : Nat} {q : Program} {loose : List Str} {XP : (Str → Option Value) → Heap → Prop} {YP : World → Heap → Prop} {d : DefRec} {K : Params → PySem.W.Frag} {CX : World → CXT} {sp : World → Sp} {x : Str}
    (hn : l.most = some n) (hn2 : n ≤ sizeLine) (hdf : d.params.defaults = []) (hr : Room k callerA)
    (hY : ∀ (w : World) (h : Heap), YP w h → (K w.params).In h)
    (F : ∀ (w : World) (mg : Str → Option Value) (fa : Addr) (h : Heap), (K w.params).In h → h.Ns mainGlobals mg → mg d.name = some (.ref fa) →
      ∃ fd : FuncData, (∀ (s : Shared) (u : Value), BindsTo s fd ⟨[u], []⟩ [(x, u)]) ∧
        ∀ base : Heap, (K w.params).In base → base.Ns mainGlobals mg → FnOk l.prog w (K w.params) mg base (CX w) k fa fd [x] (sp w))
    (hsp : ∀ (w : World) (H : Hp) (a : Addr) (ns : List Int), ns.length ≤ n → Only H → SqL (K w.params) H a (ns.map V.int) → sp w [.ref a] H (fun v _ => v = .bl true) fun _ _ _ => False)
    (hCX : ∀ (w : World) (H : Hp) (s : Shared) (e : Value) (s' : Shared), CX w [] H s (fun _ _ _ => False) e s' → False) :
    PySem.W.WalkO q loose XP YP l.row.toRowW d [] (fun f vs => PySem.call f vs) := by
  refine Att.attach_call hn hdf fun w s₀ s₁ mg mb fa o pm cd doc a vs ns G Y ho hd hcd hmg hobj hints hlen hg => ?_
  have KX := hY w _ Y
  obtain ⟨fd, hb, hF⟩ := F w mg fa _ KX G.T.g hmg
  exact law_call KX G.T.g G.T.b G.T.builtins G.T.nolimit hg hobj hints (Nat.le_trans hlen hn2) hr hF hb (fun H hO hS => hsp w H a ns hlen hO hS) fun H e s' => hCX w H s₁ e s'
end L2

/- THE LAST THEOREM (shape; LID, My.* are yours):
   My.Adr: a structure of the addresses that your layer names (classes, functions); My.Txt K t: a structure (Prop) of the equations over K;
   My.txt_mk : {K} {implicit addresses ..} (e1 : nsIn K mainGlobals "law" = some (some (.ref f))) (e2 : K.lookup f = some ⟨oc, od, .func (fnOf "law" "law" params body scope dV kV doc pm an cdv ct), sl⟩) (e3 : codeIn K cdv "law" = true) .. : ∃ t, My.Txt K t

set_option maxRecDepth 100000 in
set_option maxHeartbeats 0 in
theorem PySem.Challenge.cw_LID_holds : PySem.Challenge.rw_LID.Holds := by
  w_on; o_law; k_head; (case hw => w_witness2)
  k_fill
  refine L2.walk_of (l := PySem.Challenge.rw_LID) (n := 63) (k := 40) (x := "script") (CX := fun w => ..) (sp := fun _ => My.sp_law) rfl (by decide) rfl ⟨rfl, by decide, by decide⟩ (fun w h Y => PySem.W.kIn_of Y) ?F ?S ?C
  case F =>
    intro w mg fa h KX G hmg
    have T : ∃ t, My.Txt (L2.KOf KX) t := by
      dsimp only [L2.KOf]                          -- K must stand as «<heap const> w.params» for k_is
      refine' My.txt_mk ?e1 ?e2 ?e3 ..
      (case e1 => PySem.W.k_is)                    -- in the order: a name -> its address -> its object -> its parts
      (case e2 => PySem.W.k_is)
      ..
    obtain ⟨t, T⟩ := T
    have e0 := hmg.symm.trans (PySem.W.mg_of KX G T.law)
    cases e0                                       -- fa is the law's own address
    exact ⟨_, fun s u => .of_eq rfl, fun base kb nb => My.law_fn T kb nb⟩     -- if «.of_eq rfl» comes too early: refine' ⟨_, ?b, fun base kb nb => My.law_fn T kb nb⟩; exact fun s u => .of_eq rfl
  case S => exact fun w H a ns hl hO hS => ..
  case C => exact ..
(the tactic k_is has no namespace: write k_is) -/

/-! SHORT WORDS over the layer: a def of the text, its body, what a loop and a test want. -/
namespace L2
open PySem PySem.Spec PyProof.Rows

/-! ### the text by places -/
def defArgs (s : Stmt) : Arguments := match s with
  | .FunctionDef _ a _ _ _ _ _ _ _ _ => a
  | _ => { posonlyargs := [], args := [], vararg := none, kwonlyargs := [], kw_defaults := [], kwarg := none, defaults := [] }
def defBody (s : Stmt) : List Stmt := match s with
  | .FunctionDef _ _ b _ _ _ _ _ _ _ => b
  | _ => []
def defScope (s : Stmt) : Scope := match s with
  | .FunctionDef _ _ _ _ _ _ sc _ _ _ => sc
  | _ => { kind := .function, names := [], isGenerator := false, isCoroutine := false }

/-! ### no exception leaves a def -/
abbrev CX0 : CXT := fun _ _ _ _ _ _ => False
abbrev E0 : XK := fun _ _ _ => False
theorem pass0 {X : Cx} : Passes CX0 X E0 := fun _ _ _ _ _ _ _ h => h.elim

/-! ### a def (or method) of the text as it stands behind the top -/
structure Fun (K : PySem.W.Frag) (x qual : Str) (st : Stmt) (f : Addr) (fd : FuncData) : Prop where
  ex : ∃ (oc : Value) (od : Option Addr) (kV doc pm : Value) (an : Option Addr) (cdv ct : Value) (osl : Array (Option Value)),
    fd = PySem.W.fnOf x qual (defArgs st) (defBody st) (defScope st) .none kV doc pm an cdv ct ∧ K.lookup f = some ⟨oc, od, .func fd, osl⟩ ∧ PySem.W.codeIn K cdv qual = true
  kp : PySem.W.keepIn K (.ref f) = true
section
variable {P : Program} {w : World} {K : PySem.W.Frag} {mg : Str → Option Value} {base : Heap}
/-- THE RULE for a def: its body as a term of rules, and the reading of that term -/
theorem Fun.ok {x qual : Str} {st : Stmt} {f : Addr} {fd : FuncData} {N ps : List Str} {k : Nat} {sp : Sp} (F : Fun K x qual st f fd) (S : FnScope N ps (defScope st)) (len : ∀ vs H Q E, sp vs H Q E → vs.length = ps.length)
    (hbody : ∀ (cdv : Value) (A : Around) (outer : List Env) (s : Shared) (H : Hp) (vs : List V) (Q : VK) (E : XK), Room k (A.deeper (envOfC qual (defScope st) s.heap.objs.size f cdv)) → sp vs H Q E →
      ∃ t, PSs (cxOf CX0 P w K mg base N qual (defScope st) f cdv A outer s H E).nox (defBody st) t ∧ t { nx := fun _ H' => Q .non H', rt := Q } (start N vs) H) : FnOk P w K mg base CX0 (k + 1) f fd ps sp := by
  obtain ⟨oc, od, kV, doc, pm, an, cdv, ct, osl, rfl, lk, hcd⟩ := F.ex
  refine fn_of lk hcd S len fun A outer s H vs Q E hr hsp => ?_
  obtain ⟨t, h, q⟩ := hbody cdv A outer s H vs Q E hr hsp
  exact ⟨t, h.nox, q⟩
/-- how its arguments bind (no defaults): h is «fun _ _ _ _ _ _ us hl => match us, hl with | [_, _], _ => rfl», one _ a parameter -/
theorem Fun.binds {x qual : Str} {st : Stmt} {f : Addr} {fd : FuncData} {ps : List Str} (F : Fun K x qual st f fd)
    (h : ∀ (kV doc pm : Value) (an : Option Addr) (cdv ct : Value) (us : List Value), us.length = ps.length → bindArgs (PySem.W.fnOf x qual (defArgs st) (defBody st) (defScope st) .none kV doc pm an cdv ct) ⟨us, []⟩ = pure (ps.zip us)) : Binds K fd ps [] := by
  obtain ⟨oc, od, kV, doc, pm, an, cdv, ct, osl, rfl, lk, hcd⟩ := F.ex
  exact .all (h kV doc pm an cdv ct)
theorem fun_mk {x qual : Str} {st : Stmt} {f : Addr} {oc : Value} {od an : Option Addr} {osl : Array (Option Value)} {kV doc pm cdv ct : Value} (l : K.lookup f = some ⟨oc, od, .func (PySem.W.fnOf x qual (defArgs st) (defBody st) (defScope st) .none kV doc pm an cdv ct), osl⟩)
    (c : PySem.W.codeIn K cdv qual = true) (k : PySem.W.keepIn K (.ref f) = true) : Fun K x qual st f (PySem.W.fnOf x qual (defArgs st) (defBody st) (defScope st) .none kV doc pm an cdv ct) := ⟨⟨oc, od, kV, doc, pm, an, cdv, ct, osl, rfl, l, c⟩, k⟩
end
theorem small1000 {n : Nat} (h : n ≤ 1000) : n < sizeLine := Nat.lt_of_le_of_lt h (by decide)

/-! ### expressions in short: the name that stands in the i-th slot -/
section
variable {X : Cx}
theorem pv (i : Nat) {x : Str} {pos : Pos} (hN : X.N[i]? = some x := by rfl) (hv : Vis X.env.scope x := by first | exact Or.inl rfl | exact Or.inr (Or.inl rfl) | exact Or.inr (Or.inr rfl)) (hd : (x == ("__debug__" : Str)) = false := by decide)
    (hcd : (x == ("__classdict__" : Str)) = false := by decide) : PE X (.Name x pos) (tVar i) := pe_var hN hv hd hcd
end

/-! ### tests -/
theorem iteF {A B : Prop} (h : B) : if false = true then A else B := by
  rw [if_neg Bool.false_ne_true]
  exact h
theorem iteT {A B : Prop} (h : A) : if true = true then A else B := by
  rw [if_pos rfl]
  exact h
theorem ite2 {c A B : Prop} [Decidable c] (h1 : c → A) (h2 : ¬ c → B) : if c then A else B := by
  by_cases h : c
  · rw [if_pos h]
    exact h1 h
  · rw [if_neg h]
    exact h2 h
/-! ### heaps -/
/-- all that was tracked is as it was -/
def Same (H H' : Hp) : Prop := ∀ b o, H b = some o → H' b = some o
theorem Same.refl (H : Hp) : Same H H := fun _ _ h => h
theorem Same.trans {H H1 H2 : Hp} (a : Same H H1) (b : Same H1 H2) : Same H H2 := fun c o h => b c o (a c o h)
theorem Same.free {H H' : Hp} (e : Same H H') {l : Addr} (h : H' l = Option.none) : H l = Option.none := by
  cases q : H l with
  | none => rfl
  | some o =>
    rw [e l o q] at h
    cases h
theorem Same.seq {K : PySem.W.Frag} {H H' : Hp} {a : Addr} {xs : List V} (e : Same H H') (h : SqL K H a xs) : SqL K H' a xs := by
  rcases h with (h | ⟨o, h⟩) | h
  · exact .inl (.inl (e _ _ h))
  · exact .inl (.inr ⟨o, e _ _ h⟩)
  · exact .inr h

end L2

set_option Elab.async false
set_option linter.all false
set_option maxRecDepth 100000
set_option maxHeartbeats 4000000
/-! Words of our own over the hand layer: list comprehensions, wider arithmetic, defs in short. -/
namespace L2
open PySem PySem.Spec PyProof.Rows

/-! ### one turn of a list comprehension, whatever its target -/
section
variable {prog : Program} {w : World} {A : Around} {E : Value → Shared → Prop} {R : Result → Shared → Prop} {s : Shared}
theorem compLoop_any {elt target iter : Expr} {ifs : List Expr} {scope : Scope} {pos : Pos} {it acc : Value} {env : Env} (I : Nat → Shared → Prop)
    (turn : ∀ n s, I n s → wpAny (model prog w) A (pyNext it) (fun r s1 => match r with
      | none => R (.ok .next) s1
      | some v => wpAny (model prog w) A (letOwnedTupleGo target it v) (fun _ s1' => wpAny (model prog w) A (assign target env v) (fun _ s2 =>
          wpAny (model prog w) A (forIn ifs true fun c r => if r = true then do let ok ← isTrue c env (eval c env); pure (ForInStep.yield ok) else pure (ForInStep.yield r)) (fun ok s3 =>
            if ok = true then wpAny (model prog w) A (eval elt env) (fun x s4 =>
              wpAny (model prog w) A (call (.builtin "list.append") [acc, x]) (fun _ s5 => ∃ m, m < n ∧ I m s5) (fun _ _ => False) s4) (fun _ _ => False) s3
            else ∃ m, m < n ∧ I m s3) (fun _ _ => False) s2) (fun _ _ => False) s1') (fun _ _ => False) s1) (fun _ _ => False) s)
    (n : Nat) (h : I n s) :
    codeAny (model prog w) A (.compLoop (.ListComp elt [⟨target, iter, ifs, 0⟩] scope pos) 0 it acc env) R s := by
  refine codeAny_loop rfl I (fun n s hI => ?_) n h
  show wpAny _ A ((compTurn (.ListComp elt [⟨target, iter, ifs, 0⟩] scope pos) 0 it acc env).onRaise (fun x => do noteFrame x env; theTreesLotGoes x)) _ _ s
  refine wpAny_noted ?_
  rw [compTurn_list]
  refine wpAny_bind (wpAny_standAt (wpAny_bind (wpAny_mono (turn n s hI) (fun r s1 h1 => ?_) fun _ _ h' => h'.elim)))
  cases r with
  | none => exact wpAny_pure h1
  | some v =>
    refine wpAny_bind (wpAny_mono h1 (fun _ s1' h1' => ?_) fun _ _ h' => h'.elim)
    refine wpAny_bind (wpAny_mono h1' (fun _ s2 h2 => wpAny_bind (wpAny_mono h2 (fun ok s3 h3 => ?_) fun _ _ h' => h'.elim)) fun _ _ h' => h'.elim)
    cases ok with
    | false => exact wpAny_pure ⟨rfl, h3⟩
    | true =>
      exact wpAny_bind (wpAny_bind (wpAny_mono h3 (fun x s4 h4 => wpAny_bind (wpAny_mono h4 (fun _ s5 h5 => wpAny_pure (wpAny_pure ⟨rfl, h5⟩)) fun _ _ h' => h'.elim)) fun _ _ h' => h'.elim))
end

/-! ### the closure of a comprehension -/
def clOf (cells : List (Str × Addr)) : List (Str × NameKind) → List (Str × Addr) → List (Str × Addr)
  | [], acc => acc
  | (n, k) :: r, acc => if k == .free then clOf cells r ((n, (cells.lookup n).getD 0) :: acc) else clOf cells r acc
theorem closureFor_clOf {scope : Scope} {env : Env} (h : ∀ y ∈ scope.names, y.2 = .free → ∃ c, env.cells.lookup y.1 = some c) : closureFor scope env = pure (clOf env.cells scope.names []) := by
  simp only [closureFor]
  generalize ([] : List (Str × Addr)) = acc
  revert h
  generalize scope.names = l
  intro h
  induction l generalizing acc with
  | nil => rfl
  | cons x r ih =>
    obtain ⟨n, k⟩ := x
    have hr := ih (acc := acc) fun y hy => h y (List.mem_cons_of_mem _ hy)
    cases e : (k == NameKind.free) with
    | false =>
      simp only [List.forIn_cons, clOf, e, Bool.false_eq_true, if_false]
      exact hr
    | true =>
      obtain ⟨c, hc⟩ := h (n, k) List.mem_cons_self (by simpa using e)
      have hr' := ih (acc := (n, c) :: acc) fun y hy => h y (List.mem_cons_of_mem _ hy)
      have hc' : env.cells.lookup n = some c := hc
      simp only [List.forIn_cons, clOf, e, if_true, cellOf, hc', Option.getD_some]
      exact hr'
theorem clOf_get {cells : List (Str × Addr)} : ∀ (l : List (Str × NameKind)) (acc : List (Str × Addr)) {x : Str} {c : Addr}, (∀ y ∈ l, y.2 = .free → ∃ c, cells.lookup y.1 = some c) → (clOf cells l acc).lookup x = some c → acc.lookup x = some c ∨ cells.lookup x = some c
  | [], acc, x, c, _, h => .inl h
  | (n, k) :: r, acc, x, c, hy, h => by
    have hr : ∀ y ∈ r, y.2 = .free → ∃ c, cells.lookup y.1 = some c := fun y m => hy y (List.mem_cons_of_mem _ m)
    unfold clOf at h
    cases e : (k == NameKind.free) with
    | false =>
      rw [e] at h
      exact clOf_get r acc hr h
    | true =>
      rw [e] at h
      rcases clOf_get r _ hr h with q | q
      · rw [List.lookup_cons] at q
        obtain ⟨c', hc'⟩ := hy (n, k) List.mem_cons_self (by simpa using e)
        have hc'' : cells.lookup n = some c' := hc'
        cases en : (x == n) with
        | true =>
          rw [en] at q
          have : x = n := by simpa using en
          subst this
          rw [hc''] at q
          exact .inr (hc''.trans q)
        | false =>
          rw [en] at q
          exact .inl q
      · exact .inr q
theorem clOf_has {cells : List (Str × Addr)} : ∀ (l : List (Str × NameKind)) (acc : List (Str × Addr)) {x : Str}, ((x, NameKind.free) ∈ l ∨ (acc.lookup x).isSome = true) → ((clOf cells l acc).lookup x).isSome = true
  | [], acc, x, h => by
    rcases h with h | h
    · cases h
    · exact h
  | (n, k) :: r, acc, x, h => by
    unfold clOf
    cases e : (k == NameKind.free) with
    | false =>
      simp only [Bool.false_eq_true, if_false]
      refine clOf_has r acc ?_
      rcases h with h | h
      · rcases List.mem_cons.mp h with h | h
        · injection h with h1 h2
          subst h2
          simp at e
        · exact .inl h
      · exact .inr h
    | true =>
      simp only [if_true]
      refine clOf_has r _ ?_
      cases en : (x == n) with
      | true => exact .inr (by rw [List.lookup_cons, en]; rfl)
      | false =>
        rcases h with h | h
        · rcases List.mem_cons.mp h with h | h
          · injection h with h1 h2
            subst h1
            simp at en
          · exact .inl h
        · exact .inr (by rw [List.lookup_cons, en]; exact h)
theorem mem_of_lookup {β : Type} : ∀ {l : List (Str × β)} {x : Str} {b : β}, l.lookup x = some b → (x, b) ∈ l
  | [], _, _, h => by simp at h
  | (n, k) :: r, x, b, h => by
    rw [List.lookup_cons] at h
    cases en : (x == n) with
    | true =>
      rw [en] at h
      have : x = n := by simpa using en
      subst this
      have h' : k = b := Option.some.inj h
      subst h'
      exact List.mem_cons_self
    | false =>
      rw [en] at h
      exact List.mem_cons_of_mem _ (mem_of_lookup h)

/-- a kind looked up that is free: what relabel makes of it -/
theorem relabel_free {env : Env} : ∀ {names : List (Str × NameKind)} {x : Str}, names.lookup x = some .free →
    (names.map fun (n, k) => if (k == NameKind.free && env.scope.kind == .function && env.kindOf n == some .cell) then (n, NameKind.cell) else (n, k)).lookup x = some .cell ∨
    (names.map fun (n, k) => if (k == NameKind.free && env.scope.kind == .function && env.kindOf n == some .cell) then (n, NameKind.cell) else (n, k)).lookup x = some .free
  | [], _, h => by simp at h
  | (n, k) :: r, x, h => by
    have ih := @relabel_free env r x
    cases hx : x == n with
    | true =>
      simp only [List.lookup_cons, hx] at h
      cases h
      by_cases hc : (NameKind.free == NameKind.free && env.scope.kind == .function && env.kindOf n == some .cell) = true
      · left
        show List.lookup x ((if (NameKind.free == NameKind.free && env.scope.kind == .function && env.kindOf n == some .cell) = true then (n, NameKind.cell) else (n, NameKind.free)) :: _) = _
        rw [if_pos hc]
        simp only [List.lookup_cons, hx]
      · right
        show List.lookup x ((if (NameKind.free == NameKind.free && env.scope.kind == .function && env.kindOf n == some .cell) = true then (n, NameKind.cell) else (n, NameKind.free)) :: _) = _
        rw [if_neg hc]
        simp only [List.lookup_cons, hx]
    | false =>
      simp only [List.lookup_cons, hx] at h
      have q := ih h
      by_cases hc : (k == NameKind.free && env.scope.kind == .function && env.kindOf n == some .cell) = true
      · show List.lookup x ((if (k == NameKind.free && env.scope.kind == .function && env.kindOf n == some .cell) = true then (n, NameKind.cell) else (n, k)) :: _) = _ ∨ List.lookup x ((if (k == NameKind.free && env.scope.kind == .function && env.kindOf n == some .cell) = true then (n, NameKind.cell) else (n, k)) :: _) = _
        rw [if_pos hc]; simp only [List.lookup_cons, hx]; exact q
      · show List.lookup x ((if (k == NameKind.free && env.scope.kind == .function && env.kindOf n == some .cell) = true then (n, NameKind.cell) else (n, k)) :: _) = _ ∨ List.lookup x ((if (k == NameKind.free && env.scope.kind == .function && env.kindOf n == some .cell) = true then (n, NameKind.cell) else (n, k)) :: _) = _
        rw [if_neg hc]; simp only [List.lookup_cons, hx]; exact q
/-- a kind behind relabel that is a cell's or free was free (no cell of its own) -/
theorem relabel_back {env : Env} : ∀ {names : List (Str × NameKind)} {x : Str} {k' : NameKind}, (∀ y ∈ names, y.2 ≠ .cell) →
    (names.map fun (n, k) => if (k == NameKind.free && env.scope.kind == .function && env.kindOf n == some .cell) then (n, NameKind.cell) else (n, k)).lookup x = some k' → (k' = .cell ∨ k' = .free) → (x, NameKind.free) ∈ names
  | [], _, _, _, h, _ => by simp at h
  | (n, k) :: r, x, k', hn, h, hk => by
    have ih := @relabel_back env r x k' (fun y hy => hn y (List.mem_cons_of_mem _ hy))
    have hnk : k ≠ .cell := hn (n, k) List.mem_cons_self
    replace h : List.lookup x ((if (k == NameKind.free && env.scope.kind == .function && env.kindOf n == some .cell) = true then (n, NameKind.cell) else (n, k)) :: (r.map fun (n, k) => if (k == NameKind.free && env.scope.kind == .function && env.kindOf n == some .cell) then (n, NameKind.cell) else (n, k))) = some k' := h
    by_cases hc : (k == NameKind.free && env.scope.kind == .function && env.kindOf n == some .cell) = true
    · rw [if_pos hc] at h
      have hkf : k = .free := by
        have := (Bool.and_eq_true_iff.mp (Bool.and_eq_true_iff.mp hc).1).1
        simpa using this
      cases hx : x == n with
      | true =>
        have : x = n := by simpa using hx
        subst this
        rw [hkf]
        exact List.mem_cons_self
      | false =>
        simp only [List.lookup_cons, hx] at h
        exact List.mem_cons_of_mem _ (ih h hk)
    · rw [if_neg hc] at h
      cases hx : x == n with
      | true =>
        have : x = n := by simpa using hx
        subst this
        simp only [List.lookup_cons, hx] at h
        cases h
        rcases hk with z | z
        · exact absurd z hnk
        · rw [z]
          exact List.mem_cons_self
      | false =>
        simp only [List.lookup_cons, hx] at h
        exact List.mem_cons_of_mem _ (ih h hk)

/-! ### a comprehension's block -/
def compCx (X : Cx) (scope : Scope) (C : Addr) (s0 : Shared) (H0 : Hp) (fp : List Addr) (Nc : List Str) : Cx where
  prog := X.prog
  w := X.w
  K := X.K
  mg := X.mg
  base := X.base
  A := X.A
  N := Nc
  s₀ := s0
  H₀ := H0
  env := compEnvC scope (clOf X.env.cells scope.names []) C X.env
  outer := X.stack
  stack := X.stack
  ex := fp
  fn := fun _ => false
  calm := true
  pn := []
  xe := fun _ _ => False
/-- what the names of a comprehension must be, by those of the def around it -/
def compOk (sc out : Scope) : Bool :=
  (match sc.kind with | .function => true | _ => false) && sc.names.all fun y => match y.2 with
    | .cell => false
    | .free => (match out.names.lookup y.1 with | some .cell => true | some .free => true | _ => false)
    | .local => (match sc.names.lookup y.1 with | some .local => true | _ => false)
    | _ => true
/-- the block's names: none: its own; some i: the i-th of the def around it -/
def ixOk (sc : Scope) (N : List Str) : List Str → List (Option Nat) → Bool
  | [], [] => true
  | _ :: xs, none :: r => ixOk sc N xs r
  | x :: xs, some i :: r => (match N[i]? with | some y => decide (y = x) | none => false) && (match sc.names.lookup x with | some .free => true | _ => false) && ixOk sc N xs r
  | _, _ => false
def cSt (σ : St) : List (Option Nat) → St
  | [] => []
  | none :: r => none :: cSt σ r
  | some i :: r => (match σ[i]? with | some v => v | none => none) :: cSt σ r
theorem ixOk_len {sc : Scope} {N : List Str} : ∀ {xs : List Str} {ix : List (Option Nat)}, ixOk sc N xs ix = true → ix.length = xs.length
  | [], [], _ => rfl
  | [], _ :: _, h => by cases h
  | _ :: _, [], h => by cases h
  | _ :: xs, none :: r, h => by
    have h' : ixOk sc N xs r = true := h
    simp [ixOk_len h']
  | x :: xs, some i :: r, h => by
    have h' : ((match N[i]? with | some y => decide (y = x) | none => false) && (match sc.names.lookup x with | some .free => true | _ => false) && ixOk sc N xs r) = true := h
    simp [ixOk_len (Bool.and_eq_true_iff.mp h').2]
theorem cSt_len {σ : St} : ∀ (ix : List (Option Nat)), (cSt σ ix).length = ix.length
  | [] => rfl
  | none :: r => by simp [cSt, cSt_len r]
  | some i :: r => by simp [cSt, cSt_len r]
theorem cSt_get {sc : Scope} {N : List Str} {σ : St} : ∀ {xs : List Str} {ix : List (Option Nat)} {j : Nat} {x : Str} {v : V}, ixOk sc N xs ix = true → xs[j]? = some x → (cSt σ ix)[j]? = some (some v) →
    ∃ i : Nat, N[i]? = some x ∧ σ[i]? = some (some v) ∧ sc.names.lookup x = some .free
  | [], _, j, x, v, _, h, _ => by simp at h
  | _ :: _, [], j, x, v, h, _, _ => by cases h
  | _ :: xs, none :: r, 0, x, v, _, _, e => by simp [cSt] at e
  | _ :: xs, none :: r, j + 1, x, v, h, h1, e => by
    have h' : ixOk sc N xs r = true := h
    exact cSt_get (j := j) h' (by simpa using h1) (by simpa [cSt] using e)
  | y :: xs, some i :: r, 0, x, v, h, h1, e => by
    have h' : ((match N[i]? with | some z => decide (z = y) | none => false) && (match sc.names.lookup y with | some .free => true | _ => false) && ixOk sc N xs r) = true := h
    have h1' : y = x := by simpa using h1
    subst h1'
    obtain ⟨h2, _⟩ := Bool.and_eq_true_iff.mp h'
    obtain ⟨h3, h4⟩ := Bool.and_eq_true_iff.mp h2
    refine ⟨i, ?_, ?_, ?_⟩
    · cases q : N[i]? with
      | none => rw [q] at h3; cases h3
      | some z => rw [q] at h3; simp at h3; rw [h3]
    · cases q : σ[i]? with
      | none => simp [cSt, q] at e
      | some z => simp [cSt, q] at e; rw [e]
    · cases q : sc.names.lookup y with
      | none => rw [q] at h4; cases h4
      | some k => rw [q] at h4; cases k <;> first | rfl | cases h4
  | y :: xs, some i :: r, j + 1, x, v, h, h1, e => by
    have h' : ((match N[i]? with | some z => decide (z = y) | none => false) && (match sc.names.lookup y with | some .free => true | _ => false) && ixOk sc N xs r) = true := h
    exact cSt_get (j := j) (Bool.and_eq_true_iff.mp h').2 (by simpa using h1) (by simpa [cSt] using e)

/-- the tests of a comprehension -/
def PIfs (X : Cx) (ifs : List Expr) (t : TT) : Prop :=
  ∀ (pins : List (Addr × Obj)) (s : Shared) (σ : St) (H : Hp) (Q : Bool → Hp → Prop), Inv X pins σ H s → t σ H Q →
    wpAny (model X.prog X.w) X.A (forIn ifs true fun c r => if r = true then do let ok ← isTrue c X.env (eval c X.env); pure (ForInStep.yield ok) else pure (ForInStep.yield r)) (TP X pins σ Q) X.xe s
def tYes : TT := fun _ H Q => Q true H
theorem pifs_nil {X : Cx} : PIfs X [] tYes := fun _ _ _ H _ I h => wpAny_tests_nil ⟨H, I, h⟩
theorem pifs_one {X : Cx} {c : Expr} {t : TT} (h : PT X c t) : PIfs X [c] t := fun pins s σ H Q I q => wpAny_tests_one (h pins s σ H Q I q)

/-- what is known of the names stays known -/
def Agree (σ σ' : St) : Prop := σ'.length = σ.length ∧ ∀ (j : Nat) v, σ[j]? = some (some v) → σ'[j]? = some (some v)
theorem Agree.one (o o' : Option V) (σ : St) (h : o = none) : Agree (o :: σ) (o' :: σ) := ⟨rfl, fun j v e => by
  cases j with
  | zero => subst h; simp at e
  | succ j => simpa using e⟩
theorem Agree.two (a b : Option V) (σ : St) : Agree (none :: none :: σ) (a :: b :: σ) := ⟨rfl, fun j v e => by
  cases j with
  | zero => simp at e
  | succ j =>
    cases j with
    | zero => simp at e
    | succ j => simpa using e⟩
def CompW (J : It) (D : Addr) (g : TG) (tt : TT) (te : TE) (σ0 : St) (H0 : Hp) (Q : VK) : Prop :=
  ∃ W : Nat → Nat → List V → Hp → Prop, (∃ m, W 0 m [] H0) ∧ ∀ i m ys H2, W i m ys H2 → H2 D = some (.lst ys) ∧
    ((J.stop i H2 ∧ Q (.ref D) H2) ∨ (J.go i H2 ∧ ys.length < sizeLine ∧ ∃ (N : V → Hp → Prop) (N' : Hp → Prop),
      (∀ y H6, N y H6 → H6 D = some (.lst ys) ∧ ∃ m', m' < m ∧ W (i + 1) m' (ys ++ [y]) (upd H6 D (.lst (ys ++ [y])))) ∧ (∀ H5, N' H5 → ∃ m', m' < m ∧ W (i + 1) m' ys H5) ∧
      ∀ x H3, J.yld i H2 x H3 → g x σ0 H3 fun σ4 H4 => Agree σ0 σ4 ∧ tt σ4 H4 fun b H5 => if b = true then te σ4 H5 N else N' H5))
def tComp (ix : List (Option Nat)) (wi : TI) (g : TG) (tt : TT) (te : TE) : TE := fun σ H Q => wi σ H fun J H1 => ∀ D, H1 D = none → CompW J D g tt te (cSt σ ix) (upd H1 D (.lst [])) Q

section
variable {X : Cx} {tg iter elt : Expr} {ifs : List Expr} {scope : Scope} {pos : Pos} {pins : List (Addr × Obj)} {σ : St} {H : Hp} {s : Shared}
theorem compOk_kind (ok : compOk scope X.env.scope = true) : scope.kind = .function := by
  have h := (Bool.and_eq_true_iff.mp ok).1
  cases e : scope.kind <;> rw [e] at h <;> first | rfl | cases h
theorem compOk_all (ok : compOk scope X.env.scope = true) : ∀ y ∈ scope.names, (match y.2 with
    | .cell => false
    | .free => (match X.env.scope.names.lookup y.1 with | some .cell => true | some .free => true | _ => false)
    | .local => (match scope.names.lookup y.1 with | some .local => true | _ => false)
    | _ => true) = true := List.all_eq_true.mp (Bool.and_eq_true_iff.mp ok).2
theorem compOk_cell (ok : compOk scope X.env.scope = true) : ∀ y ∈ scope.names, y.2 ≠ .cell := fun y hy e => by
  have h := compOk_all ok y hy
  rw [e] at h
  cases h
theorem compOk_local (ok : compOk scope X.env.scope = true) : ∀ y ∈ scope.names, y.2 = .local → scope.names.lookup y.1 = some .local := fun y hy e => by
  have h := compOk_all ok y hy
  rw [e] at h
  dsimp only at h
  cases q : scope.names.lookup y.1 with
  | none => rw [q] at h; cases h
  | some k => rw [q] at h; cases k <;> first | rfl | cases h
theorem compOk_free (ok : compOk scope X.env.scope = true) : ∀ y ∈ scope.names, y.2 = .free → X.env.kindOf y.1 = some .cell ∨ X.env.kindOf y.1 = some .free := fun y hy e => by
  have h := compOk_all ok y hy
  rw [e] at h
  dsimp only at h
  show X.env.scope.names.lookup y.1 = _ ∨ X.env.scope.names.lookup y.1 = _
  cases q : X.env.scope.names.lookup y.1 with
  | none => rw [q] at h; cases h
  | some k => rw [q] at h; cases k <;> first | exact .inl rfl | exact .inr rfl | cases h
theorem comp_cells (I : Inv X pins σ H s) (ok : compOk scope X.env.scope = true) : ∀ y ∈ scope.names, y.2 = .free → ∃ c, X.env.cells.lookup y.1 = some c := fun y hy e => I.ok.has y.1 (compOk_free ok y hy e)
theorem comp_cl (I : Inv X pins σ H s) (ok : compOk scope X.env.scope = true) {x : Str} {c : Addr} (h : (clOf X.env.cells scope.names []).lookup x = some c) : X.env.cells.lookup x = some c := by
  rcases clOf_get _ _ (comp_cells I ok) h with q | q
  · simp at q
  · exact q

/-- the block's entry -/
theorem comp_inv {C : Addr} {fp : List Addr} {Nc : List Str} {ix : List (Option Nat)} {h1 : Heap} {tk : Nat} {m : Str → Option Value} (I : Inv X pins σ H s) (hc : X.calm = true) (ok : compOk scope X.env.scope = true) (hix : ixOk scope X.N Nc ix = true)
    (hfp : ∀ b ∈ fp, FpOk X pins H b ∧ b < s.heap.objs.size) (hC : C = s.heap.objs.size) (hns : h1.Ns C m) (hk : ∀ b o, s.heap.get? b = some o → h1.get? b = some o) :
    Inv (compCx X scope C s H fp Nc) [] (cSt σ ix) H { s with heap := h1, toks := tk } := by
  have lt : ∀ b o, s.heap.get? b = some o → b ≠ C := fun b o e => by rw [hC]; exact Nat.ne_of_lt (Heap.lt_size e)
  have nfs : ∀ b ∈ fp, b ∉ frs X.stack := fun b hb z => by
    obtain ⟨f1, f2, f3, _⟩ := (hfp b hb).1
    rcases List.mem_cons.mp (I.stkSub b z) with q | q
    · exact f2 q
    · exact f3 q
  refine ⟨⟨I.ok.mod, (compOk_kind (X := X) (scope := scope) ok), I.ok.glob, I.ok.blt, Nat.le_of_eq hC.symm, fun x y c e1 e2 => I.ok.inj x y c (comp_cl I ok e1) (comp_cl I ok e2), fun x hx => ?_, (fun _ _ z => nomatch z), fun _ => I.ok.hd hc, I.ok.frames, .inl rfl, fun b hb => ⟨?_, fun x c e => ?_⟩, I.bs, Nat.le_trans I.ok.bsz I.sz, fun b o e hb => ?_, nfs, I.stack, I.stkFree⟩,
    rfl, I.bare, Un.kept hk, ⟨m, hns, fun i x v e1 e2 e3 => ?_⟩, fun x c e => ?_, ?_, fun x c e => I.freeC x c (comp_cl I ok e), (fun p hp => by cases hp), I.hok.kept hk, ?_⟩
  · -- has
    have hmem : (x, NameKind.free) ∈ scope.names := by
      rcases hx with hx | hx
      · exact relabel_back (env := X.env) (compOk_cell ok) hx (.inl rfl)
      · exact relabel_back (env := X.env) (compOk_cell ok) hx (.inr rfl)
    have q := clOf_has (cells := X.env.cells) scope.names [] (x := x) (.inl hmem)
    exact Option.isSome_iff_exists.mp q
  · rw [show (compCx X scope C s H fp Nc).env.locals = C from rfl, hC]
    exact Nat.ne_of_lt (hfp b hb).2
  · exact (hfp b hb).1.2.2.2.2.1 x c (comp_cl I ok e)
  · obtain ⟨_, _, _, f4, _⟩ := (hfp b hb).1
    rcases f4 with z | z
    · exact I.ok.noex b o e z
    · exact absurd (Nat.lt_of_lt_of_le (Heap.lt_size e) (Nat.le_trans I.ok.bsz z)) (Nat.lt_irrefl _)
  · obtain ⟨j, n1, n2, n3⟩ := cSt_get hix e1 e2
    have hmem : (x, NameKind.free) ∈ scope.names := mem_of_lookup n3
    have hkind := compOk_free ok (x, .free) hmem rfl
    obtain ⟨mX, _, hl⟩ := I.loc
    have hvis : Vis X.env.scope x := .inr hkind
    obtain ⟨u, r, l⟩ := hl j x v n1 n2 hvis
    refine ⟨u, r, ?_⟩
    rcases l with ⟨k1, _⟩ | ⟨_, c, e, z⟩
    · rcases hkind with q | q
      · rw [q] at k1; cases k1
      · rw [q] at k1; cases k1
    · refine .inr ⟨relabel_free n3, c, ?_, ?_⟩
      · have q := clOf_has (cells := X.env.cells) scope.names [] (x := x) (.inl hmem)
        obtain ⟨c', hc'⟩ := Option.isSome_iff_exists.mp q
        have := comp_cl I ok hc'
        rw [e] at this
        cases this
        exact hc'
      · obtain ⟨o, ho, hd⟩ := z
        exact ⟨o, hk c o ho, hd⟩
  · obtain ⟨v, o, ho, hd⟩ := I.cell x c (comp_cl I ok e)
    exact ⟨v, o, hk c o ho, hd⟩
  · rw [show (compCx X scope C s H fp Nc).env.locals = C from rfl, hC]
    exact I.hok.fresh (Nat.le_refl _)
  · rw [cSt_len, ixOk_len hix]
    rfl

theorem comp_run {g : TG} {tt : TT} {te : TE} {Nc : List Str} {ix : List (Option Nat)} {it : Addr} {fp : List Addr} {tn : Nat → Heap → Prop} {J : It} {Q : VK} {E : Value → Shared → Prop} {RR : Value → Addr → Result → Shared → Prop}
    (I : Inv X pins σ H s) (hc : X.calm = true) (ok : compOk scope X.env.scope = true) (hix : ixOk scope X.N Nc ix = true)
    (hg : ∀ C s0 H0 fp, PG (compCx X scope C s0 H0 fp Nc) tg g) (ht : ∀ C s0 H0 fp, PIfs (compCx X scope C s0 H0 fp Nc) ifs tt) (he : ∀ C s0 H0 fp, PE (compCx X scope C s0 H0 fp Nc) elt te)
    (T : Turn X.prog X.w X.K tg J fp it tn) (t0 : tn 0 s.heap) (f0 : ∀ b ∈ fp, FpOk X pins H b)
    (h : ∀ D, H D = none → CompW J D g tt te (cSt σ ix) (upd H D (.lst [])) Q)
    (hRR : ∀ D C s' H' m, Inv X pins σ H' s' → s'.heap.Ns C m → H' C = none → X.s₀.heap.objs.size ≤ C → C ≠ X.env.locals → (∀ x c, X.env.cells.lookup x = some c → c ≠ C) → (∀ p ∈ X.pn ++ pins, p.1 ≠ C) → Q (.ref D) H' → RR (.ref D) C (.ok .next) s') :
    wpAny (model X.prog X.w) X.A (newList []) (fun acc s3 => wpAny (model X.prog X.w) X.A (newFunctionEnv scope X.env.globals (clOf X.env.cells scope.names []) [] X.env.qual none .none (some X.env)) (fun cenv s4 =>
      codeAny (model X.prog X.w) X.A (.compStart (.ListComp elt [⟨tg, iter, ifs, 0⟩] scope pos) 0 (.ref it) acc { cenv with scope := relabel scope X.env }) (RR acc cenv.locals) s4) E s3) E s := by
  have hD : H s.heap.objs.size = none := I.fresh
  obtain ⟨W, ⟨m0, w0⟩, turn⟩ := h _ hD
  refine wpAny_newList ?_
  have I0 := I.lnew (its := []) (ys := []) (t' := s.toks) .nil (Nat.zero_le _)
  have hold : ∀ b o, s.heap.get? b = some o → (s.heap.push { cls := .type "list", data := .seq ([] : List Value).toArray }).get? b = some o := fun b o e => Heap.get?_push_of_some _ e
  have f0' : ∀ b ∈ fp, FpOk X pins (upd H s.heap.objs.size (.lst [])) b ∧ b < (s.heap.push { cls := .type "list", data := .seq ([] : List Value).toArray }).objs.size := fun b hb => by
    obtain ⟨o, ho, _⟩ := T.obj _ _ t0 b hb
    have hlt := Heap.lt_size ho
    refine ⟨⟨?_, (f0 b hb).2⟩, Heap.lt_size (hold b o ho)⟩
    rw [upd_ne (Nat.ne_of_lt hlt)]
    exact (f0 b hb).1
  have t0' : tn 0 (s.heap.push { cls := .type "list", data := .seq ([] : List Value).toArray }) := T.keep _ _ _ t0 fun b hb o e => hold b o e
  clear f0 t0 I
  generalize hs0 : ({ s with heap := s.heap.push { cls := .type "list", data := .seq ([] : List Value).toArray }, toks := s.toks } : Shared) = s0 at I0
  have es0 : s0.heap = s.heap.push { cls := .type "list", data := .seq ([] : List Value).toArray } := by rw [← hs0]
  rw [← es0] at f0' t0'
  generalize s.heap.objs.size = D at *
  generalize upd H D (.lst []) = H0 at *
  refine wpAny_newFunctionEnv (compOk_cell ok) (by intro y hy; simp at hy) (fun h1 hns1 hsb1 => ?_) (compOk_kind ok)
  generalize hCe : s0.heap.objs.size = C at hns1 hsb1
  have hk1 : ∀ b o, s0.heap.get? b = some o → h1.get? b = some o := fun b o e => hsb1.extBut b o (by rw [← hCe]; exact Nat.ne_of_lt (Heap.lt_size e)) (Heap.get?_push_of_some _ e)
  have IC := comp_inv (C := C) (fp := fp) (Nc := Nc) (ix := ix) (h1 := h1) (tk := s0.toks + ([] : List (Str × Value)).length) I0 hc ok hix f0' hCe.symm hns1 hk1
  have t1 : tn 0 h1 := T.keep _ _ _ t0' fun b hb o e => hk1 b o e
  have fpx : ∀ {H' : Hp} {pl : List (Addr × Obj)}, (∀ p ∈ pl, p.1 ∉ fp) → (∀ b ∈ fp, H' b = none) → ∀ b ∈ fp, FpOk (compCx X scope C s0 H0 fp Nc) pl H' b := fun {H' pl} hpl hn b hb =>
    ⟨hn b hb, (IC.ok.exf b hb).1, IC.ok.exfs b hb, .inl hb, (IC.ok.exf b hb).2, fun p hp e => hpl p (by simpa [compCx] using hp) (e ▸ hb)⟩
  have loop : ∀ s1 : Shared, s1 = { s0 with heap := h1, toks := s0.toks + ([] : List (Str × Value)).length } →
      codeAny (model X.prog X.w) X.A (.compLoop (.ListComp elt [⟨tg, iter, ifs, 0⟩] scope pos) 0 (.ref it) (.ref D) (compCx X scope C s0 H0 fp Nc).env) (RR (.ref D) C) s1 := by
    rintro s1 rfl
    refine compLoop_any (fun n s' => ∃ i ys H', Inv (compCx X scope C s0 H0 fp Nc) [] (cSt σ ix) H' s' ∧ tn i s'.heap ∧ (∀ b ∈ fp, H' b = none) ∧ W i n ys H') ?_ m0 ⟨0, [], _, IC, t1, fun b hb => (f0' b hb).1.1, w0⟩
    rintro n s3 ⟨i, ys, H3, I3, st3, fr3, w3⟩
    obtain ⟨hD3, alt⟩ := turn i n ys H3 w3
    rcases alt with ⟨stop, qn⟩ | ⟨go, hlen, N, N', hN, hN', step⟩
    · refine thn (T.done (compCx X scope C s0 H0 fp Nc) rfl rfl rfl rfl i [] s3 _ H3 (fun _ _ => False) I3 (fpx (fun p hp => by cases hp) fr3) st3 stop) fun r s4 ⟨hr, I4⟩ => ?_
      subst hr
      have J4 : Inv X pins σ H3 s4 := I0.call' (s' := s4) (ch := fp) I4.os I4.base I4.hok I4.bare fun b hb => ⟨(f0' b hb).1.2.2.2.1, (f0' b hb).1.2.1, (f0' b hb).1.2.2.2.2.1, (f0' b hb).1.2.2.2.2.2⟩
      obtain ⟨m4, hn4, _⟩ := I4.loc
      exact hRR D C s4 H3 m4 J4 hn4 I4.free (by rw [← hCe]; exact I0.sz) (by rw [← hCe]; exact (Nat.ne_of_lt I0.lt).symm)
        (fun x c e z => by
          obtain ⟨_, o, ho, _⟩ := I0.cell x c e
          have := Heap.lt_size ho
          rw [z, ← hCe] at this
          exact Nat.lt_irrefl _ this)
        (fun p hp z => by
          have := Heap.lt_size (I0.pin p hp).1
          rw [z, ← hCe] at this
          exact Nat.lt_irrefl _ this) qn
    · refine thn (T.item (compCx X scope C s0 H0 fp Nc) rfl rfl rfl rfl i [] s3 _ H3 (fun _ _ => False) I3 (fpx (fun p hp => by cases hp) fr3) st3 go) fun r s4 ⟨u, hr, h4⟩ => ?_
      subst hr
      refine thn h4 fun _ s5 ⟨x, H5, I5, r5, y5, st5, fr5⟩ => ?_
      have I5' := I5.pinned (fpx (fun p hp => by cases hp) fr5) (T.obj _ _ st5)
      refine thn (hg C s0 H0 fp _ s5 _ H5 x u _ I5' r5 (step x H5 y5)) fun _ s6 ⟨σ6, H6, I6, hag, q6⟩ => ?_
      refine thn (ht C s0 H0 fp _ s6 σ6 H6 _ I6 q6) fun ok7 s7 ⟨H7, I7, q7⟩ => ?_
      have again : ∀ {H8 : Hp} {s8 : Shared} {zs : List V} {m' : Nat}, Inv (compCx X scope C s0 H0 fp Nc) ([] ++ pinsAt fp s5.heap) σ6 H8 s8 → m' < n → W (i + 1) m' zs H8 →
          ∃ m, m < n ∧ ∃ i ys H', Inv (compCx X scope C s0 H0 fp Nc) [] (cSt σ ix) H' s8 ∧ tn i s8.heap ∧ (∀ b ∈ fp, H' b = none) ∧ W i m ys H' := fun {H8 s8 zs m'} I8 hm w8 => by
        refine ⟨m', hm, i + 1, zs, H8, I8.unpinned.weak hag.1.symm hag.2, T.keep _ _ _ st5 fun b hb o e => (I8.pin (b, o) (List.mem_append_right _ (List.mem_append_right _ (mem_pinsAt hb e)))).1, fun b hb => ?_, w8⟩
        obtain ⟨o, e, d⟩ := T.obj _ _ st5 b hb
        exact (I8.pin (b, o) (List.mem_append_right _ (List.mem_append_right _ (mem_pinsAt hb e)))).2.1
      cases ok7 with
      | false =>
        rw [if_neg Bool.false_ne_true] at q7 ⊢
        obtain ⟨m', hm, w7⟩ := hN' _ q7
        exact again I7 hm w7
      | true =>
        rw [if_pos rfl] at q7 ⊢
        refine thn (he C s0 H0 fp _ s7 σ6 H7 _ I7 q7) fun y s8 ⟨yv, H8, I8, r8, q8⟩ => ?_
        obtain ⟨hD8, m', hm, w8⟩ := hN _ _ q8
        refine thn (mt_append (X := compCx X scope C s0 H0 fp Nc) _ s8 σ6 H8 (.ref D) [yv] (.ref D) [y] (fun v H9 => v = .non ∧ H9 = upd H8 D (.lst (ys ++ [yv]))) I8 rfl (.cons r8 .nil) ⟨D, ys, yv, rfl, rfl, hD8, hlen, rfl, rfl⟩) fun _ s9 ⟨v9, H9, I9, _, _, e9⟩ => ?_
        subst e9
        exact again I9 hm w8
  exact codeAny_compStart_list (loop _ rfl) (T.self X.A 0 _ _ _ t1 (loop _ rfl))

/-- [e for t in it if c] as a value -/
theorem pe_comp {wi : TI} {g : TG} {tt : TT} {te : TE} (Nc : List Str) (ix : List (Option Nat)) (hc : X.calm = true) (ok : compOk scope X.env.scope = true) (hix : ixOk scope X.N Nc ix = true)
    (hi : PI X tg iter wi) (hg : ∀ C s0 H0 fp, PG (compCx X scope C s0 H0 fp Nc) tg g) (ht : ∀ C s0 H0 fp, PIfs (compCx X scope C s0 H0 fp Nc) ifs tt) (he : ∀ C s0 H0 fp, PE (compCx X scope C s0 H0 fp Nc) elt te)
    (hs : ∀ x, foldedSetIterable iter X.env x = pure x := by intro _; rfl) : PE X (.ListComp elt [⟨tg, iter, ifs, 0⟩] scope pos) (tComp ix wi g tt te) := by
  intro pins s σ H Q I h
  rw [eval_ListComp]
  refine wpAny_comprehension_free (use := none) rfl hs (closureFor_clOf (comp_cells I ok)) (compOk_kind ok) (compOk_local ok) (thn (hi pins s σ H _ I h) fun xv s1 h1 => thn h1 fun itv s2 h2 => ?_)
  obtain ⟨it, fp, tn, J, H2, rfl, I2, T, st2, f2, q2⟩ := h2
  exact comp_run (RR := fun acc C => compPost (model X.prog X.w) X.A X.xe none (EP X pins σ Q) acc C) I2 hc ok hix hg ht he T st2 f2 q2
    (fun D C s' H' m J' hn hC h1 h2 h3 h4 q => ⟨m, hn, fun h' hs' => ⟨.ref D, H', J'.turned (t' := s'.toks) (fun b o nb e => hs'.extBut b o nb e) hC h2 (.inr h1) h3 h4, rfl, q⟩⟩)
/-- x = [e for t in it if c], x a plain local: the value is stored ahead of the block's end -/
theorem ps_setC {wi : TI} {g : TG} {tt : TT} {te : TE} {i : Nat} {y : Str} {py spos : Pos} (hN : X.N.Nodup) (hy : X.N[i]? = some y) (hx : Loc X.env.scope y) (Nc : List Str) (ix : List (Option Nat)) (hc : X.calm = true) (ok : compOk scope X.env.scope = true) (hix : ixOk scope X.N Nc ix = true)
    (hi : PI X tg iter wi) (hg : ∀ C s0 H0 fp, PG (compCx X scope C s0 H0 fp Nc) tg g) (ht : ∀ C s0 H0 fp, PIfs (compCx X scope C s0 H0 fp Nc) ifs tt) (he : ∀ C s0 H0 fp, PE (compCx X scope C s0 H0 fp Nc) elt te)
    (hs : ∀ x, foldedSetIterable iter X.env x = pure x := by intro _; rfl)
    (hsw : swapsWith (.ListComp elt [⟨tg, iter, ifs, 0⟩] scope pos) (some (.Name y py)) spos.line X.env = pure true := by rfl) (hf : X.fn y = true ∨ X.env.scope.names.lookup y = some .local := by first | exact .inl rfl | exact .inr rfl | assumption) :
    PS X (.Assign [.Name y py] (.ListComp elt [⟨tg, iter, ifs, 0⟩] scope pos) spos) (tAsg (tComp ix wi g tt te) (gName i)) := by
  intro pins s σ H Dn I h
  rw [exec_Assign_Name_used _ _ _ _ hsw]
  refine wpAny_bind (wpAny_standAt (wpAny_bind ?_))
  show wpAny _ X.A (do let _ ← comprehension (.ListComp elt [⟨tg, iter, ifs, 0⟩] scope pos) scope X.env _ (newList []) false (eval iter X.env) (some (assign (.Name y py) X.env))) _ _ s
  refine wpAny_bind (wpAny_mono (wpAny_comprehension_free (use := some (assign (.Name y py) X.env)) (Q := fun _ s' => SP X pins Dn .next s') rfl hs (closureFor_clOf (comp_cells I ok)) (compOk_kind ok) (compOk_local ok)
    (thn (hi pins s σ H _ I h) fun xv s1 h1 => thn h1 fun itv s2 h2 => ?_)) (fun _ s' hq => wpAny_pure (wpAny_pure hq)) fun _ _ e => e)
  obtain ⟨it, fp, tn, J, H2, rfl, I2, T, st2, f2, q2⟩ := h2
  refine comp_run (RR := fun acc C => compPost (model X.prog X.w) X.A X.xe (some (assign (.Name y py) X.env)) (fun _ s' => SP X pins Dn .next s') acc C) I2 hc ok hix hg ht he T st2 f2 q2
    (fun D C s' H' m J' hn hC h1 h2 h3 h4 q => ?_)
  show wpAny _ X.A (assign (.Name y py) X.env (.ref D)) _ _ _
  refine wpAny_assign_Name (store_ok2 J' hN hy hx (v := .ref D) rfl (fun s'' J'' ⟨a, hsb, ha⟩ => ⟨m, hn.sameBut hsb ?_, fun h' hs' => ⟨_, H', J''.turned (t' := s''.toks) (fun b o nb e => hs'.extBut b o nb e) hC h2 (.inr h1) h3 h4, q⟩⟩) hf)
  rcases ha with ha | ha
  · rw [ha]
    exact h2
  · exact (h3 _ _ ha).symm
end

/-! ### the forms one uses -/
/-- all but D is as it was -/
def Keep (D : Addr) (H H' : Hp) : Prop := ∀ b o, b ≠ D → H b = some o → H' b = some o
theorem Same.keep {H H' : Hp} (h : Same H H') (D : Addr) : Keep D H H' := fun b o _ e => h b o e
theorem Keep.upd {H : Hp} {D : Addr} {o : HO} : Keep D H (upd H D o) := fun b u n e => by rw [upd_ne n]; exact e
theorem Same.upd {H : Hp} {D : Addr} {o : HO} (h : H D = none) : Same H (upd H D o) := fun b u e => by rw [upd_ne (ne_of_none e h)]; exact e
theorem Same.updT {H H' : Hp} {D : Addr} {o : HO} (s : Same H H') (h : H D = none) : Same H (L2.upd H' D o) := fun b u e => by rw [upd_ne (ne_of_none e h)]; exact s b u e
/-- without a test, one name: the turn's value is xv i; what the element gives at turn i is told by R -/
theorem comp1 {J : It} {D : Addr} {te : TE} {σf : St} {H1 : Hp} {Q : VK} (n : Nat) (xv : Nat → V) (R : Nat → V → Hp → Prop) (hn : n < sizeLine) (hD1 : H1 D = none)
    (hgo : ∀ i H, i < n → Same H1 H → J.go i H) (hst : ∀ H, Same H1 H → J.stop n H) (hy : ∀ i H x H', i < n → Same H1 H → J.yld i H x H' → x = xv i ∧ H' = H)
    (mono : ∀ i y H H', Keep D H H' → R i y H → R i y H')
    (hs : ∀ i H ys (N : VK), i < n → Same H1 H → H D = some (.lst ys) → (∀ y H', Same H H' → R i y H' → N y H') → te (some (xv i) :: σf) H N)
    (hd : ∀ ys H, Same H1 H → H D = some (.lst ys) → ys.length = n → (∀ (i : Nat) y, ys[i]? = some y → R i y H) → Q (.ref D) H) : CompW J D (gName 0) tYes te (none :: σf) (upd H1 D (.lst [])) Q := by
  refine ⟨fun i m ys H => i ≤ n ∧ m = n - i ∧ Same H1 H ∧ H D = some (.lst ys) ∧ ys.length = i ∧ ∀ j y, ys[j]? = some y → R j y H, ⟨n, Nat.zero_le _, rfl, Same.upd hD1, upd_same, rfl, fun j y e => by simp at e⟩, ?_⟩
  rintro i m ys H ⟨hi, rfl, s1, d1, l1, r1⟩
  refine ⟨d1, ?_⟩
  by_cases hlt : i < n
  · refine .inr ⟨hgo i H hlt s1, by rw [l1]; exact Nat.lt_trans hlt hn, fun y H' => Same H H' ∧ R i y H', fun _ => False, fun y H6 q => ?_, fun _ z => z.elim, fun x H' y => ?_⟩
    · obtain ⟨s6, r6⟩ := q
      refine ⟨s6 _ _ d1, n - (i + 1), by omega, hlt, rfl, (s1.trans s6).updT hD1, upd_same, by simp [l1], fun j z e => ?_⟩
      by_cases hj : j < ys.length
      · rw [List.getElem?_append_left hj] at e
        exact mono _ _ _ _ Keep.upd (mono _ _ _ _ (s6.keep D) (r1 j z e))
      · have hj' : j = ys.length := by
          have := (List.getElem?_eq_some_iff.mp e).1
          simp at this
          omega
        subst hj'
        simp at e
        subst e
        rw [l1]
        exact mono _ _ _ _ Keep.upd r6
    · obtain ⟨rfl, rfl⟩ := hy i H x H' hlt s1 y
      refine ⟨Agree.one _ _ _ rfl, ?_⟩
      show if true = true then te (some (xv i) :: σf) H' (fun y H'' => Same H' H'' ∧ R i y H'') else False
      rw [if_pos rfl]
      exact hs i H' ys _ hlt s1 d1 fun y H6 a b => ⟨a, b⟩
  · obtain rfl : i = n := Nat.le_antisymm hi (Nat.not_lt.mp hlt)
    exact .inl ⟨hst H s1, hd ys H s1 d1 l1 r1⟩
/-- over a range -/
theorem comp_range {lo : Int} {n : Nat} {D : Addr} {te : TE} {σf : St} {H1 : Hp} {Q : VK} (R : Nat → V → Hp → Prop) (hz : n < sizeLine) (hD1 : H1 D = none)
    (mono : ∀ i y H H', Keep D H H' → R i y H → R i y H')
    (hs : ∀ (i : Nat) H ys (N : VK), i < n → Same H1 H → H D = some (.lst ys) → (∀ y H', Same H H' → R i y H' → N y H') → te (some (.int (lo + i)) :: σf) H N)
    (hd : ∀ ys H, Same H1 H → H D = some (.lst ys) → ys.length = n → (∀ (i : Nat) y, ys[i]? = some y → R i y H) → Q (.ref D) H) : CompW (Itr lo n) D (gName 0) tYes te (none :: σf) (upd H1 D (.lst [])) Q :=
  comp1 n (fun i => .int (lo + i)) R hz hD1 (fun i H hi _ => hi) (fun H _ => Nat.le_refl _) (fun i H x H' hi s y => ⟨y.2, y.1⟩) mono hs hd
end L2

set_option Elab.async false
set_option linter.all false
set_option maxRecDepth 100000
set_option maxHeartbeats 4000000
namespace L2
open PySem PySem.Spec PyProof.Rows

/-! ### wider arithmetic -/
def CBig (i j : Int) : Prop := (-(10 ^ 200) < i ∧ i < 10 ^ 200) ∧ (-(10 ^ 200) < j ∧ j < 10 ^ 200)
def CDivB (i j : Int) : Prop := 0 < j ∧ j < 10 ^ 200
theorem big_pow : (10 : Nat) ^ 200 ≤ 2 ^ 700 := by decide +kernel
theorem big_abs {i : Int} (h : -(10 ^ 200) < i ∧ i < 10 ^ 200) : i.natAbs < 2 ^ 700 := by
  have h1 : i.natAbs < 10 ^ 200 := by
    have e : ((10 ^ 200 : Nat) : Int) = (10 : Int) ^ 200 := by simp
    have : (i.natAbs : Int) < ((10 ^ 200 : Nat) : Int) := by rw [e]; omega
    exact Int.ofNat_lt.mp this
  exact Nat.lt_of_lt_of_le h1 big_pow
theorem CBig.ok {i j : Int} (h : CBig i j) : IntMulOk i j := IntMulOk.of_le (m := 700) (n := 700) (intBits_le_iff.mpr (big_abs h.1)) (intBits_le_iff.mpr (big_abs h.2)) (by decide)
section
variable {X : Cx}
theorem op_mulW : OpR X (binaryOp .Mult) (rI CBig fun i j => .int (i * j)) := opI fun _ _ _ _ _ _ _ hc q => mul_int q hc.ok
theorem op_fdivW : OpR X (binaryOp .FloorDiv) (rI CDivB fun i j => .int (i / j)) := opI fun i j _ _ _ _ _ hc q => by
  have h1 : (0 : Int) < j := hc.1
  have h2 : j.natAbs < 2 ^ 700 := big_abs ⟨by have := hc.2; omega, hc.2⟩
  refine floordiv_int (by omega) (by rw [Int.fdiv_eq_ediv_of_nonneg i (by omega)]; exact q) (.inl (PyProof.noPylong_of_log2 ?_))
  have h3 : j.natAbs.log2 < 700 := (Nat.log2_lt (by omega)).mpr h2
  omega
end

/-! ### defs in short -/
structure Src (K : PySem.W.Frag) (mg : Str → Option Value) (x qual : Str) (st : Stmt) : Prop where
  ex : ∃ f fd, Fun K x qual st f fd ∧ mg x = some (.ref f)
theorem src_mk {K : PySem.W.Frag} {h : Heap} {mg : Str → Option Value} {x qual : Str} {st : Stmt} {f : Addr} {oc : Value} {od an : Option Addr} {osl : Array (Option Value)} {kV doc pm cdv ct : Value} (X : K.In h) (G : h.Ns mainGlobals mg)
    (a : PySem.W.nsIn K mainGlobals x = some (some (.ref f))) (l : K.lookup f = some ⟨oc, od, .func (PySem.W.fnOf x qual (defArgs st) (defBody st) (defScope st) .none kV doc pm an cdv ct), osl⟩)
    (c : PySem.W.codeIn K cdv qual = true) (k : PySem.W.keepIn K (.ref f) = true) : Src K mg x qual st := ⟨f, _, fun_mk l c k, PySem.W.mg_of X G a⟩
structure Def (P : Program) (w : World) (K : PySem.W.Frag) (mg : Str → Option Value) (base : Heap) (k : Nat) (x : Str) (ps : List Str) (sp : Sp) : Prop where
  ex : ∃ f fd, mg x = some (.ref f) ∧ PySem.W.keepIn K (.ref f) = true ∧ Binds K fd ps [] ∧ FnOk P w K mg base CX0 k f fd ps sp ∧ ∃ oc od osl, K.lookup f = some ⟨oc, od, .func fd, osl⟩
section
variable {P : Program} {w : World} {K : PySem.W.Frag} {mg : Str → Option Value} {base : Heap}
theorem Src.mk' {x qual : Str} {st : Stmt} {N ps : List Str} {k : Nat} {sp : Sp} (S : Src K mg x qual st) (Sc : FnScope N ps (defScope st)) (len : ∀ vs H Q E, sp vs H Q E → vs.length = ps.length)
    (hb : ∀ (kV doc pm : Value) (an : Option Addr) (cdv ct : Value) (us : List Value), us.length = ps.length → bindArgs (PySem.W.fnOf x qual (defArgs st) (defBody st) (defScope st) .none kV doc pm an cdv ct) ⟨us, []⟩ = pure (ps.zip us))
    (hbody : ∀ (f : Addr) (cdv : Value) (A : Around) (outer : List Env) (s : Shared) (H : Hp) (vs : List V) (Q : VK) (E : XK), Room k (A.deeper (envOfC qual (defScope st) s.heap.objs.size f cdv)) → sp vs H Q E →
      ∃ t, PSs (cxOf CX0 P w K mg base N qual (defScope st) f cdv A outer s H E).nox (defBody st) t ∧ t { nx := fun _ H' => Q .non H', rt := Q } (start N vs) H) : Def P w K mg base (k + 1) x ps sp := by
  obtain ⟨f, fd, F, hm⟩ := S.ex
  obtain ⟨oc, od, _, _, _, _, _, _, osl, _, lk, _⟩ := F.ex
  exact ⟨f, fd, hm, F.kp, F.binds hb, F.ok Sc len (hbody f), oc, od, osl, lk⟩
theorem Def.mono {j k : Nat} {x : Str} {ps : List Str} {sp : Sp} (D : Def P w K mg base j x ps sp) (h : j ≤ k) : Def P w K mg base k x ps sp := by
  obtain ⟨f, fd, a, b, c, d, e⟩ := D.ex
  exact ⟨f, fd, a, b, c, d.mono h, e⟩
/-- the law's own def, over every base -/
theorem law_fd {x p : Str} {st : Stmt} {k : Nat} {sp : Sp} {fa : Addr} (S : Src K mg x x st)
    (hb : ∀ (kV doc pm : Value) (an : Option Addr) (cdv ct : Value) (u : Value), bindArgs (PySem.W.fnOf x x (defArgs st) (defBody st) (defScope st) .none kV doc pm an cdv ct) ⟨[u], []⟩ = pure [(p, u)])
    (h : ∀ base, Def P w K mg base k x [p] sp) (hfa : mg x = some (.ref fa)) :
    ∃ fd : FuncData, (∀ (s : Shared) (u : Value), BindsTo s fd ⟨[u], []⟩ [(p, u)]) ∧ ∀ base : Heap, K.In base → base.Ns mainGlobals mg → FnOk P w K mg base CX0 k fa fd [p] sp := by
  obtain ⟨f, fd, F, hm⟩ := S.ex
  rw [hm] at hfa
  cases hfa
  obtain ⟨oc, od, kV, doc, pm, an, cdv, ct, osl, e, lk, hcd⟩ := F.ex
  refine ⟨fd, fun s u => by subst e; exact .of_eq (hb kV doc pm an cdv ct u), fun base _ _ => ?_⟩
  obtain ⟨f', fd', hm', _, _, G, oc', od', osl', lk'⟩ := (h base).ex
  rw [hm] at hm'
  cases hm'
  rw [lk] at lk'
  cases lk'
  exact G
end
section
variable {X : Cx} {k : Nat} {x : Str} {ps : List Str} {sp : Sp} {p pos : Pos} {e : Expr} {es : List Expr} {t : TA}
theorem pe_def (D : Def X.prog X.w X.K X.mg X.base k x ps sp) (hr : Room k X.A) (hg : Gl X x) (ha : PA X (e :: es) t) (hdb : (x == ("__debug__" : Str)) = false := by decide) (he : starEach (e :: es) X.env = (false, eval e X.env) :: starEach es X.env := by rfl)
    (hpl : (backTo pos (starEach es X.env)).any (·.1) = false := by rfl) : PE X (.Call (.Name x p) (e :: es) [] pos) (tCall sp [] E0 t) := by
  obtain ⟨f, fd, hm, hk, hb, F, _⟩ := D.ex
  exact pe_call F hr hg hm hk hb .nil pass0 ha hdb he hpl
end

/-! ### isinstance of a built-in type -/
section
variable {X : Cx}
def rIs (K : PySem.W.Frag) : List V → Hp → VK → Prop := fun xs H Q => ∃ x n t b, xs = [x, .ty n] ∧ TyOf K H x t ∧ PySem.W.kitOne K t (.type n) = some b ∧ Q (.bl b) H
theorem call_isinst : CallR X (.builtin "isinstance") (rIs X.K) := by
  intro pins s σ H xs us Q I r h
  obtain ⟨x, n, t, b, rfl, ty, e, q⟩ := h
  obtain ⟨u, u2, rfl, ru, r2⟩ := vals2 r
  have e2 : u2 = Value.type n := r2
  subst e2
  exact isinst_ok I ru ty e fun tk => ⟨.bl b, H, I.tok tk, rfl, q⟩
theorem boot_len' : bootBuiltins "len" = some (.builtin "len") := by decide +kernel
theorem boot_isinstance' : bootBuiltins "isinstance" = some (.builtin "isinstance") := by decide +kernel
theorem boot_min' : bootBuiltins "min" = some (.builtin "min") := by decide +kernel
theorem boot_bool' : bootBuiltins "bool" = some (.type "bool") := by decide +kernel
theorem boot_int' : bootBuiltins "int" = some (.type "int") := by decide +kernel
theorem boot_list' : bootBuiltins "list" = some (.type "list") := by decide +kernel
theorem kit_same (K : PySem.W.Frag) (n : String) : PySem.W.kitOne K (.type n) (.type n) = some true := by
  unfold PySem.W.kitOne
  rw [if_pos (beq_self_eq_true _)]
end

/-! ### enumerate over a list -/
section
variable {X : Cx}
end
end L2
namespace L2
open PySem PySem.Spec PyProof.Rows
/-! ### ways that meet -/
theorem len_small {n : Nat} (h : n ≤ 1000) : n ≤ sizeLine := Nat.le_of_lt (small1000 h)
theorem atI_int {α : Type} {xs : List α} {z : Int} (j : Nat) {v : α} (hz : z = (j : Int)) (h : xs[j]? = some v) : atI xs z = some v := by
  subst hz
  exact atI_nat h
end L2

namespace L2
open PySem PySem.Spec PyProof.Rows
/-! ### new objects, the heap behind them a letter -/
structure New (H : Hp) (p : Addr) (o : HO) (H' : Hp) : Prop where
  same : Same H H'
  none : H p = Option.none
  at_ : H' p = some o
theorem new_upd {H : Hp} {p : Addr} {o : HO} (h : H p = Option.none) : New H p o (upd H p o) := ⟨Same.upd h, h, upd_same⟩
section
variable {X : Cx} {es : List Expr} {t : TA} {pos : Pos}
def tTup' (t : TA) : TE := fun σ H Q => t σ H fun xs H1 => xs.length ≤ sizeLine ∧ ∀ p H', New H1 p (.tup xs) H' → Q (.ref p) H'
def tLst' (t : TA) : TE := fun σ H Q => t σ H fun xs H1 => xs.length ≤ sizeLine ∧ ∀ p H', New H1 p (.lst xs) H' → Q (.ref p) H'
theorem OpR.imp {f : Value → Value → Sem Value} {r r' : R2} (h : OpR X f r) (i : ∀ x y H Q, r' x y H Q → r x y H Q) : OpR X f r' := fun pins s σ H x y v u Q I rx ry q => h pins s σ H x y v u Q I rx ry (i _ _ _ _ q)
theorem SlR.imp {r r' : V → Option Int → Option Int → Hp → VK → Prop} (h : SlR X r) (i : ∀ x l u H Q, r' x l u H Q → r x l u H Q) : SlR X r' := fun pins s σ H x v vl vu lo hi sl Q I rx hs pl pu q => h pins s σ H x v vl vu lo hi sl Q I rx hs pl pu (i _ _ _ _ _ q)
theorem CallR.imp {f : Value} {r r' : List V → Hp → VK → Prop} (h : CallR X f r) (i : ∀ xs H Q, r' xs H Q → r xs H Q) : CallR X f r' := fun pins s σ H xs us Q I rv q => h pins s σ H xs us Q I rv (i _ _ _ q)
theorem call_list_of' : CallR X (.type "list") (fun xs H Q => ∃ p ys, xs = [.ref p] ∧ (SqL X.K H p ys ∨ SqT X.K H p ys) ∧ ∀ l H', New H l (.lst ys) H' → Q (.ref l) H') := call_list_of.imp fun xs H Q ⟨p, ys, e, h, q⟩ => ⟨p, ys, e, h, fun l hl => q l _ (new_upd hl)⟩
theorem pe_tup' {x1} (h : PA X es t) : PE X (.Tuple es x1 pos) (tTup' t) := by
  intro pins s σ H Q I hq
  refine wpAny_Tuple_spliced (thn (h pos pins s σ H _ I hq) fun us s1 ⟨xs, H1, I1, r, z, q⟩ => ⟨by rw [← r.length]; exact z, ?_⟩)
  refine ⟨.ref s1.heap.objs.size, _, I1.laid (t' := s1.toks) (o := .tup xs) (fun b u e => Heap.get?_push_of_some _ e) (Nat.le_refl _) ?_, rfl, q _ _ (new_upd I1.fresh)⟩
  exact ⟨z, us, r, ⟨_, Heap.get?_push_size _ rfl, rfl, _, rfl⟩⟩
theorem pe_lst' (h : PA X es t) : PE X (.List es pos) (tLst' t) := by
  intro pins s σ H Q I hq
  refine wpAny_List_spliced (thn (h pos pins s σ H _ I hq) fun us s1 ⟨xs, H1, I1, r, z, q⟩ => ⟨by rw [← r.length]; exact z, ?_⟩)
  refine ⟨.ref s1.heap.objs.size, _, I1.laid (t' := s1.toks) (o := .lst xs) (fun b u e => Heap.get?_push_of_some _ e) (Nat.le_refl _) ?_, rfl, q _ _ (new_upd I1.fresh)⟩
  exact ⟨z, us, 0, r, Heap.get?_push_size _ rfl⟩
end
end L2

set_option Elab.async false
set_option linter.all false
set_option maxRecDepth 100000
set_option maxHeartbeats 4000000
namespace L2
open PySem PySem.Spec PyProof.Rows
/-! ### kinds of built-in things -/
theorem kit_ib (K : PySem.W.Frag) : PySem.W.kitOne K (.type "int") (.type "bool") = some false := by kernel_rfl
/-! ### two lists of ints -/
section
variable {X : Cx}
end
end L2
namespace L2
open PySem PySem.Spec PyProof.Rows
/-! ### the same rules, the written part by its own name -/
section
variable {X : Cx} {K : PySem.W.Frag}
theorem ix_seqK (h : X.K = K) : IxR X (rIx K) := h ▸ ix_seq
def rLen (K : PySem.W.Frag) : List V → Hp → VK → Prop := fun xs H Q => ∃ p ys, xs = [.ref p] ∧ (SqL K H p ys ∨ SqT K H p ys) ∧ Q (.int ys.length) H
theorem call_lenK (h : X.K = K) : CallR X (.builtin "len") (rLen K) := h ▸ call_len_seq
theorem call_isinstK (h : X.K = K) : CallR X (.builtin "isinstance") (rIs K) := h ▸ call_isinst
def rListOf (K : PySem.W.Frag) : List V → Hp → VK → Prop := fun xs H Q => ∃ p ys, xs = [.ref p] ∧ (SqL K H p ys ∨ SqT K H p ys) ∧ ∀ l H', New H l (.lst ys) H' → Q (.ref l) H'
theorem call_list_ofK (h : X.K = K) : CallR X (.type "list") (rListOf K) := h ▸ call_list_of'
theorem pi_listK {tg l : Expr} {tl : TE} (h : X.K = K) (hl : PE X l tl) : PI X tg l (iList K tl) := h ▸ pi_list hl
theorem pe_bmK {o e : Expr} {es : List Expr} {to : TE} {t : TA} {name : Str} {apos cpos : Pos} {T id : String} {r : V → List V → Hp → VK → Prop} (h : X.K = K) (pa : PlainAttrs T) (slot : Slot T name id) (hty : typeOf (.builtin id) = pure (.type "method_descriptor")) (hm : MtR X id r) (ho : PE X o to) (ha : PA X (e :: es) t)
    (hbase : attributeBase o name X.env (eval o X.env) = eval o X.env := by rfl)
    (hfew : ((backTo cpos (starEach (e :: es) X.env)).all (fun x => !x.1) && (backToKw cpos (keywordEach [] X.env)).all (fun x => x.1.isSome) && decide ((e :: es).length + ([] : List Keyword).length + (if ([] : List Keyword).isEmpty then 0 else 1) < 30)) = true := by rfl)
    (hline : (apos.endLine == cpos.line) = true := by rfl) (hs : starEach (e :: es) X.env = (false, eval e X.env) :: starEach es X.env := by rfl) (hplain : (backTo cpos (starEach es X.env)).any (·.1) = false := by rfl) :
    PE X (.Call (.Attribute o name apos) (e :: es) [] cpos) (tBM K T r to t) := by
  subst h
  exact pe_bm pa slot hty hm ho ha hbase hfew hline hs hplain
end
end L2

set_option Elab.async false
set_option linter.all false
set_option maxRecDepth 100000
set_option maxHeartbeats 4000000
namespace L2
open PySem PySem.Spec PyProof.Rows
/-! ### texts by their codes -/
abbrev cod (x : Str) : List Nat := x.cps.toList
theorem cod_len (x : Str) : (cod x).length = x.length := by simp [cod, Str.length]
theorem cod_app (a b : Str) : cod (a ++ b) = cod a ++ cod b := by
  show (a.cps ++ b.cps).toList = _
  simp [cod]
section
variable {X : Cx}
/-! ### zfill -/
/-! ### a name of the module that is a number or a text -/
/-! ### f-strings -/
end
/-! ### a value's ways that meet -/
theorem iteE {b : Bool} {A B : Prop} (e : b = false) (h : B) : if b = true then A else B := by
  rw [e]
  exact iteF h
end L2

set_option Elab.async false
set_option linter.all false
set_option maxRecDepth 100000
set_option maxHeartbeats 4000000
namespace L2
open PySem PySem.Spec PyProof.Rows
theorem mul_bd {a b A B : Int} (a1 : -A ≤ a) (a2 : a ≤ A) (b1 : -B ≤ b) (b2 : b ≤ B) : -(A * B) ≤ a * b ∧ a * b ≤ A * B := by
  have hA : 0 ≤ A := by omega
  have hB : 0 ≤ B := by omega
  have h1 : (a.natAbs : Int) ≤ A := by omega
  have h2 : (b.natAbs : Int) ≤ B := by omega
  have h3 : ((a * b).natAbs : Int) ≤ A * B := by
    rw [Int.natAbs_mul, Int.natCast_mul]
    exact Int.mul_le_mul h1 h2 (Int.natCast_nonneg _) hA
  omega
theorem ixT {K : PySem.W.Frag} {H : Hp} {a : Addr} {xs : List V} {i : Int} {v : V} {Q : VK} (h : SqT K H a xs) (e : atI xs i = some v) (q : Q v H) : rIx K (.ref a) (.int i) H Q := .inr (.inl ⟨a, xs, i, v, rfl, rfl, h, e, q⟩)
theorem ixL {K : PySem.W.Frag} {H : Hp} {a : Addr} {xs : List V} {i : Int} {v : V} {Q : VK} (h : SqL K H a xs) (e : atI xs i = some v) (q : Q v H) : rIx K (.ref a) (.int i) H Q := .inl ⟨a, xs, i, v, rfl, rfl, h, e, q⟩
theorem ixInts {K : PySem.W.Frag} {H : Hp} {a : Addr} {ns : List Int} {i : Int} {Q : VK} (h : SqL K H a (ns.map V.int)) (h0 : 0 ≤ i) (h1 : i < ns.length) (q : ∀ z ∈ ns, Q (.int z) H) : rIx K (.ref a) (.int i) H Q := by
  have hi : i.toNat < ns.length := by omega
  refine ixL h (atI_int i.toNat (by omega) (v := .int ns[i.toNat]) (by simp [hi])) (q _ (List.getElem_mem hi))
/-! ### specs of helpers that many laws have -/
def sp_law (K : PySem.W.Frag) : Sp := fun vs H Q _ => ∃ (a : Addr) (ns : List Int), vs = [.ref a] ∧ SqL K H a (ns.map V.int) ∧ ns.length ≤ 63 ∧ ∀ H', Q (.bl true) H'
def sp_mixed : Sp := fun vs H Q _ => ∃ c k : Int, vs = [.int c, .int k] ∧ 0 ≤ k ∧ k ≤ 1000000 ∧ ∀ m : Int, 0 ≤ m → m < 2147483629 → Q (.int m) H
def sp_cell (K : PySem.W.Frag) : Sp := fun vs H Q _ => ∃ (a : Addr) (ns : List Int) (k : Int), vs = [.ref a, .int k] ∧ SqL K H a (ns.map V.int) ∧ 0 ≤ k ∧ ∀ z : Int, Q (.int z) H
def sp_whole : Sp := fun vs H Q _ => ∃ i : Int, vs = [.int i] ∧ Q (.bl true) H
/-! ### numbers written -/
/-! ### exact parts -/
end L2

set_option Elab.async false
set_option linter.all false
set_option maxRecDepth 100000
set_option maxHeartbeats 4000000
namespace L2
open PySem PySem.Spec PyProof.Rows
/-! ### sum, all, count of lists -/
section
variable {X : Cx} {K : PySem.W.Frag}
def rCount (K : PySem.W.Frag) : V → List V → Hp → VK → Prop := fun x xs H Q => ∃ (a : Addr) (ns : List Int) (k : Int), x = .ref a ∧ xs = [.int k] ∧ SqL K H a (ns.map V.int) ∧ Q (.int ((ns.count k : Nat) : Int)) H
theorem mt_countK (hK : X.K = K) : MtR X "list.count" (rCount K) := by
  subst hK
  intro pins s σ H x xs v us Q I rx r h
  obtain ⟨a, ns, k, rfl, rfl, hq, q⟩ := h
  cases rx
  obtain ⟨u, rfl, t, rfl⟩ := vals1 r
  obtain ⟨its, rv, pl, hz⟩ := I.list hq
  exact count_list_ints pl.isList (intsAre_of rv) ⟨.int _, H, I.tok _, ⟨_, rfl⟩, q⟩
end
/-! ### a comprehension with a test, one name: the items that are kept -/
theorem compIf {J : It} {D : Addr} {tt : TT} {te : TE} {σf : St} {H1 : Hp} {Q : VK} (n : Nat) (xv : Nat → V) (p : Nat → Bool) (f : Nat → V) (hn : n < sizeLine) (hD1 : H1 D = none)
    (hgo : ∀ i H, i < n → Same H1 H → J.go i H) (hst : ∀ H, Same H1 H → J.stop n H) (hy : ∀ i H x H', i < n → Same H1 H → J.yld i H x H' → x = xv i ∧ H' = H)
    (ht : ∀ i H (N : Bool → Hp → Prop), i < n → Same H1 H → (∀ H', Same H H' → N (p i) H') → tt (some (xv i) :: σf) H N)
    (hs : ∀ i H (N : VK), i < n → p i = true → Same H1 H → (∀ H', Same H H' → N (f i) H') → te (some (xv i) :: σf) H N)
    (hd : ∀ H, Same H1 H → H D = some (.lst (((List.range n).filter p).map f)) → Q (.ref D) H) : CompW J D (gName 0) tt te (none :: σf) (upd H1 D (.lst [])) Q := by
  refine ⟨fun i m ys H => i ≤ n ∧ m = n - i ∧ Same H1 H ∧ H D = some (.lst ys) ∧ ys = ((List.range i).filter p).map f, ⟨n, Nat.zero_le _, rfl, Same.upd hD1, upd_same, rfl⟩, ?_⟩
  rintro i m ys H ⟨hi, rfl, s1, d1, rfl⟩
  refine ⟨d1, ?_⟩
  by_cases hlt : i < n
  · have hle : (((List.range i).filter p).map f).length ≤ i := by
      rw [List.length_map]
      exact Nat.le_trans (List.length_filter_le _ _) (by simp)
    refine .inr ⟨hgo i H hlt s1, by omega, fun y H' => Same H H' ∧ y = f i ∧ p i = true, fun H' => Same H H' ∧ p i = false, fun y H6 q => ?_, fun H5 q => ?_, fun x H' y => ?_⟩
    · obtain ⟨s6, rfl, hp⟩ := q
      refine ⟨s6 _ _ d1, n - (i + 1), by omega, hlt, rfl, (s1.trans s6).updT hD1, upd_same, ?_⟩
      rw [List.range_succ, List.filter_append, List.map_append]
      simp [hp]
    · obtain ⟨s5, hp⟩ := q
      refine ⟨n - (i + 1), by omega, hlt, rfl, s1.trans s5, s5 _ _ d1, ?_⟩
      rw [List.range_succ, List.filter_append, List.map_append]
      simp [hp]
    · obtain ⟨rfl, rfl⟩ := hy i H x H' hlt s1 y
      refine ⟨Agree.one _ _ _ rfl, ?_⟩
      refine ht i H' _ hlt s1 fun H5 s5 => ?_
      cases hp : p i with
      | true =>
        rw [if_pos rfl]
        exact hs i H5 _ hlt hp (s1.trans s5) fun H6 s6 => ⟨s5.trans s6, rfl, rfl⟩
      | false =>
        rw [if_neg Bool.false_ne_true]
        exact ⟨s5, rfl⟩
  · obtain rfl : i = n := Nat.le_antisymm hi (Nat.not_lt.mp hlt)
    exact .inl ⟨hst H s1, hd H s1 d1⟩
/-! ### zip of two lists in a for -/
section
variable {X : Cx} {K : PySem.W.Frag}
end
end L2

set_option Elab.async false
set_option linter.all false
set_option maxRecDepth 100000
set_option maxHeartbeats 4000000
namespace L2
open PySem PySem.Spec PyProof.Rows
/-! ### methods in short -/
structure MSrc (K : PySem.W.Frag) (C : Addr) (m qual : Str) (st : Stmt) : Prop where
  ex : ∃ f fd, Fun K m qual st f fd ∧ Meth K C m f
structure MDef (P : Program) (w : World) (K : PySem.W.Frag) (mg : Str → Option Value) (base : Heap) (k : Nat) (C : Addr) (m : Str) (ps : List Str) (sp : Sp) : Prop where
  ex : ∃ f fd, Meth K C m f ∧ Binds K fd ps [] ∧ FnOk P w K mg base CX0 k f fd ps sp
section
variable {P : Program} {w : World} {K : PySem.W.Frag} {mg : Str → Option Value} {base : Heap}
theorem MSrc.mk' {C : Addr} {x qual : Str} {st : Stmt} {N ps : List Str} {k : Nat} {sp : Sp} (S : MSrc K C x qual st) (Sc : FnScope N ps (defScope st)) (len : ∀ vs H Q E, sp vs H Q E → vs.length = ps.length)
    (hb : ∀ (kV doc pm : Value) (an : Option Addr) (cdv ct : Value) (us : List Value), us.length = ps.length → bindArgs (PySem.W.fnOf x qual (defArgs st) (defBody st) (defScope st) .none kV doc pm an cdv ct) ⟨us, []⟩ = pure (ps.zip us))
    (hbody : ∀ (f : Addr) (cdv : Value) (A : Around) (outer : List Env) (s : Shared) (H : Hp) (vs : List V) (Q : VK) (E : XK), Room k (A.deeper (envOfC qual (defScope st) s.heap.objs.size f cdv)) → sp vs H Q E →
      ∃ t, PSs (cxOf CX0 P w K mg base N qual (defScope st) f cdv A outer s H E).nox (defBody st) t ∧ t { nx := fun _ H' => Q .non H', rt := Q } (start N vs) H) : MDef P w K mg base (k + 1) C x ps sp := by
  obtain ⟨f, fd, F, hm⟩ := S.ex
  exact ⟨f, fd, hm, F.binds hb, F.ok Sc len (hbody f)⟩
end
section
variable {X : Cx} {k : Nat} {C : Addr} {x m : Str} {ps : List Str} {sp : Sp} {p pos apos : Pos} {e o : Expr} {es : List Expr} {ta : TE} {t : TA}
end
/-! ### lists of places -/
/-! ### houses -/
/-- lists of ints at the places ws -/
def Rows (H : Hp) (ws : List Addr) (rows : List (List Int)) : Prop := ws.length = rows.length ∧ ∀ (i : Nat) a row, ws[i]? = some a → rows[i]? = some row → H a = some (.lst (row.map V.int))
def Mat (H : Hp) (w : Addr) (rows : List (List Int)) : Prop := ∃ ws : List Addr, H w = some (.lst (ws.map V.ref)) ∧ Rows H ws rows
theorem Rows.same {H H' : Hp} {ws : List Addr} {rows : List (List Int)} (r : Rows H ws rows) (s : Same H H') : Rows H' ws rows := ⟨r.1, fun i a row h1 h2 => s _ _ (r.2 i a row h1 h2)⟩
theorem Mat.same {H H' : Hp} {w : Addr} {rows : List (List Int)} (m : Mat H w rows) (s : Same H H') : Mat H' w rows := by
  obtain ⟨ws, h, r⟩ := m
  exact ⟨ws, s _ _ h, r.same s⟩
theorem Mat.len {H : Hp} {w : Addr} {rows : List (List Int)} (m : Mat H w rows) : ∃ ws : List Addr, H w = some (.lst (ws.map V.ref)) ∧ (ws.map V.ref).length = rows.length := by
  obtain ⟨ws, h, r⟩ := m
  exact ⟨ws, h, by rw [List.length_map]; exact r.1⟩
theorem Rows.at_ {H : Hp} {ws : List Addr} {rows : List (List Int)} (r : Rows H ws rows) {i : Nat} {row : List Int} (h : rows[i]? = some row) : ∃ a, ws[i]? = some a ∧ (ws.map V.ref)[i]? = some (.ref a) ∧ H a = some (.lst (row.map V.int)) := by
  have hi : i < ws.length := by rw [r.1]; exact (List.getElem?_eq_some_iff.mp h).1
  exact ⟨ws[i], by simp [hi], by simp [hi], r.2 i _ row (by simp [hi]) h⟩
def hflds (b w : Addr) (r : Int) : List (Str × V) := putF "rent" (.int r) (putF "worths" (.ref w) (putF "beds" (.ref b) []))
/-- a House stands at p -/
structure HouseAt (C : Addr) (H : Hp) (p : Addr) (beds : List Int) (worths : List (List Int)) (rent : Int) : Prop where
  ex : ∃ dx b w, H p = some (.ins C dx (hflds b w rent)) ∧ H b = some (.lst (beds.map V.int)) ∧ Mat H w worths
theorem HouseAt.same {C : Addr} {H H' : Hp} {p : Addr} {beds : List Int} {worths : List (List Int)} {rent : Int} (h : HouseAt C H p beds worths rent) (s : Same H H') : HouseAt C H' p beds worths rent := by
  obtain ⟨dx, b, w, h1, h2, h3⟩ := h.ex
  exact ⟨dx, b, w, s _ _ h1, s _ _ h2, h3.same s⟩
/-! ### the drawing of a house -/
/-! ### what the program's own defs tell -/
/-! ### more on lists -/
theorem Rows.snoc {H H' : Hp} {ws : List Addr} {rows : List (List Int)} {c : Addr} {row : List Int} (r : Rows H ws rows) (k : ∀ a ∈ ws, ∀ o, H a = some o → H' a = some o) (hc : H' c = some (.lst (row.map V.int))) : Rows H' (ws ++ [c]) (rows ++ [row]) := by
  refine ⟨by simp [r.1], fun i a rw' h1 h2 => ?_⟩
  by_cases hi : i < ws.length
  · rw [List.getElem?_append_left hi] at h1
    rw [List.getElem?_append_left (by rw [← r.1]; exact hi)] at h2
    exact k a (List.mem_of_getElem? h1) _ (r.2 i a rw' h1 h2)
  · have hi2 : i = ws.length := by
      have := (List.getElem?_eq_some_iff.mp h1).1
      simp at this
      omega
    subst hi2
    simp at h1
    rw [r.1] at h2
    simp at h2
    subst h1 h2
    exact hc
/-! ### ways -/
end L2

set_option Elab.async false
set_option linter.all false
set_option maxRecDepth 100000
set_option maxHeartbeats 4000000
namespace L2
open PySem PySem.Spec PyProof.Rows
/-! ### the signs of a text, walked -/
section
variable {X : Cx} {K : PySem.W.Frag}
/-! ### startswith, split, replace, int -/
end
end L2

set_option Elab.async false
set_option linter.all false
set_option maxRecDepth 100000
set_option maxHeartbeats 4000000
/-! Comprehensions one of whose own names is a cell (a comprehension within asks for it). -/
namespace L2
open PySem PySem.Spec PyProof.Rows
section
variable {X : Cx} {scope : Scope} {y : Str}
variable {pins : List (Addr × Obj)} {σ : St} {H : Hp} {s : Shared}
end
section
variable {X : Cx} {tg iter elt : Expr} {ifs : List Expr} {scope : Scope} {pos : Pos} {pins : List (Addr × Obj)} {σ : St} {H : Hp} {s : Shared}
end
end L2

set_option Elab.async false
set_option linter.all false
set_option maxRecDepth 100000
set_option maxHeartbeats 4000000
/-! Where a made text's own token is asked: states that have made one. -/
namespace L2
open PySem PySem.Spec PyProof.Rows
section
variable {X : Cx} {st : Stmt} {rest : List Stmt} {t u : TS} {pos : Pos}
def PSP (X : Cx) (st : Stmt) (t : TS) : Prop :=
  ∀ (pins : List (Addr × Obj)) (s : Shared) (σ : St) (H : Hp) (D : Ends), 1 ≤ s.toks → Inv X pins σ H s → t D σ H → wpAny (model X.prog X.w) X.A (exec st X.env) (SP X pins D) X.xe s
def PSsP (X : Cx) (sts : List Stmt) (t : TS) : Prop :=
  ∀ (pins : List (Addr × Obj)) (s : Shared) (σ : St) (H : Hp) (D : Ends), 1 ≤ s.toks → Inv X pins σ H s → t D σ H → wpAny (model X.prog X.w) X.A (execs sts X.env) (SP X pins D) X.xe s
theorem PS.p (h : PS X st t) : PSP X st t := fun pins s σ H D _ I q => h pins s σ H D I q
theorem PSs.p {sts : List Stmt} (h : PSs X sts t) : PSsP X sts t := fun pins s σ H D _ I q => h pins s σ H D I q
end
section
variable {X : Cx} {o : Expr} {to : TE} {K : PySem.W.Frag} {apos cpos p1 p2 : Pos} {j1 j2 : Nat}
end
end L2

set_option Elab.async false
set_option linter.all false
set_option maxRecDepth 100000
set_option maxHeartbeats 4000000
/-! Amounts read. -/
namespace L2
open PySem PySem.Spec PyProof.Rows
end L2

set_option Elab.async false
set_option linter.all false
set_option maxRecDepth 100000
set_option maxHeartbeats 4000000
namespace L2
open PySem PySem.Spec PyProof.Rows
/-! ### an exception behind a call: it lies at ea; B: what stands still (all but the frames and the exception's own records) -/
section
variable {X : Cx} {pins : List (Addr × Obj)} {σ : St} {H : Hp} {s : Shared}
end

/-! ### raise C(..) of an own class under ValueError that has no __init__ -/
theorem PS.nox {X : Cx} {st : Stmt} {t : TS} (h : PS X.nox st t) : PS X st t := fun pins s σ H D I hw =>
  wpAny_mono (h pins s σ H D (I.wish _) hw) (fun f s' q => q.unwish) fun _ _ q => q.elim
theorem PA.nox {X : Cx} {es : List Expr} {t : TA} (h : PA X.nox es t) : PA X es t := fun pos pins s σ H Q I hw =>
  wpAny_mono (h pos pins s σ H Q (I.wish _) hw) (fun f s' ⟨vs, H', J, r, q⟩ => ⟨vs, H', J.unwish, r, q⟩) fun _ _ q => q.elim

/-! ### a def that may refuse -/
section
variable {P : Program} {w : World} {K : PySem.W.Frag} {mg : Str → Option Value} {base : Heap}
end
end L2

set_option Elab.async false
set_option linter.all false
set_option maxRecDepth 100000
set_option maxHeartbeats 4000000
namespace L2
open PySem PySem.W PySem.Spec PyProof.Rows PySem.Calls Builtin Builtin.ObjectAttr Builtin.Getset_descriptor
/-! ### __class__ of an exception of an own class -/
section
variable {prog : Program} {w : World} {A : Around} {E : Value → Shared → Prop} {s : Shared} {K : Frag} {x D : Addr} {o : Obj}
end
end L2

set_option Elab.async false
set_option linter.all false
set_option maxRecDepth 100000
set_option maxHeartbeats 4000000
namespace L2
open PySem PySem.Spec PyProof.Rows
/-! ### an exception at hand -/
section
variable {X : Cx} {pins : List (Addr × Obj)} {σ : St} {H : Hp} {s : Shared} {v : Value}
end

/-! ### expressions and statements that may refuse: where the exception goes is told at the place -/
section
variable {X : Cx} {k : Nat} {f C : Addr} {fd : FuncData} {ps : List Str} {sp : Sp} {x m : Str} {p pos : Pos} {e : Expr} {es : List Expr} {t : TA}
end

/-! ### try: x = f(..) except R as n: suite -/
end L2

set_option Elab.async false
set_option linter.all false
set_option maxRecDepth 100000
set_option maxHeartbeats 4000000
namespace L2
open PySem PySem.Spec PyProof.Rows
/-! ### isinstance of an exception -/
section
variable {X : Cx}
end
/-! ### defs called within an except suite -/
structure RoomU (k : Nat) (A : Around) : Prop where
  dp : A.depth + 3 * k + 5 < recursionLimit
  un : A.units + 16 * k + 200 < cLine
theorem Room.u {k : Nat} {A : Around} (r : Room k A) : RoomU k A := ⟨r.dp, r.un⟩
theorem RoomU.mono {j k : Nat} {A : Around} (r : RoomU k A) (h : j ≤ k) : RoomU j A := ⟨by have := r.dp; omega, by have := r.un; omega⟩
theorem RoomU.deeper {k : Nat} {A : Around} (r : RoomU (k + 1) A) (env : Env) : RoomU k (A.deeper env) :=
  ⟨by have := r.dp; show A.depth + 1 + 3 * k + 5 < _; omega, by have := r.un; show A.units + 3 + 16 * k + 200 < _; omega⟩
theorem RoomU.depth {k : Nat} {A : Around} (r : RoomU k A) : A.depth < recursionLimit := by have := r.dp; omega
section
variable {P : Program} {w : World} {K : PySem.W.Frag} {mg : Str → Option Value} {base : Heap}
end
section
variable {X : Cx} {k : Nat} {f : Addr} {x : Str} {ps : List Str} {sp : Sp} {p pos : Pos} {e : Expr} {es : List Expr} {t : TA}
end
end L2

set_option Elab.async false
set_option linter.all false
set_option maxRecDepth 100000
set_option maxHeartbeats 4000000
namespace L2
open PySem PySem.Spec PyProof.Rows
/-! ### the refusals of the program -/
section
variable {X : Cx} {K : PySem.W.Frag}
end
end L2

set_option Elab.async false
set_option linter.all false
set_option maxRecDepth 100000
set_option maxHeartbeats 4000000
namespace L2
open PySem PySem.Spec PyProof.Rows
/-! ### things compared as data -/
def ReadV (K : PySem.W.Frag) (H : Hp) (v : V) (d : PyData) : Prop := ∀ (X : Cx) (pins : List (Addr × Obj)) (σ : St) (s : Shared) (u : Value), X.K = K → Inv X pins σ H s → RelV v u → ∃ as, Reads s.heap u d as
theorem rv_int {K : PySem.W.Frag} {H : Hp} {i : Int} : ReadV K H (.int i) (.int i) := fun X pins σ s u _ _ r => by
  obtain ⟨t, rfl⟩ := r
  exact ⟨[], .int i t⟩
theorem rv_all {K : PySem.W.Frag} {H : Hp} {X : Cx} {pins : List (Addr × Obj)} {σ : St} {s : Shared} (e : X.K = K) (I : Inv X pins σ H s) : ∀ {xs : List V} {ds : List PyData} {us : List Value}, Paired (ReadV K H) xs ds → Vals xs us → ∃ as, ReadsAll s.heap us ds as
  | _, _, _, .nil, .nil => ⟨[], .nil⟩
  | _, _, _, .cons a b, .cons r t => by
    obtain ⟨as, h1⟩ := a X pins σ s _ e I r
    obtain ⟨bs, h2⟩ := rv_all e I b t
    exact ⟨as ++ bs, .cons h1 h2⟩
theorem rv_list {K : PySem.W.Frag} {H : Hp} {a : Addr} {xs : List V} {ds : List PyData} (h : SqL K H a xs) (p : Paired (ReadV K H) xs ds) : ReadV K H (.ref a) (.list ds) := fun X pins σ s u e I r => by
  obtain rfl : u = Value.ref a := r
  subst e
  obtain ⟨its, rv, pl, _⟩ := I.list h
  obtain ⟨as, ha⟩ := rv_all rfl I p rv
  obtain ⟨o, h1, h2, n, h3⟩ := pl.isList
  exact ⟨_, .list h1 h2 h3 (by simpa using ha)⟩
theorem rv_tup {K : PySem.W.Frag} {H : Hp} {a : Addr} {xs : List V} {ds : List PyData} (h : SqT K H a xs) (p : Paired (ReadV K H) xs ds) : ReadV K H (.ref a) (.tuple ds) := fun X pins σ s u e I r => by
  obtain rfl : u = Value.ref a := r
  subst e
  obtain ⟨its, rv, pl, _⟩ := I.tuple h
  obtain ⟨as, ha⟩ := rv_all rfl I p rv
  obtain ⟨o, h1, h2, n, h3⟩ := pl
  exact ⟨_, .tuple h1 h2 h3 (by simpa using ha)⟩
theorem rv_ints {K : PySem.W.Frag} {H : Hp} : ∀ ns : List Int, Paired (ReadV K H) (ns.map V.int) (ns.map PyData.int)
  | [] => .nil
  | _ :: r => .cons rv_int (rv_ints r)
def rEqD (K : PySem.W.Frag) (neg : Bool) : R2 := fun x y H Q => ∃ d e, ReadV K H x d ∧ ReadV K H y e ∧ SeqAt.shaped d = true ∧ SeqAt.shaped e = true ∧ Q (.bl (if neg = true then !PyData.eqv d e else PyData.eqv d e)) H
section
variable {X : Cx} {K : PySem.W.Frag}
theorem op_neDK (h : X.K = K) (hu : X.A.units + 64 < cLine) : OpR X (compareOp .NotEq) (rEqD K true) := by
  intro pins s σ H x y v u Q I rx ry q
  obtain ⟨d, e, r1, r2, s1, s2, q⟩ := q
  obtain ⟨as, h1⟩ := r1 X pins σ s v h I rx
  obtain ⟨bs, h2⟩ := r2 X pins σ s u h I ry
  exact ne_dataH h1 h2 s1 s2 hu ⟨.bl _, H, I, rfl, q⟩
end
/-! ### a house's two lists as data -/
def rowD (r : List Int) : PyData := .list (r.map PyData.int)
theorem row_eqv (r : List Int) : PyData.eqv (rowD r) (rowD r) = true := by
  unfold rowD
  rw [PyData.eqv, PySem.W.ked_eqvAll]
  exact decide_eq_true rfl
/-! ### a house made anew: its things are its own -/
def HouseN (C : Addr) (H H' : Hp) (p : Addr) (beds : List Int) (worths : List (List Int)) (rent : Int) : Prop :=
  ∃ dx b w ws, H' p = some (.ins C dx (hflds b w rent)) ∧ H' b = some (.lst (beds.map V.int)) ∧ H b = none ∧ H' w = some (.lst (ws.map V.ref)) ∧ H w = none ∧ Rows H' ws worths ∧ ∀ a ∈ ws, H a = none
theorem HouseN.at_ {C : Addr} {H H' H3 : Hp} {p : Addr} {beds : List Int} {worths : List (List Int)} {rent : Int} (h : HouseN C H H' p beds worths rent) (hp : H p = none) (k : ∀ c o, H c = none → H' c = some o → H3 c = some o) : HouseAt C H3 p beds worths rent := by
  obtain ⟨dx, b, w, ws, h1, h2, h3, h4, h5, h6, h7⟩ := h
  exact ⟨dx, b, w, k _ _ hp h1, k _ _ h3 h2, ws, k _ _ h5 h4, h6.1, fun i a row e1 e2 => k _ _ (h7 a (List.mem_of_getElem? e1)) (h6.2 i a row e1 e2)⟩
end L2

set_option Elab.async false
set_option linter.all false
set_option maxRecDepth 100000
set_option maxHeartbeats 4000000
namespace L2
open PySem PySem.Spec PyProof.Rows
/-! ### what read_amount makes of any text -/
/-! a text some times over -/
section
variable {X : Cx}
theorem op_mulS : OpR X (binaryOp .Mult) (fun x y H Q => ∃ z n, x = .str z ∧ y = .int n ∧ PySem.MulOk z n ∧ Q (.str (Txt.mul z n)) H) := by
  intro pins s σ H x y v u Q I rx ry h
  obtain ⟨z, n, rfl, rfl, ok, q⟩ := h
  obtain ⟨t, rfl⟩ := rx
  obtain ⟨t', rfl⟩ := ry
  exact PySem.SB.mul ok fun t'' k => ⟨.str _, H, I.tok k, ⟨_, rfl⟩, q⟩
end
/-! ### displays of many texts -/
section
variable {X : Cx}
end
end L2

set_option Elab.async false
set_option linter.all false
set_option maxRecDepth 100000
set_option maxHeartbeats 4000000
namespace L2
open PySem PySem.Spec PyProof.Rows
/-! ### how long the script's numbers are -/
def CBits (i j : Int) : Prop := Builtin.Int.intBits i ≤ 2000000 ∧ Builtin.Int.intBits j ≤ 2000000
theorem CBits.ok {i j : Int} (h : CBits i j) : IntMulOk i j := IntMulOk.of_le h.1 h.2 (by decide)
/-! ### prices, what is paid -/
/-- prices lie at t -/
def PriceAt (H : Hp) (t : Addr) (parts : Int) (rows : List Int) : Prop := ∃ r, H t = some (.tup [.int parts, .ref r]) ∧ H r = some (.lst (rows.map V.int))
theorem PriceAt.same {H H' : Hp} {t : Addr} {parts : Int} {rows : List Int} (h : PriceAt H t parts rows) (s : Same H H') : PriceAt H' t parts rows := by
  obtain ⟨r, h1, h2⟩ := h
  exact ⟨r, s _ _ h1, s _ _ h2⟩
end L2

set_option Elab.async false
set_option linter.all false
set_option maxRecDepth 100000
set_option maxHeartbeats 4000000
namespace L2
open PySem PySem.Spec PyProof.Rows
/-! ### a lambda that a def makes and hands on as a key -/
section
variable {X : Cx} {scope : Scope} {pins : List (Addr × Obj)} {σ : St} {H : Hp} {s : Shared}
end
/-! ### max(a list of ints, key = a lambda) -/
section
variable {X : Cx} {pins : List (Addr × Obj)} {σ : St} {H : Hp} {s : Shared}
variable {ns : List Int} {l q it S : Addr} {R : Result → Shared → Prop}
end
/-! ### the table of a def's inner code -/
def isTbl : HO → Bool
  | .tbl _ => true
  | _ => false
/-- all that was tracked is as it was, the tables of inner code aside -/
structure SameB (H H' : Hp) : Prop where
  to : ∀ b o, H b = some o → isTbl o = false → H' b = some o
  th : ∀ b, H' b = none → H b = none
theorem SameB.refl (H : Hp) : SameB H H := ⟨fun _ _ h _ => h, fun _ h => h⟩
theorem SameB.trans {H H1 H2 : Hp} (a : SameB H H1) (b : SameB H1 H2) : SameB H H2 := ⟨fun c o h z => b.to c o (a.to c o h z) z, fun c h => a.th c (b.th c h)⟩
theorem Same.b {H H' : Hp} (a : Same H H') : SameB H H' := ⟨fun c o h _ => a c o h, fun c h => a.free h⟩
/-- nothing made yet, or the one lambda's code, frozen -/
def LamAt (H : Hp) (P : Addr) (pos : Pos) (qual : Str) : Prop :=
  H P = some (.tbl #[]) ∨ ∃ c' oc vs t, H P = some (.tbl #[rawInt pos.line, rawInt pos.col, .ref c']) ∧ H c' = some (.frz oc (.own 0)) ∧ oc.data = .fields vs ∧ vs[1]? = some (.str qual t)
theorem LamAt.same {H H' : Hp} {P : Addr} {pos : Pos} {qual : Str} (h : LamAt H P pos qual) (s : Same H H') : LamAt H' P pos qual := by
  rcases h with h | ⟨c', oc, vs, t, h1, h2, h3⟩
  · exact .inl (s _ _ h)
  · exact .inr ⟨c', oc, vs, t, s _ _ h1, s _ _ h2, h3⟩
section
variable {X : Cx} {pins : List (Addr × Obj)} {σ : St} {H : Hp} {s : Shared} {c P : Addr} {scope : Scope} {params : Arguments} {body : Expr} {lpos : Pos}
theorem SameB.seq {K : PySem.W.Frag} {H H' : Hp} {a : Addr} {xs : List V} (e : SameB H H') (h : SqL K H a xs) : SqL K H' a xs := by
  rcases h with (h | ⟨o, h⟩) | h
  · exact .inl (.inl (e.to _ _ h rfl))
  · exact .inl (.inr ⟨o, e.to _ _ h rfl⟩)
  · exact .inr h
end
end L2

set_option Elab.async false
set_option linter.all false
set_option maxRecDepth 100000
set_option maxHeartbeats 4000000
namespace L2
open PySem PySem.Spec PyProof.Rows
/-! ### a def that makes a lambda -/
section
variable {P : Program} {w : World} {K : PySem.W.Frag} {mg : Str → Option Value} {base : Heap}
end
/-! ### the head of a law whose defs make lambdas: the tables ts are empty behind the top -/
end L2

set_option Elab.async false
set_option linter.all false
set_option maxRecDepth 100000
set_option maxHeartbeats 4000000
/-! ### a way of greatest worth: the mathematics of bringing people in one by one -/
namespace BW
/-- what a row of rooms is worth -/
def wsum (W : Nat → Nat → Int) (v : List Nat) : Int := ((List.range v.length).map fun i => W i (v.getD i 0)).sum
def Fit (B : Nat → Nat) (v : List Nat) : Prop := ∀ r, v.count r ≤ B r
def ind (a b : Nat) : Nat := if a = b then 1 else 0
theorem ind_self (a : Nat) : ind a a = 1 := if_pos rfl
theorem sum_one {f g : Nat → Int} {j : Nat} : ∀ {n : Nat}, j < n → (∀ i, i ≠ j → f i = g i) → ((List.range n).map f).sum = ((List.range n).map g).sum - g j + f j
  | 0, h, _ => absurd h (Nat.not_lt_zero _)
  | n + 1, h, e => by
    rw [List.range_succ, List.map_append, List.map_append, List.sum_append, List.sum_append]
    by_cases hj : j = n
    · subst hj
      have : (List.range j).map f = (List.range j).map g := List.map_congr_left fun i hi => e i (Nat.ne_of_lt (List.mem_range.mp hi))
      rw [this]
      simp
    · have := sum_one (f := f) (g := g) (n := n) (by omega) e
      rw [this]
      have e2 := e n (fun z => hj z.symm)
      simp [e2]
      omega
theorem wsum_set (W : Nat → Nat → Int) (v : List Nat) {j r : Nat} (h : j < v.length) : wsum W (v.set j r) = wsum W v - W j v[j] + W j r := by
  unfold wsum
  rw [List.length_set]
  have := sum_one (f := fun i => W i ((v.set j r).getD i 0)) (g := fun i => W i (v.getD i 0)) h (fun i hi => by
    simp [List.getD, List.getElem?_set_ne (fun z => hi z.symm)])
  rw [this]
  simp [List.getD, h]
theorem count_move {v : List Nat} {j r x : Nat} (h : j < v.length) : (v.set j r).count x + ind x v[j] = v.count x + ind x r := by
  rw [List.count_set h]
  unfold ind
  have hpos : v[j] = x → 0 < v.count x := fun e => List.count_pos_iff.mpr (e ▸ List.getElem_mem h)
  by_cases h1 : v[j] = x <;> by_cases h2 : r = x
  · have := hpos h1
    simp [h1, h2]; omega
  · have := hpos h1
    have h2' : x ≠ r := fun z => h2 z.symm
    simp [h1, h2, h2']; omega
  · have h1' : x ≠ v[j] := fun z => h1 z.symm
    simp [h1, h2, h1']
  · have h1' : x ≠ v[j] := fun z => h1 z.symm
    have h2' : x ≠ r := fun z => h2 z.symm
    simp [h1, h2, h1', h2']
theorem count_le_of : ∀ {a b : List Nat} {r : Nat}, a.length = b.length → (∀ p : Nat, a[p]? = some r → b[p]? = some r) → a.count r ≤ b.count r
  | [], _, _, _, _ => by simp
  | x :: a, [], r, h, _ => by simp at h
  | x :: a, y :: b, r, h, e => by
    have ih := count_le_of (a := a) (b := b) (r := r) (by simpa using h) fun p hp => by
      have := e (p + 1) (by simpa using hp)
      simpa using this
    rw [List.count_cons, List.count_cons]
    have e0 := e 0
    by_cases hx : x = r
    · subst hx
      have : y = x := by simpa using e0 rfl
      subst this
      omega
    · simp [hx]
      omega
theorem countP_lt {l : List Nat} {p q : Nat → Bool} : ∀ (_ : ∀ x ∈ l, q x = true → p x = true) (_ : ∃ x ∈ l, p x = true ∧ q x = false), l.countP q < l.countP p := by
  induction l with
  | nil => rintro _ ⟨x, hx, _⟩; cases hx
  | cons a l ih =>
    rintro h ⟨x, hx, h1, h2⟩
    rw [List.countP_cons, List.countP_cons]
    have hm : l.countP q ≤ l.countP p := List.countP_mono_left fun y hy => h y (List.mem_cons_of_mem _ hy)
    rcases List.mem_cons.mp hx with z | z
    · subst z
      simp [h1, h2]
      omega
    · have := ih (fun y hy => h y (List.mem_cons_of_mem _ hy)) ⟨x, z, h1, h2⟩
      have ha := h a List.mem_cons_self
      by_cases hq : q a = true
      · simp [hq, ha hq]; omega
      · simp [hq]; split <;> omega
/-- with gains that no move betters, no one more is worth more than the best open room's gain -/
theorem core {W : Nat → Nat → Int} {B : Nat → Nat} {way : List Nat} {g : Nat → Int} {G : Int} {R : Nat} (hB : ∀ r, R ≤ r → B r = 0) (hopt : ∀ v : List Nat, v.length = way.length → Fit B v → wsum W v ≤ wsum W way)
    (hfix : ∀ p (hp : p < way.length) r, r < R → g way[p] + W p r - W p way[p] ≤ g r) (hG : ∀ r, way.count r < B r → g r ≤ G) :
    ∀ (d : Nat) (v : List Nat) (r : Nat), v.length = way.length → (List.range way.length).countP (fun i => decide (v[i]? ≠ way[i]?)) ≤ d → (∀ s, v.count s + ind s r ≤ B s) → wsum W v + g r ≤ wsum W way + G := by
  intro d
  induction d with
  | zero =>
    intro v r hl hd hf
    by_cases ho : way.count r < B r
    · have h1 := hopt v hl fun s => by have := hf s; omega
      have h2 := hG r ho
      omega
    · exfalso
      have hr := hf r
      rw [ind_self] at hr
      have : way.count r ≤ v.count r := count_le_of hl.symm fun p hp => by
        have h0 := Nat.le_zero.mp hd
        have hpl : p < way.length := (List.getElem?_eq_some_iff.mp hp).1
        have := List.countP_eq_zero.mp h0 p (List.mem_range.mpr hpl)
        have e : v[p]? = way[p]? := by simpa using this
        rw [e]; exact hp
      omega
  | succ d ih =>
    intro v r hl hd hf
    by_cases ho : way.count r < B r
    · have h1 := hopt v hl fun s => by have := hf s; omega
      have h2 := hG r ho
      omega
    · have hr := hf r
      rw [ind_self] at hr
      have hex : ∃ p : Nat, way[p]? = some r ∧ v[p]? ≠ some r := by
        refine Classical.byContradiction fun hn => ?_
        have : way.count r ≤ v.count r := count_le_of hl.symm fun p hp => by
          refine Classical.byContradiction fun z => hn ⟨p, hp, z⟩
        omega
      obtain ⟨p, hp, hv⟩ := hex
      obtain ⟨hpl, hpe⟩ := List.getElem?_eq_some_iff.mp hp
      have hpv : p < v.length := by omega
      have hv' : v[p] ≠ r := fun z => hv (by simp [hpv, z])
      have hrB : r < R := by
        refine Classical.byContradiction fun z => ?_
        have := hB r (by omega)
        omega
      have hvR : v[p] < R := by
        refine Classical.byContradiction fun z => ?_
        have h1 := hB v[p] (by omega)
        have h2 := hf v[p]
        have h3 : 0 < v.count v[p] := List.count_pos_iff.mpr (List.getElem_mem hpv)
        omega
      have h1 := ih (v.set p r) v[p] (by simpa using hl) (by
        have : (List.range way.length).countP (fun i => decide ((v.set p r)[i]? ≠ way[i]?)) < (List.range way.length).countP (fun i => decide (v[i]? ≠ way[i]?)) := countP_lt (fun x hx hq => by
          have hq' : (v.set p r)[x]? ≠ way[x]? := of_decide_eq_true hq
          refine decide_eq_true fun z => hq' ?_
          by_cases hxp : x = p
          · subst hxp
            rw [List.getElem?_set_self hpv, hp]
          · rw [List.getElem?_set_ne (fun z => hxp z.symm)]
            exact z) ⟨p, List.mem_range.mpr hpl, decide_eq_true (by rw [hp]; exact hv), decide_eq_false (by rw [List.getElem?_set_self hpv, hp]; simp)⟩
        omega) fun s => by
          have h2 := count_move (v := v) (j := p) (r := r) (x := s) hpv
          have h3 := hf s
          have h4 : ind s v[p] = ind s v[p] := rfl
          omega
      have h2 := wsum_set W v (j := p) (r := r) hpv
      have h3 := hfix p hpl v[p] hvR
      rw [hpe] at h3
      omega
/-- moves from room to room: from s to l, each room once -/
inductive Seg (W : Nat → Nat → Int) (way : List Nat) (R : Nat) (s : Nat) : List (Nat × Nat) → Nat → Int → Prop
  | nil : s < R → Seg W way R s [] s 0
  | snoc {c : List (Nat × Nat)} {l : Nat} {g : Int} {p r : Nat} : Seg W way R s c l g → way[p]? = some l → r < R → r ∉ s :: c.map (·.2) → Seg W way R s (c ++ [(p, r)]) r (g + W p r - W p l)
section
variable {W : Nat → Nat → Int} {way : List Nat} {R s : Nat}
theorem Seg.mem {c : List (Nat × Nat)} {l : Nat} {g : Int} (h : Seg W way R s c l g) : l ∈ s :: c.map (·.2) := by
  cases h with
  | nil _ => simp
  | snoc h _ _ _ => simp
theorem Seg.lt {c : List (Nat × Nat)} {l : Nat} {g : Int} (h : Seg W way R s c l g) : ∀ x ∈ s :: c.map (·.2), x < R := by
  induction h with
  | nil h => intro x hx; simp at hx; rw [hx]; exact h
  | snoc h _ hr _ ih =>
    intro x hx
    rw [List.map_append] at hx
    rcases List.mem_append.mp (show x ∈ (s :: _) ++ _ from hx) with z | z
    · exact ih x z
    · simp at z; rw [z]; exact hr
theorem Seg.split {c : List (Nat × Nat)} {l : Nat} {g : Int} (h : Seg W way R s c l g) : ∀ x ∈ s :: c.map (·.2), ∃ c1 c2 g1 g2, c = c1 ++ c2 ∧ Seg W way R s c1 x g1 ∧ Seg W way R x c2 l g2 ∧ g = g1 + g2 := by
  induction h with
  | nil h =>
    intro x hx
    have : x = s := by simpa using hx
    subst this
    exact ⟨[], [], 0, 0, rfl, .nil h, .nil h, rfl⟩
  | @snoc c l g p r h hp hr hn ih =>
    intro x hx
    rw [List.map_append] at hx
    rcases List.mem_append.mp (show x ∈ (s :: c.map (·.2)) ++ [r] from hx) with z | z
    · obtain ⟨c1, c2, g1, g2, rfl, a, b, e⟩ := ih x z
      refine ⟨c1, c2 ++ [(p, r)], g1, g2 + W p r - W p l, by simp, a, .snoc b hp hr fun q => ?_, by omega⟩
      rcases List.mem_cons.mp q with q | q
      · exact hn (q ▸ z)
      · exact hn (List.mem_cons_of_mem _ (by simp only [List.map_append]; exact List.mem_append_right _ q))
    · have : x = r := by simpa using z
      subst this
      exact ⟨c ++ [(p, x)], [], _, 0, by simp, .snoc h hp hr hn, .nil hr, by omega⟩
def app (v : List Nat) (c : List (Nat × Nat)) : List Nat := c.foldl (fun v m => v.set m.1 m.2) v
theorem app_snoc (v : List Nat) (c : List (Nat × Nat)) (m : Nat × Nat) : app v (c ++ [m]) = (app v c).set m.1 m.2 := by simp [app]
theorem Seg.app {c : List (Nat × Nat)} {l : Nat} {g : Int} (h : Seg W way R s c l g) :
    (app way c).length = way.length ∧ wsum W (app way c) = wsum W way + g ∧ (∀ x, (app way c).count x + ind x s = way.count x + ind x l) ∧ ∀ q r : Nat, way[q]? = some r → (r ∉ s :: c.map (·.2) ∨ r = l) → (BW.app way c)[q]? = some r := by
  induction h with
  | nil _ => exact ⟨rfl, by simp [BW.app], fun x => rfl, fun q r h _ => h⟩
  | @snoc c l g p r h hp hr hn ih =>
    obtain ⟨i1, i2, i3, i4⟩ := ih
    obtain ⟨hpl, hpe⟩ := List.getElem?_eq_some_iff.mp hp
    have hpa : p < (BW.app way c).length := by omega
    have hv := i4 p l hp (.inr rfl)
    have hv' : (BW.app way c)[p] = l := by
      rw [List.getElem?_eq_getElem hpa] at hv
      exact Option.some.inj hv
    rw [app_snoc]
    dsimp only
    refine ⟨by simpa using i1, ?_, fun x => ?_, fun q r' hq hc => ?_⟩
    · rw [wsum_set W _ hpa, i2, hv']
      omega
    · have h1 := count_move (v := BW.app way c) (j := p) (r := r) (x := x) hpa
      have h2 := i3 x
      rw [hv'] at h1
      omega
    · have hnot : r' ∉ s :: c.map (·.2) := by
        rcases hc with z | z
        · intro w
          refine z ?_
          rw [List.map_append]
          exact List.mem_append_left [r] w
        · rw [z]; exact hn
      have hqp : q ≠ p := fun z => by
        rw [z, hp] at hq
        have : l = r' := Option.some.inj hq
        exact hnot (this ▸ h.mem)
      rw [List.getElem?_set_ne (fun z => hqp z.symm)]
      exact i4 q r' hq (.inl hnot)
/-- a round of moves gains nothing -/
theorem Seg.round {B : Nat → Nat} (hfit : Fit B way) (hopt : ∀ v : List Nat, v.length = way.length → Fit B v → wsum W v ≤ wsum W way) {c : List (Nat × Nat)} {l p : Nat} {g : Int} (h : Seg W way R s c l g) (hp : way[p]? = some l) : g + W p s - W p l ≤ 0 := by
  obtain ⟨i1, i2, i3, i4⟩ := h.app
  obtain ⟨hpl, hpe⟩ := List.getElem?_eq_some_iff.mp hp
  have hpa : p < (BW.app way c).length := by omega
  have hv := i4 p l hp (.inr rfl)
  have hv' : (BW.app way c)[p] = l := by
    rw [List.getElem?_eq_getElem hpa] at hv
    exact Option.some.inj hv
  have h1 := hopt ((BW.app way c).set p s) (by simpa using i1) fun x => by
    have h1 := count_move (v := BW.app way c) (j := p) (r := s) (x := x) hpa
    have h2 := i3 x
    have h3 := hfit x
    rw [hv'] at h1
    omega
  rw [wsum_set W _ hpa, i2, hv'] at h1
  omega
end
/-! the gains, bettered turn by turn -/
abbrev GM := List Int × List (List (Nat × Nat))
def relax (W : Nat → Nat → Int) (p l : Nat) (st : GM) (r : Nat) : GM :=
  if st.1.getD r 0 < st.1.getD l 0 + W p r - W p l then (st.1.set r (st.1.getD l 0 + W p r - W p l), st.2.set r (st.2.getD l [] ++ [(p, r)])) else st
def person (W : Nat → Nat → Int) (way : List Nat) (R : Nat) (st : GM) (p : Nat) : GM := (List.range R).foldl (relax W p (way.getD p 0)) st
def turn (W : Nat → Nat → Int) (way : List Nat) (R : Nat) (st : GM) : GM := (List.range way.length).foldl (person W way R) st
def first (W : Nat → Nat → Int) (way : List Nat) (R : Nat) : GM := ((List.range R).map fun r => W way.length r, (List.range R).map fun r => [(way.length, r)])
section
variable {W : Nat → Nat → Int} {way : List Nat} {R : Nat}
/-- what holds of the gains and the moves all along -/
structure Ok (W : Nat → Nat → Int) (way : List Nat) (R : Nat) (st : GM) : Prop where
  l1 : st.1.length = R
  l2 : st.2.length = R
  at_ : ∀ r, r < R → ∃ r0 c g, st.2.getD r [] = (way.length, r0) :: c ∧ Seg W way R r0 c r g ∧ st.1.getD r 0 = W way.length r0 + g ∧ ∀ c1 c2 x g1, c = c1 ++ c2 → Seg W way R r0 c1 x g1 → W way.length r0 + g1 ≤ st.1.getD x 0
inductive Reach (W : Nat → Nat → Int) (way : List Nat) (R : Nat) : Nat → Nat → Int → Prop
  | base {r : Nat} : r < R → Reach W way R 0 r (W way.length r)
  | keep {k r : Nat} {x : Int} : Reach W way R k r x → Reach W way R (k + 1) r x
  | step {k l p r : Nat} {x : Int} : Reach W way R k l x → way[p]? = some l → r < R → Reach W way R (k + 1) r (x + W p r - W p l)
theorem Reach.more {k r : Nat} {x : Int} (h : Reach W way R k r x) : ∀ {j : Nat}, k ≤ j → Reach W way R j r x := by
  intro j hj
  induction j with
  | zero =>
    have : k = 0 := by omega
    subst this
    exact h
  | succ j ih =>
    by_cases hk : k = j + 1
    · subst hk; exact h
    · exact .keep (ih (by omega))
theorem Seg.reach {r0 l : Nat} {c : List (Nat × Nat)} {g : Int} (h : Seg W way R r0 c l g) : Reach W way R c.length l (W way.length r0 + g) := by
  induction h with
  | nil h =>
    have := Reach.base (W := W) (way := way) h
    simpa using this
  | @snoc c l g p r h hp hr _ ih =>
    have := Reach.step ih hp hr
    rw [List.length_append]
    have e : W way.length r0 + g + W p r - W p l = W way.length r0 + (g + W p r - W p l) := by omega
    rw [e] at this
    exact this
end
end BW

set_option Elab.async false
set_option linter.all false
set_option maxRecDepth 100000
set_option maxHeartbeats 4000000
namespace L2
open PySem PySem.Spec PyProof.Rows BW
/-! ### best_way over the heap -/
def wI (way : List Nat) : List Int := way.map fun (r : Nat) => (r : Int)
/-- the worth of a room to a person -/
def wF (worths : List (List Int)) (p r : Nat) : Int := (worths.getD p []).getD r 0
def bF (beds : List Int) (r : Nat) : Nat := (beds.getD r 0).toNat
def ChainAt (H : Hp) (a : Addr) (c : List (Nat × Nat)) : Prop := ∃ ts : List Addr, H a = some (.lst (ts.map V.ref)) ∧ ts.length = c.length ∧ ∀ (j : Nat) t m, ts[j]? = some t → c[j]? = some m → H t = some (.tup [.int (m.1 : Int), .int (m.2 : Int)])
theorem ChainAt.keep {H H' : Hp} {a : Addr} {c : List (Nat × Nat)} (h : ChainAt H a c) (h1 : ∀ o, H a = some o → H' a = some o) (h2 : ∀ t xs, H t = some (.tup xs) → H' t = some (.tup xs)) : ChainAt H' a c := by
  obtain ⟨ts, e1, e2, e3⟩ := h
  exact ⟨ts, h1 _ e1, e2, fun j t m a b => h2 _ _ (e3 j t m a b)⟩
theorem ChainAt.snoc {H : Hp} {a t : Addr} {c : List (Nat × Nat)} {m : Nat × Nat} {ts : List Addr} (e1 : H a = some (.lst (ts.map V.ref ++ [.ref t]))) (e2 : ts.length = c.length) (e3 : ∀ (j : Nat) t m, ts[j]? = some t → c[j]? = some m → H t = some (.tup [.int (m.1 : Int), .int (m.2 : Int)])) (e4 : H t = some (.tup [.int (m.1 : Int), .int (m.2 : Int)])) : ChainAt H a (c ++ [m]) := by
  refine ⟨ts ++ [t], by rw [e1]; simp, by simp [e2], fun j t' m' h1 h2 => ?_⟩
  by_cases hj : j < ts.length
  · rw [List.getElem?_append_left hj] at h1
    rw [List.getElem?_append_left (by omega)] at h2
    exact e3 j t' m' h1 h2
  · have hj2 : j = ts.length := by
      have := (List.getElem?_eq_some_iff.mp h1).1
      simp at this
      omega
    subst hj2
    simp at h1
    rw [e2] at h2
    simp at h2
    subst h1 h2
    exact e4
structure MovesAt (H : Hp) (ga mv : Addr) (gs : List Int) (ms : List (List (Nat × Nat))) : Prop where
  ne : ga ≠ mv
  g : H ga = some (.lst (gs.map V.int))
  ex : ∃ ls : List Addr, H mv = some (.lst (ls.map V.ref)) ∧ ls.length = ms.length ∧ (∀ a ∈ ls, a ≠ ga ∧ a ≠ mv) ∧ ∀ (i : Nat) a c, ls[i]? = some a → ms[i]? = some c → ChainAt H a c
theorem MovesAt.same {H H' : Hp} {ga mv : Addr} {gs : List Int} {ms : List (List (Nat × Nat))} (h : MovesAt H ga mv gs ms) (s : Same H H') : MovesAt H' ga mv gs ms := by
  obtain ⟨ls, e1, e2, e3, e4⟩ := h.ex
  exact ⟨h.ne, s _ _ h.g, ls, s _ _ e1, e2, e3, fun i a c h1 h2 => (e4 i a c h1 h2).keep (fun o e => s _ _ e) fun t xs e => s _ _ e⟩
end L2

set_option Elab.async false
set_option linter.all false
set_option maxRecDepth 100000
set_option maxHeartbeats 4000000
namespace L2
open PySem PySem.Spec PyProof.Rows BW
/-! ### ways drawn, as rows of room numbers -/
end L2

set_option Elab.async false
set_option linter.all false
set_option maxRecDepth 100000
set_option maxHeartbeats 4000000
namespace L2
open PySem PySem.Spec PyProof.Rows BW
/-! ### the greatest and the least of a list -/
/-! ### one person fewer, one more -/
def zs : List (List Int) → List Nat → Int
  | row :: ws, r :: v => row.getD r 0 + zs ws v
  | _, _ => 0
end L2

set_option Elab.async false
set_option linter.all false
set_option maxRecDepth 100000
set_option maxHeartbeats 4000000
namespace L2
open PySem PySem.Spec PyProof.Rows BW
/-! ### all lists of rooms, by numbers -/
end L2

set_option Elab.async false
set_option linter.all false
set_option maxRecDepth 100000
set_option maxHeartbeats 4000000
namespace L2
open PySem PySem.Spec PyProof.Rows BW
/-! ### fair prices: what breaks first -/
structure Fp where
  beds : List Int
  worths : List (List Int)
  rent : Int
  way : List Nat
  parts : Int
  rows : List Int
def Fp.share (F : Fp) (i r : Nat) : Int := F.parts * wF F.worths i r - F.rows.getD r 0
def Fp.envies (F : Fp) (i r : Nat) : Prop := F.share i (F.way.getD i 0) < F.share i r
def Fp.open_ (F : Fp) (r : Nat) : Prop := F.way.count r < bF F.beds r
def Fp.taken (F : Fp) (r : Nat) : Prop := 0 < F.way.count r
def Fp.dear (F : Fp) (r q : Nat) : Prop := F.open_ r ∧ F.taken q ∧ F.rows.getD q 0 < F.rows.getD r 0
def Fp.sumOk (F : Fp) : Prop := (F.way.map fun r => F.rows.getD r 0).sum = F.parts * F.rent
inductive BR
  | none
  | sum
  | envy (i r : Nat)
  | opn (r q : Nat)
def Fp.noEnvy (F : Fp) : Prop := ∀ i r, i < F.worths.length → r < F.beds.length → ¬ F.envies i r
def Fp.noDear (F : Fp) : Prop := ∀ r q, r < F.beds.length → q < F.beds.length → ¬ F.dear r q
def Fp.firstEnvy (F : Fp) (i r : Nat) : Prop := i < F.worths.length ∧ r < F.beds.length ∧ F.envies i r ∧ (∀ i' r', i' < i → r' < F.beds.length → ¬ F.envies i' r') ∧ ∀ r', r' < r → ¬ F.envies i r'
def Fp.firstDear (F : Fp) (r q : Nat) : Prop := r < F.beds.length ∧ q < F.beds.length ∧ F.dear r q ∧ (∀ r' q', r' < r → q' < F.beds.length → ¬ F.dear r' q') ∧ ∀ q', q' < q → ¬ F.dear r q'
def Fp.is (F : Fp) : BR → Prop
  | .none => F.sumOk ∧ F.noEnvy ∧ F.noDear
  | .sum => ¬ F.sumOk
  | .envy i r => F.sumOk ∧ F.firstEnvy i r
  | .opn r q => F.sumOk ∧ F.noEnvy ∧ F.firstDear r q
/-- an answer as it is told -/
def BrV (H : Hp) (v : V) : BR → Prop
  | .none => v = .non
  | .sum => ∃ t, v = .ref t ∧ H t = some (.tup [.str "sum"])
  | .envy i r => ∃ t, v = .ref t ∧ H t = some (.tup [.str "envy", .int (i : Int), .int (r : Int)])
  | .opn r q => ∃ t, v = .ref t ∧ H t = some (.tup [.str "open", .int (r : Int), .int (q : Int)])
theorem BrV.same {H H' : Hp} {v : V} {b : BR} (h : BrV H v b) (s : Same H H') : BrV H' v b := by
  cases b with
  | none => exact h
  | sum => obtain ⟨t, e, z⟩ := h; exact ⟨t, e, s _ _ z⟩
  | envy i r => obtain ⟨t, e, z⟩ := h; exact ⟨t, e, s _ _ z⟩
  | opn r q => obtain ⟨t, e, z⟩ := h; exact ⟨t, e, s _ _ z⟩
/-- what is handed in keeps to the bounds -/
structure FpOk' (F : Fp) : Prop where
  b1 : F.beds.length ≤ 10
  w1 : F.worths.length ≤ 10
  rw : ∀ row ∈ F.worths, row.length = F.beds.length
  rl : F.rows.length = F.beds.length
  wl : F.way.length = F.worths.length
  fit : Fit (bF F.beds) F.way
  pb : -(10 ^ 100) < F.parts ∧ F.parts < 10 ^ 100
  rb : -(10 ^ 100) < F.rent ∧ F.rent < 10 ^ 100
  wb : ∀ row ∈ F.worths, ∀ x ∈ row, -(10 ^ 100) < x ∧ x < 10 ^ 100
structure FpAt (K : PySem.W.Frag) (C : Addr) (H : Hp) (p a t : Addr) (F : Fp) : Prop where
  house : HouseAt C H p F.beds F.worths F.rent
  way : SqL K H a ((wI F.way).map V.int)
  price : PriceAt H t F.parts F.rows
theorem FpAt.same {K : PySem.W.Frag} {C : Addr} {H H' : Hp} {p a t : Addr} {F : Fp} (h : FpAt K C H p a t F) (s : Same H H') : FpAt K C H' p a t F := ⟨h.house.same s, s.seq h.way, h.price.same s⟩
end L2

set_option Elab.async false
set_option linter.all false
set_option maxRecDepth 100000
set_option maxHeartbeats 4000000
namespace L2
open PySem PySem.Spec PyProof.Rows BW
/-! ### worths made anew: the rows are their own -/
def MatN (H H' : Hp) (w : Addr) (rows : List (List Int)) : Prop := ∃ ws : List Addr, H' w = some (.lst (ws.map V.ref)) ∧ Rows H' ws rows ∧ ws.Nodup ∧ (∀ a ∈ ws, a ≠ w ∧ H a = none) ∧ H w = none
theorem MatN.fresh {H H' : Hp} {w : Addr} {rows : List (List Int)} (h : MatN H H' w rows) : H w = none := by
  obtain ⟨ws, h1, h2, h3, h4, h5⟩ := h
  exact h5
theorem MatN.same {H H' H2 : Hp} {w : Addr} {rows : List (List Int)} (h : MatN H H' w rows) (s : Same H' H2) : MatN H H2 w rows := by
  obtain ⟨ws, h1, h2, h3⟩ := h
  exact ⟨ws, s _ _ h1, h2.same s, h3⟩
theorem MatN.base {H0 H H' : Hp} {w : Addr} {rows : List (List Int)} (h : MatN H H' w rows) (s : Same H0 H) : MatN H0 H' w rows := by
  obtain ⟨ws, h1, h2, h3, h4, h5⟩ := h
  exact ⟨ws, h1, h2, h3, fun a ha => ⟨(h4 a ha).1, s.free (h4 a ha).2⟩, s.free h5⟩
theorem Rows.set {H : Hp} {ws : List Addr} {rows : List (List Int)} {i : Nat} {a : Addr} {row : List Int} (h : Rows H ws rows) (nd : ws.Nodup) (ha : ws[i]? = some a) : Rows (upd H a (.lst (row.map V.int))) ws (rows.set i row) := by
  have hi : i < rows.length := by rw [← h.1]; exact (List.getElem?_eq_some_iff.mp ha).1
  refine ⟨by simp [h.1], fun j c rw' h1 h2 => ?_⟩
  by_cases hj : i = j
  · subst hj
    rw [ha] at h1
    cases h1
    rw [List.getElem?_set_self hi] at h2
    cases h2
    exact upd_same
  · rw [List.getElem?_set_ne hj] at h2
    have hne : c ≠ a := fun z => by
      subst z
      obtain ⟨l1, e1⟩ := List.getElem?_eq_some_iff.mp ha
      obtain ⟨l2, e2⟩ := List.getElem?_eq_some_iff.mp h1
      exact hj ((List.getElem_inj nd).mp (e1.trans e2.symm))
    rw [upd_ne hne]
    exact h.2 j c rw' h1 h2
end L2

set_option Elab.async false
set_option linter.all false
set_option maxRecDepth 100000
set_option maxHeartbeats 4000000
namespace L2
open PySem PySem.Spec PyProof.Rows BW
/-! ### a way with fair prices is of greatest worth -/
end L2

set_option Elab.async false
set_option linter.all false
set_option maxRecDepth 100000
set_option maxHeartbeats 4000000
namespace L2
open PySem PySem.Spec PyProof.Rows BW
/-! ### what breaks first, asked twice -/
theorem rv_str {K : PySem.W.Frag} {H : Hp} {x : Str} : ReadV K H (.str x) (.str x) := fun X pins σ s u _ _ r => by
  obtain ⟨t, rfl⟩ := r
  exact ⟨[], .str x t⟩
end L2
namespace L2
open PySem PySem.Spec PyProof.Rows BW
/-- bounds that leave room -/
structure FpS (F : Fp) : Prop where
  b0 : 1 ≤ F.beds.length
  b1 : F.beds.length ≤ 10
  w0 : 1 ≤ F.worths.length
  w1 : F.worths.length ≤ 10
  rw : ∀ row ∈ F.worths, row.length = F.beds.length
  rl : F.rows.length = F.beds.length
  wl : F.way.length = F.worths.length
  fit : Fit (bF F.beds) F.way
  pb : 1 ≤ F.parts ∧ F.parts ≤ 10000
  rb : -(10 ^ 50) < F.rent ∧ F.rent < 10 ^ 50
  wb : ∀ row ∈ F.worths, ∀ x ∈ row, -(10 ^ 50) < x ∧ x < 10 ^ 50
  sm : (F.worths.length : Int) ≤ F.beds.sum
theorem FpS.ok {F : Fp} (h : FpS F) : FpOk' F := ⟨h.b1, h.w1, h.rw, h.rl, h.wl, h.fit, by have := h.pb; omega, by have := h.rb; omega, fun row hr x hx => by have := h.wb row hr x hx; omega⟩
end L2

set_option Elab.async false
set_option linter.all false
set_option maxRecDepth 100000
set_option maxHeartbeats 4000000
namespace L2
open PySem PySem.Spec PyProof.Rows BW
end L2

set_option Elab.async false
set_option linter.all false
set_option maxRecDepth 100000
set_option maxHeartbeats 4000000
namespace L2
open PySem PySem.Spec PyProof.Rows BW
/-! ### list(reversed(x)) -/
section
variable {prog : Program} {w : World} {A : Around} {s : Shared} {R : Result → Shared → Prop}
variable {I : Addr} {fp wr : List Addr} {G : Array GenState → Array GenState → Prop} {n : Nat} {P : Nat → Value → Prop} {St : Nat → Shared → Prop}
end
section
variable {prog : Program} {w : World} {A : Around} {E : Value → Shared → Prop} {s : Shared}
variable {I : Addr} {fp wr : List Addr} {G : Array GenState → Array GenState → Prop} {n : Nat} {P : Nat → Value → Prop} {St : Nat → Shared → Prop}
end
theorem vals_app {xs ys : List V} {us vs : List Value} (a : Vals xs us) (b : Vals ys vs) : Vals (xs ++ ys) (us ++ vs) := by
  induction a with
  | nil => exact b
  | cons h _ ih => exact .cons h ih
theorem vals_rev {xs : List V} {us : List Value} (a : Vals xs us) : Vals xs.reverse us.reverse := by
  induction a with
  | nil => exact .nil
  | cons h _ ih =>
    rw [List.reverse_cons, List.reverse_cons]
    exact vals_app ih (.cons h .nil)
end L2

set_option Elab.async false
set_option linter.all false
set_option maxRecDepth 100000
set_option maxHeartbeats 4000000
namespace L2
open PySem PySem.Spec PyProof.Rows BW
/-! ### the same house told in another order -/
structure PermF (n : Nat) (p q : Nat → Nat) : Prop where
  lt : ∀ i, i < n → p i < n
  lt' : ∀ i, i < n → q i < n
  qp : ∀ i, i < n → q (p i) = i
  pq : ∀ i, i < n → p (q i) = i
  sum : ∀ g : Nat → Int, ((List.range n).map fun i => g (p i)).sum = ((List.range n).map g).sum
theorem range_congr {n : Nat} {f g : Nat → Int} (h : ∀ i, i < n → f i = g i) : ((List.range n).map f).sum = ((List.range n).map g).sum := by
  congr 1
  exact List.map_congr_left fun i hi => h i (List.mem_range.mp hi)
theorem PermF.symm {n : Nat} {p q : Nat → Nat} (h : PermF n p q) : PermF n q p := ⟨h.lt', h.lt, h.pq, h.qp, fun g => by
  rw [← h.sum fun i => g (q i)]
  exact range_congr fun i hi => by rw [h.qp i hi]⟩
theorem sum_add (n : Nat) (f g : Nat → Int) : ((List.range n).map fun i => f i + g i).sum = ((List.range n).map f).sum + ((List.range n).map g).sum := by
  induction n with
  | zero => rfl
  | succ n ih =>
    simp only [List.range_succ, List.map_append, List.sum_append, ih, List.map_cons, List.map_nil, List.sum_cons, List.sum_nil]
    omega
theorem cnt_sum (v : List Nat) (r : Nat) : ((v.count r : Nat) : Int) = ((List.range v.length).map fun i => if v.getD i 0 = r then (1 : Int) else 0).sum := by
  induction v with
  | nil => rfl
  | cons x v ih =>
    rw [List.length_cons, List.range_succ_eq_map, List.map_cons, List.sum_cons, List.map_map]
    have e : ((fun i => if (x :: v).getD i 0 = r then (1 : Int) else 0) ∘ Nat.succ) = fun i => if v.getD i 0 = r then (1 : Int) else 0 := by
      funext i
      rfl
    rw [e, ← ih, List.count_cons]
    by_cases h : x = r
    · simp [h]
      omega
    · simp [h]
theorem told1 {n m : Nat} {p q s t : Nat → Nat} (hp : PermF n p q) (hs : PermF m s t) {w w' : Nat → Nat → Int} {more : Nat → Int} (hw : ∀ i r, i < n → r < m → w' i r = w (p i) (s r) + more (p i)) {b b' : Nat → Nat} (hb : ∀ r, r < m → b' r = b (s r))
    {v : List Nat} (hl : v.length = n) (hv : ∀ r ∈ v, r < m) (hf : Fit b v) : ∃ v' : List Nat, v'.length = n ∧ Fit b' v' ∧ wsum w' v' = wsum w v + ((List.range n).map more).sum := by
  have hg : ∀ i, i < n → v.getD i 0 < m := fun i hi => by
    have hi' : i < v.length := by omega
    rw [List.getD, List.getElem?_eq_getElem hi']
    exact hv _ (List.getElem_mem hi')
  refine ⟨(List.range n).map fun i => t (v.getD (p i) 0), by simp, fun r => ?_, ?_⟩
  · have hlen : ((List.range n).map fun i => t (v.getD (p i) 0)).length = n := by simp
    have hgd : ∀ i, i < n → ((List.range n).map fun i => t (v.getD (p i) 0)).getD i 0 = t (v.getD (p i) 0) := fun i hi => by simp [List.getD, hi]
    by_cases hr : r < m
    · have h1 := cnt_sum ((List.range n).map fun i => t (v.getD (p i) 0)) r
      rw [hlen] at h1
      have h2 : ((List.range n).map fun i => if ((List.range n).map fun i => t (v.getD (p i) 0)).getD i 0 = r then (1 : Int) else 0).sum = ((List.range n).map fun i => (fun j => if v.getD j 0 = s r then (1 : Int) else 0) (p i)).sum := range_congr fun i hi => by
        rw [hgd i hi]
        have hx := hg (p i) (hp.lt i hi)
        show (if t (v.getD (p i) 0) = r then (1 : Int) else 0) = if v.getD (p i) 0 = s r then (1 : Int) else 0
        by_cases e : t (v.getD (p i) 0) = r
        · rw [if_pos e, if_pos (by rw [← e, hs.pq _ hx])]
        · rw [if_neg e, if_neg fun z => e (by rw [z, hs.qp r hr])]
      have h2' := hp.sum fun j => if v.getD j 0 = s r then (1 : Int) else 0
      rw [h2, h2'] at h1
      have h3 := cnt_sum v (s r)
      rw [hl] at h3
      have h4 := hf (s r)
      rw [hb r hr]
      have h5 : (((List.range n).map fun i => t (v.getD (p i) 0)).count r : Int) = ((v.count (s r) : Nat) : Int) := by rw [h1, h3]
      omega
    · have : ((List.range n).map fun i => t (v.getD (p i) 0)).count r = 0 := List.count_eq_zero.mpr fun z => by
        obtain ⟨i, hi, e⟩ := List.mem_map.mp z
        have := hs.lt' _ (hg (p i) (hp.lt i (List.mem_range.mp hi)))
        omega
      omega
  · unfold wsum
    rw [show ((List.range n).map fun i => t (v.getD (p i) 0)).length = n by simp, hl, ← sum_add, ← hp.sum fun i => w i (v.getD i 0) + more i]
    refine range_congr fun i hi => ?_
    have e : ((List.range n).map fun i => t (v.getD (p i) 0)).getD i 0 = t (v.getD (p i) 0) := by simp [List.getD, hi]
    have hx := hg (p i) (hp.lt i hi)
    rw [e, hw i _ hi (hs.lt' _ hx), hs.pq _ hx]
theorem told {n m : Nat} {p q s t : Nat → Nat} (hp : PermF n p q) (hs : PermF m s t) {w w' : Nat → Nat → Int} {more : Nat → Int} (hw : ∀ i r, i < n → r < m → w' i r = w (p i) (s r) + more (p i)) {b b' : Nat → Nat} (hb : ∀ r, r < m → b' r = b (s r))
    {v v' : List Nat} (hl : v.length = n) (hv : ∀ r ∈ v, r < m) (hf : Fit b v) (ho : ∀ u : List Nat, u.length = v.length → Fit b u → wsum w u ≤ wsum w v)
    (hl' : v'.length = n) (hv' : ∀ r ∈ v', r < m) (hf' : Fit b' v') (ho' : ∀ u : List Nat, u.length = v'.length → Fit b' u → wsum w' u ≤ wsum w' v') : wsum w' v' = wsum w v + ((List.range n).map more).sum := by
  obtain ⟨u, u1, u2, u3⟩ := told1 hp hs hw hb hl hv hf
  have h1 := ho' u (by omega) u2
  obtain ⟨x, x1, x2, x3⟩ := told1 (w := w') (w' := w) (more := fun j => - more (p j)) hp.symm hs.symm (fun i r hi hr => by
    rw [hw (q i) (t r) (hp.lt' i hi) (hs.lt' r hr), hp.pq i hi, hs.pq r hr]
    omega) (b := b') (b' := b) (fun r hr => by rw [hb (t r) (hs.lt' r hr), hs.pq r hr]) hl' hv' hf'
  have h2 := ho x (by omega) x2
  have h3 : ((List.range n).map fun j => - more (p j)).sum + ((List.range n).map more).sum = 0 := by
    rw [← hp.sum more, ← sum_add]
    have : ∀ k : Nat, ((List.range k).map fun i => - more (p i) + more (p i)).sum = 0 := fun k => by
      induction k with
      | zero => rfl
      | succ k ih =>
        rw [List.range_succ, List.map_append, List.sum_append, ih]
        simp
        omega
    exact this n
  omega
/-- what the law's own turning of a list leaves -/
def turnL {α : Type} (cut : Nat) (back : Bool) (xs : List α) : List α := if back = true then (xs.drop cut ++ xs.take cut).reverse else xs.drop cut ++ xs.take cut
theorem turnL_map {α β : Type} (f : α → β) (cut : Nat) (back : Bool) (xs : List α) : turnL cut back (xs.map f) = (turnL cut back xs).map f := by
  unfold turnL
  cases back <;> simp [List.map_drop, List.map_take]
theorem turnL_perm {α : Type} (cut : Nat) (back : Bool) (xs : List α) : (turnL cut back xs).Perm xs := by
  unfold turnL
  have h : (xs.drop cut ++ xs.take cut).Perm xs := by
    have := (List.perm_append_comm (l₁ := xs.drop cut) (l₂ := xs.take cut))
    rwa [List.take_append_drop] at this
  cases back
  · simpa using h
  · simpa using (List.reverse_perm _).trans h
end L2
namespace L2
open PySem PySem.Spec PyProof.Rows BW
end L2
namespace L2
open PySem PySem.Spec PyProof.Rows BW
theorem turnL_len {α : Type} (c : Nat) (b : Bool) (xs : List α) : (turnL c b xs).length = xs.length := (turnL_perm c b xs).length_eq
theorem Rows.turn {H : Hp} {ws : List Addr} {rows : List (List Int)} (h : Rows H ws rows) (c : Nat) (b : Bool) : Rows H (turnL c b ws) (turnL c b rows) := by
  have e1 : ws = (ws.zip rows).map Prod.fst := by rw [List.map_fst_zip (by rw [h.1]; exact Nat.le_refl _)]
  have e2 : rows = (ws.zip rows).map Prod.snd := by rw [List.map_snd_zip (by rw [h.1]; exact Nat.le_refl _)]
  refine ⟨by rw [turnL_len, turnL_len, h.1], fun i a row h1 h2 => ?_⟩
  rw [e1, turnL_map, List.getElem?_map] at h1
  rw [e2, turnL_map, List.getElem?_map] at h2
  cases hz : (turnL c b (ws.zip rows))[i]? with
  | none => rw [hz] at h1; cases h1
  | some x =>
    rw [hz] at h1 h2
    cases h1
    cases h2
    have hm : x ∈ ws.zip rows := (turnL_perm c b _).mem_iff.mp (List.mem_of_getElem? hz)
    obtain ⟨j, hj, e⟩ := List.mem_iff_getElem.mp hm
    have hj' : j < ws.length ∧ j < rows.length := by rw [List.length_zip] at hj; omega
    rw [List.getElem_zip] at e
    exact h.2 j x.1 x.2 (by rw [List.getElem?_eq_getElem hj'.1, ← e]) (by rw [List.getElem?_eq_getElem hj'.2, ← e])
end L2

set_option Elab.async false
set_option linter.all false
set_option maxRecDepth 100000
set_option maxHeartbeats 4000000
namespace L2
open PySem PySem.Spec PyProof.Rows BW
/-! ### x in a list of things that are read as data -/
/-! ### numbers or None -/
/-! ### who stays -/
/-! ### all ways, gone through -/
theorem Rows.app {H : Hp} {ws1 ws2 : List Addr} {r1 r2 : List (List Int)} (h1 : Rows H ws1 r1) (h2 : Rows H ws2 r2) : Rows H (ws1 ++ ws2) (r1 ++ r2) := by
  refine ⟨by simp [h1.1, h2.1], fun i a row z1 z2 => ?_⟩
  by_cases hi : i < ws1.length
  · rw [List.getElem?_append_left hi] at z1
    rw [List.getElem?_append_left (by rw [← h1.1]; exact hi)] at z2
    exact h1.2 i a row z1 z2
  · rw [List.getElem?_append_right (by omega)] at z1
    rw [List.getElem?_append_right (by rw [← h1.1]; omega), ← h1.1] at z2
    exact h2.2 _ a row z1 z2
end L2

set_option Elab.async false
set_option linter.all false
set_option maxRecDepth 100000
set_option maxHeartbeats 4000000
namespace L2
open PySem PySem.Spec PyProof.Rows BW
/-! ### a list walked from its end -/
def Itv (K : PySem.W.Frag) (a : Addr) (n : Nat) : It :=
  ⟨fun i H => ∃ xs x, SqL K H a xs ∧ xs.length = n ∧ xs.reverse[i]? = some x, fun i H x H' => H' = H ∧ ∀ xs, SqL K H a xs → xs.reverse[i]? = some x, fun i H => i = n⟩
theorem turn_rev {P : Program} {w : World} {K : PySem.W.Frag} {tg : Expr} (a it : Addr) (n : Nat) : Turn P w K tg (Itv K a n) [it] it (fun i h => h.IsRevIter it a ((n : Int) - 1 - (i : Int))) where
  mem := by simp
  obj := fun i h st b hb => by
    have e : b = it := by simpa using hb
    subst e
    obtain ⟨o, e, c, d⟩ := st
    exact ⟨o, e, fun v z => by rw [d] at z; cases z⟩
  keep := fun i h h' st k => st.at fun o e => k it (by simp) o e
  item := by
    intro X hP hw hK hc i pins s σ H E I hf st hg
    subst hP hw hK
    obtain ⟨xs, x, hq, hn, hx⟩ := hg
    have hi : i < n := by
      have := (List.getElem?_eq_some_iff.mp hx).1
      simp at this
      omega
    obtain ⟨its, rv, p, hz⟩ := I.list hq
    obtain ⟨u, hu, ru⟩ := (vals_rev rv).get hx
    obtain ⟨f0, f1, f2, f3, f4, f5⟩ := hf it (by simp)
    have hl := rv.length
    have e1 : (n : Int) - 1 - (i : Int) = ((n - 1 - i : Nat) : Int) := by omega
    have e2 : ((n - 1 - i : Nat) : Int) - 1 = (n : Int) - 1 - ((i + 1 : Nat) : Int) := by omega
    have hu2 : its.toArray[n - 1 - i]? = some u := by
      rw [List.getElem?_reverse (by omega)] at hu
      have e3 : its.length - 1 - i = n - 1 - i := by omega
      rw [e3] at hu
      simpa using hu
    rw [e1] at st
    refine wpAny_pyNext_rev_item st p.isList (x := u) hu2 fun h' st' sb => ?_
    rw [e2] at st'
    have I1 : Inv X pins σ H { s with heap := h' } := I.turned (t' := s.toks) (fun b o hb e => (sb.2 b hb).trans e) f0 f1 f3 f4 f5
    obtain ⟨o, e, c, d⟩ := id st'
    exact ⟨u, rfl, go_of (s := { s with heap := h' }) e c d (by decide) ⟨x, H, I1, ru, ⟨rfl, fun ys hy => by rw [I.list_inj hy hq]; exact hx⟩, st', fun b hb => (hf b hb).1⟩⟩
  done := by
    intro X hP hw hK hc i pins s σ H E I hf st hg
    subst hP hw hK
    have hg' : i = n := hg
    subst hg'
    obtain ⟨f0, f1, f2, f3, f4, f5⟩ := hf it (by simp)
    have e1 : (i : Int) - 1 - (i : Int) = -1 := by omega
    rw [e1] at st
    exact wpAny_pyNext_rev_end (I.ok.hd hc) st fun h' eb => ⟨rfl, I.turned (t' := s.toks) (fun b o hb e => eb b o hb e) f0 f1 f3 f4 f5⟩
  self := fun _ _ _ _ _ st h => wpAny_pyIter_revIter st h
def iRev (K : PySem.W.Frag) (tl : TE) : TI := fun σ H R => tl σ H fun x H1 => ∃ a xs, x = .ref a ∧ SqL K H1 a xs ∧ R (Itv K a xs.length) H1
theorem pi_revK {X : Cx} {K : PySem.W.Frag} {tg e : Expr} {t : TE} {p pos : Pos} (hK : X.K = K) (hg : Gl X "reversed") (hm : X.mg "reversed" = none) (ha : PE X e t)
    (he : starEach [e] X.env = (false, eval e X.env) :: starEach [] X.env := by rfl) : PI X tg (.Call (.Name "reversed" p) [e] [] pos) (iRev K t) := by
  subst hK
  intro pins s σ H R I h
  refine wpAny_Call_Name_kw (ld_blt I hg hm (u := .type "reversed") (by decide +kernel) ?_ (by decide) (by decide))
  refine PyProof.Rows.callWith_type1 ?_ he rfl
  rw [he]
  show wpAny _ _ (spliced ((false, eval e X.env) :: backTo pos (starEach [] X.env))) _ _ s
  refine Calls.spliced_cons (thn (ha pins s σ H _ I h) fun u s1 ⟨x, H1, I1, r1, a, xs, e1, h1, q1⟩ => ?_)
  subst e1
  cases r1
  refine Calls.spliced_nil ?_
  obtain ⟨its, rv, pl, hz⟩ := I1.list h1
  have hl := rv.length
  refine call_reversed_list pl.isList ?_
  have hit : (s1.heap.push (revObj a ((its.toArray.size : Int) - 1))).IsRevIter s1.heap.objs.size a ((xs.length : Int) - 1 - ((0 : Nat) : Int)) := by
    refine ⟨_, Heap.get?_push_size _ rfl, rfl, ?_⟩
    have e2 : (its.toArray.size : Int) - 1 = (xs.length : Int) - 1 - ((0 : Nat) : Int) := by rw [List.size_toArray, hl]; simp
    rw [e2]
    rfl
  refine wpAny_pyIter_revIter hit ?_
  refine ⟨s1.heap.objs.size, [s1.heap.objs.size], _, _, H1, rfl, I1.kept (t' := s1.toks) fun b o e => Heap.get?_push_of_some _ e, turn_rev a _ xs.length, hit, fun b hb => ?_, q1⟩
  have e : b = s1.heap.objs.size := by simpa using hb
  subst e
  exact I1.fpOk (Nat.le_refl _) (I1.hok.fresh (Nat.le_refl _))
theorem comp_rev {K : PySem.W.Frag} {a D : Addr} {xs : List V} {te : TE} {σf : St} {H1 : Hp} {Q : VK} (R : Nat → V → Hp → Prop) (hS : SqL K H1 a xs) (hz : xs.length < sizeLine) (hD1 : H1 D = none)
    (mono : ∀ i y H H', Keep D H H' → R i y H → R i y H')
    (hs : ∀ (i : Nat) x H ys (N : VK), xs.reverse[i]? = some x → Same H1 H → H D = some (.lst ys) → (∀ y H', Same H H' → R i y H' → N y H') → te (some x :: σf) H N)
    (hd : ∀ ys H, Same H1 H → H D = some (.lst ys) → ys.length = xs.length → (∀ (i : Nat) y, ys[i]? = some y → R i y H) → Q (.ref D) H) : CompW (Itv K a xs.length) D (gName 0) tYes te (none :: σf) (upd H1 D (.lst [])) Q := by
  have hl : xs.reverse.length = xs.length := List.length_reverse
  refine comp1 xs.length (fun i => (xs.reverse[i]?).getD .non) R hz hD1 (fun i H hi s => ⟨xs, xs.reverse[i]'(by omega), s.seq hS, rfl, List.getElem?_eq_getElem _⟩) (fun H s => rfl) (fun i H x H' hi s y => ?_) mono (fun i H ys N hi s d hN => ?_) hd
  · obtain ⟨rfl, y⟩ := y
    have := y xs (s.seq hS)
    exact ⟨by simp [this], rfl⟩
  · have e : xs.reverse[i]? = some (xs.reverse[i]'(by omega)) := List.getElem?_eq_getElem _
    have q := hs i _ H ys N e s d hN
    rw [e]
    exact q
theorem Rows.tk {H : Hp} {ws : List Addr} {rs : List (List Int)} (h : Rows H ws rs) (n : Nat) : Rows H (ws.take n) (rs.take n) := by
  refine ⟨by simp [h.1], fun i a row z1 z2 => ?_⟩
  rw [List.getElem?_take] at z1 z2
  by_cases hi : i < n
  · rw [if_pos hi] at z1 z2
    exact h.2 i a row z1 z2
  · rw [if_neg hi] at z1
    cases z1
theorem Rows.one {H : Hp} {c : Addr} {row : List Int} (h : H c = some (.lst (row.map V.int))) : Rows H [c] [row] := by
  refine ⟨rfl, fun i a r z1 z2 => ?_⟩
  have hi : i = 0 := by have := (List.getElem?_eq_some_iff.mp z1).1; simp at this; omega
  subst hi
  simp at z1 z2
  subst z1 z2
  exact h
end L2

set_option Elab.async false
set_option linter.all false
set_option maxRecDepth 100000
set_option maxHeartbeats 4000000
/-! Pairs of people, wings, and who lies near. -/
namespace L2
open PySem PySem.Spec PyProof.Rows
theorem rv_strs {K : PySem.W.Frag} {H : Hp} : ∀ zs : List Str, Paired (ReadV K H) (zs.map V.str) (zs.map PyData.str)
  | [] => .nil
  | _ :: r => .cons rv_str (rv_strs r)
def Prs (H : Hp) (as : List Addr) (ps : List (Int × Int)) : Prop := as.length = ps.length ∧ ∀ (i : Nat) a (p : Int × Int), as[i]? = some a → ps[i]? = some p → H a = some (.tup [.int p.1, .int p.2])
theorem Prs.keep {H H' : Hp} {as : List Addr} {ps : List (Int × Int)} (h : Prs H as ps) (k : ∀ a ∈ as, ∀ o, H a = some o → H' a = some o) : Prs H' as ps := ⟨h.1, fun i a p h1 h2 => k a (List.mem_of_getElem? h1) _ (h.2 i a p h1 h2)⟩
theorem Prs.same {H H' : Hp} {as : List Addr} {ps : List (Int × Int)} (h : Prs H as ps) (s : Same H H') : Prs H' as ps := h.keep fun a _ o e => s a o e
theorem Prs.nil {H : Hp} : Prs H [] [] := ⟨rfl, fun i a p h => by simp at h⟩
theorem Prs.snoc {H : Hp} {as : List Addr} {ps : List (Int × Int)} {a : Addr} {p : Int × Int} (h : Prs H as ps) (ha : H a = some (.tup [.int p.1, .int p.2])) : Prs H (as ++ [a]) (ps ++ [p]) := by
  refine ⟨by simp [h.1], fun i b q h1 h2 => ?_⟩
  by_cases hi : i < as.length
  · rw [List.getElem?_append_left hi] at h1
    rw [List.getElem?_append_left (by rw [← h.1]; exact hi)] at h2
    exact h.2 i b q h1 h2
  · have hl := (List.getElem?_eq_some_iff.mp h1).1
    have e : i = as.length := by simp at hl; omega
    subst e
    have e1 : a = b := by simpa using h1
    have e2 : p = q := by rw [h.1] at h2; simpa using h2
    subst e1 e2
    exact ha
def prD (p : Int × Int) : PyData := .tuple [.int p.1, .int p.2]
theorem rv_prs {K : PySem.W.Frag} {H : Hp} : ∀ {as : List Addr} {ps : List (Int × Int)}, Prs H as ps → Paired (ReadV K H) (as.map V.ref) (ps.map prD)
  | [], [], _ => .nil
  | [], _ :: _, h => by have := h.1; simp at this
  | _ :: _, [], h => by have := h.1; simp at this
  | a :: as, p :: ps, h => .cons (rv_tup (SqT.of (h.2 0 a p rfl rfl)) (.cons rv_int (.cons rv_int .nil))) (rv_prs ⟨by have := h.1; simpa using this, fun i b q h1 h2 => h.2 (i + 1) b q (by simpa using h1) (by simpa using h2)⟩)
/-! what is handed in, as data -/
def handD (way : List Int) (wings : List Str) (ps : List (Int × Int)) : PyData := .list [rowD way, .list (wings.map PyData.str), .list (ps.map prD)]
theorem strs_eqv : ∀ zs : List Str, PyData.eqvAll (zs.map PyData.str) (zs.map PyData.str) = true
  | [] => by simp [PyData.eqvAll]
  | z :: r => by simp [PyData.eqvAll, PyData.eqv, strs_eqv r]
theorem prs_eqv : ∀ ps : List (Int × Int), PyData.eqvAll (ps.map prD) (ps.map prD) = true
  | [] => by simp [PyData.eqvAll]
  | z :: r => by simp [PyData.eqvAll, PyData.eqv, prD, prs_eqv r]
theorem hand_eqv (way : List Int) (wings : List Str) (ps : List (Int × Int)) : PyData.eqv (handD way wings ps) (handD way wings ps) = true := by
  unfold handD
  simp only [PyData.eqv, PyData.eqvAll, row_eqv, strs_eqv, prs_eqv, Bool.and_true]
theorem strs_lay : ∀ zs : List Str, (∀ z ∈ zs, PyData.strOk z = true) → PyData.canLayAll0 (zs.map PyData.str) = true
  | [], _ => rfl
  | z :: r, h => by simp [PyData.canLayAll0, PyData.canLay0, strs_lay r fun y hy => h y (List.mem_cons_of_mem _ hy), h z (List.mem_cons_self ..)]
theorem strOk_of {z : Str} (h : ∀ c ∈ cod z, c < 1114112) : PyData.strOk z = true := by
  unfold PyData.strOk
  rw [Array.all_eq_true']
  intro c hc
  exact decide_eq_true (h c (by simpa [cod] using hc))
theorem strOk_mem {z : Str} (h : PyData.strOk z = true) : ∀ c ∈ cod z, c < 1114112 := by
  unfold PyData.strOk at h
  rw [Array.all_eq_true'] at h
  intro c hc
  exact of_decide_eq_true (h c (by simpa [cod] using hc))
theorem strOk_app {a b : Str} (h1 : PyData.strOk a = true) (h2 : PyData.strOk b = true) : PyData.strOk (a ++ b) = true := by
  refine strOk_of fun c hc => ?_
  rw [cod_app] at hc
  rcases List.mem_append.mp hc with h | h
  · exact strOk_mem h1 c h
  · exact strOk_mem h2 c h
theorem strOk_mul {z : Str} (h : PyData.strOk z = true) (n : Int) : PyData.strOk (Txt.mul z n) = true := by
  unfold Txt.mul
  split
  · decide +kernel
  split
  · exact h
  refine strOk_of fun c hc => ?_
  have key : ∀ (k : Nat) (acc : Array Nat), (∀ x ∈ acc.toList, x < 1114112) → ∀ x ∈ ((List.replicate k z.cps).foldl (· ++ ·) acc).toList, x < 1114112 := by
    intro k
    induction k with
    | zero => intro acc ha; simpa using ha
    | succ k ih =>
      intro acc ha
      rw [List.replicate_succ, List.foldl_cons]
      refine ih _ fun x hx => ?_
      rw [Array.toList_append] at hx
      rcases List.mem_append.mp hx with q | q
      · exact ha x q
      · exact strOk_mem h x q
  exact key n.toNat #[] (by simp) c hc
theorem mul_len1 {c : Nat} {n : Int} (h0 : 0 ≤ n) (h1 : n ≤ 10) : (Txt.mul ⟨#[c]⟩ n).length ≤ 10 ∧ PySem.MulOk ⟨#[c]⟩ n := by
  have e : n = 0 ∨ n = 1 ∨ n = 2 ∨ n = 3 ∨ n = 4 ∨ n = 5 ∨ n = 6 ∨ n = 7 ∨ n = 8 ∨ n = 9 ∨ n = 10 := by omega
  rcases e with rfl | rfl | rfl | rfl | rfl | rfl | rfl | rfl | rfl | rfl | rfl <;> refine ⟨by simp [Txt.mul, Str.length, Str.empty], ?_⟩ <;> (unfold PySem.MulOk; simp [Str.length]; try decide)
theorem prs_lay : ∀ zs : List (Int × Int), PyData.canLayAll0 (zs.map prD) = true
  | [] => rfl
  | z :: r => by simp [PyData.canLayAll0, PyData.canLay0, prD, prs_lay r]
theorem strs_depth : ∀ zs : List Str, PyData.depthAll (zs.map PyData.str) = 0
  | [] => by simp [PyData.depthAll]
  | z :: r => by simp [PyData.depthAll, PyData.depth, strs_depth r]
theorem prs_depth : ∀ zs : List (Int × Int), PyData.depthAll (zs.map prD) ≤ 1
  | [] => by simp [PyData.depthAll]
  | z :: r => by
    have := prs_depth r
    simp only [List.map_cons, PyData.depthAll, prD, PyData.depth]
    omega
theorem hand_shaped (way : List Int) (wings : List Str) (ps : List (Int × Int)) (ok : ∀ z ∈ wings, PyData.strOk z = true) : SeqAt.shaped (handD way wings ps) = true := by
  have := prs_depth ps
  unfold SeqAt.shaped
  refine Bool.and_eq_true_iff.mpr ⟨?_, decide_eq_true ?_⟩
  · simp [handD, rowD, PyData.canLay0, PyData.canLayAll0, PySem.W.ke_canLayAll0, strs_lay wings ok, prs_lay]
  · simp only [handD, PyData.depth, PyData.depthAll, rowD, PySem.W.ke_depthAll, strs_depth]
    omega
theorem rv_hand {K : PySem.W.Frag} {H : Hp} {l a b c : Addr} {way : List Int} {wings : List Str} {as : List Addr} {ps : List (Int × Int)} (hl : H l = some (.lst [.ref a, .ref b, .ref c])) (ha : H a = some (.lst (way.map V.int))) (hb : H b = some (.lst (wings.map V.str)))
    (hc : H c = some (.lst (as.map V.ref))) (hp : Prs H as ps) : ReadV K H (.ref l) (handD way wings ps) :=
  rv_list (SqL.of hl) (.cons (rv_list (SqL.of ha) (rv_ints _)) (.cons (rv_list (SqL.of hb) (rv_strs _)) (.cons (rv_list (SqL.of hc) (rv_prs hp)) .nil)))
/-! who lies near -/
def wAt (way : List Int) (wings : List Str) (i : Int) : Str := wings.getD (way.getD i.toNat 0).toNat Str.empty
def nearP (way : List Int) (wings : List Str) (p : Int × Int) : Bool := decide (V.str (wAt way wings p.1) = V.str (wAt way wings p.2))
def nearN (way : List Int) (wings : List Str) (ps : List (Int × Int)) : Nat := (ps.filter (nearP way wings)).length
theorem nearP_swap (way : List Int) (wings : List Str) (p : Int × Int) : nearP way wings (p.2, p.1) = nearP way wings p := by
  unfold nearP
  exact decide_eq_decide.mpr eq_comm
theorem near_turn (way : List Int) (wings : List Str) (ps : List (Int × Int)) : nearN way wings (ps.reverse.map fun p => (p.2, p.1)) = nearN way wings ps := by
  unfold nearN
  rw [List.filter_map, List.length_map]
  have : (nearP way wings ∘ fun p : Int × Int => (p.2, p.1)) = nearP way wings := funext fun p => nearP_swap way wings p
  rw [this, List.filter_reverse, List.length_reverse]
theorem near_snoc (way : List Int) (wings : List Str) (ps : List (Int × Int)) (p : Int × Int) : nearN way wings (ps ++ [p]) = nearN way wings ps + (if nearP way wings p then 1 else 0) := by
  unfold nearN
  rw [List.filter_append, List.length_append, List.filter_cons]
  split <;> simp
structure NearOk (way : List Int) (wings : List Str) (ps : List (Int × Int)) : Prop where
  lw : way.length ≤ 1000
  lz : wings.length ≤ 1000
  lp : ps.length ≤ 1000
  wr : ∀ r ∈ way, 0 ≤ r ∧ r < (wings.length : Int)
  pr : ∀ p ∈ ps, (0 ≤ p.1 ∧ p.1 < (way.length : Int)) ∧ 0 ≤ p.2 ∧ p.2 < (way.length : Int)
theorem ixWing {K : PySem.W.Frag} {H : Hp} {b : Addr} {way : List Int} {wings : List Str} {i : Int} {Q : VK} (hb : H b = some (.lst (wings.map V.str))) (wr : ∀ r ∈ way, 0 ≤ r ∧ r < (wings.length : Int)) (h0 : 0 ≤ i) (h1 : i < (way.length : Int)) (q : Q (.str (wAt way wings i)) H) : rIx K (.ref b) (.int (way.getD i.toNat 0)) H Q := by
  have hi : i.toNat < way.length := by omega
  have e : way.getD i.toNat 0 = way[i.toNat] := by simp [hi]
  obtain ⟨r0, r1⟩ := wr _ (List.getElem_mem hi)
  rw [← e] at r0 r1
  have hr : (way.getD i.toNat 0).toNat < wings.length := by omega
  refine ixL (SqL.of hb) (atI_int (way.getD i.toNat 0).toNat (by omega) (v := .str (wAt way wings i)) ?_) q
  unfold wAt
  rw [List.getElem?_map]
  generalize (way.getD i.toNat 0).toNat = j at *
  rw [List.getElem?_eq_getElem hr]
  simp [hr]
theorem ixWay {K : PySem.W.Frag} {H : Hp} {a : Addr} {way : List Int} {i : Int} {Q : VK} (ha : H a = some (.lst (way.map V.int))) (h0 : 0 ≤ i) (h1 : i < (way.length : Int)) (q : Q (.int (way.getD i.toNat 0)) H) : rIx K (.ref a) (.int i) H Q := by
  have hi : i.toNat < way.length := by omega
  refine ixL (SqL.of ha) (atI_int i.toNat (by omega) (v := .int (way.getD i.toNat 0)) ?_) q
  simp [hi]
def sp_near : Sp := fun vs H Q _ => ∃ (a b c : Addr) (way : List Int) (wings : List Str) (as : List Addr) (ps : List (Int × Int)), vs = [.ref a, .ref b, .ref c] ∧ H a = some (.lst (way.map V.int)) ∧ H b = some (.lst (wings.map V.str)) ∧ H c = some (.lst (as.map V.ref)) ∧ Prs H as ps ∧ NearOk way wings ps ∧
  ∀ H', Same H H' → Q (.int (nearN way wings ps : Nat)) H'
def sp_way74 (K : PySem.W.Frag) : Sp := fun vs H Q _ => ∃ (a : Addr) (ns : List Int) (r m : Int), vs = [.ref a, .int r, .int m] ∧ SqL K H a (ns.map V.int) ∧ 1 ≤ r ∧ r ≤ 10 ∧ 0 ≤ m ∧ m ≤ 4 * r ∧ m ≤ 10 ∧
  ∀ (W : Addr) (way : List Int) (H' : Hp), Same H H' → H W = none → H' W = some (.lst (way.map V.int)) → (way.length : Int) = m → (∀ x ∈ way, 0 ≤ x ∧ x < r) → Q (.ref W) H'
def sp_wings74 (K : PySem.W.Frag) : Sp := fun vs H Q _ => ∃ (a : Addr) (ns : List Int) (r : Int), vs = [.ref a, .int r] ∧ SqL K H a (ns.map V.int) ∧ 1 ≤ r ∧ r ≤ 10 ∧
  ∀ (W : Addr) (wings : List Str) (H' : Hp), Same H H' → H W = none → H' W = some (.lst (wings.map V.str)) → (wings.length : Int) = r → (∀ z ∈ wings, PyData.strOk z = true) → Q (.ref W) H'
def sp_pairs74 (K : PySem.W.Frag) : Sp := fun vs H Q _ => ∃ (a : Addr) (ns : List Int) (m : Int), vs = [.ref a, .int m] ∧ SqL K H a (ns.map V.int) ∧ 0 ≤ m ∧ m ≤ 10 ∧
  ∀ (l : Addr) (as : List Addr) (ps : List (Int × Int)) (H' : Hp), Same H H' → H l = none → H' l = some (.lst (as.map V.ref)) → Prs H' as ps → ps.length ≤ 200 → (∀ p ∈ ps, (0 ≤ p.1 ∧ p.1 < m) ∧ 0 ≤ p.2 ∧ p.2 < m) → Q (.ref l) H'
/-! a room with fewer than four: there is one, going round -/
theorem room_free {way : List Int} {r : Nat} (hr : 0 < r) (hl : way.length < 4 * r) (hw : ∀ x ∈ way, 0 ≤ x ∧ x < (r : Int)) : ∃ j : Nat, j < r ∧ way.count (j : Int) < 4 := by
  refine Classical.byContradiction fun hc => ?_
  have h4 : ∀ j : Nat, j < r → 4 ≤ way.count (j : Int) := fun j hj => Nat.le_of_not_lt fun h => hc ⟨j, hj, h⟩
  have key : ∀ (k : Nat) (l : List Int), (∀ x ∈ l, 0 ≤ x ∧ x < (k : Int)) → (∀ j : Nat, j < k → 4 ≤ l.count (j : Int)) → 4 * k ≤ l.length := by
    intro k
    induction k with
    | zero => intro l _ _; omega
    | succ k ih =>
      intro l h1 h2
      have e := ih (l.filter fun x => decide (x ≠ (k : Int))) (fun x hx => by
        obtain ⟨m1, m2⟩ := List.mem_filter.mp hx
        have a1 := h1 x m1
        have a2 : x ≠ (k : Int) := of_decide_eq_true m2
        omega) (fun j hj => by
        have e1 : (l.filter fun x => decide (x ≠ (k : Int))).count (j : Int) = l.count (j : Int) := List.count_filter (by simp; omega)
        rw [e1]
        exact h2 j (by omega))
      have e2 : l.length = (l.filter fun x => decide (x ≠ (k : Int))).length + l.count (k : Int) := by
        rw [List.count_eq_countP, ← List.countP_eq_length_filter]
        have := List.length_eq_countP_add_countP (p := fun x => x == (k : Int)) (l := l)
        rw [this, Nat.add_comm]
        congr 1
        refine List.countP_congr fun x _ => ?_
        simp
      have e3 := h2 k (by omega)
      omega
  have := key r way hw h4
  omega
theorem emod_low {a R : Int} (h0 : a < 0) (h1 : -R ≤ a) : a % R = a + R := by
  have e : a % R = (a + R) % R := by rw [Int.add_emod_right]
  rw [e, Int.emod_eq_of_lt (by omega) (by omega)]
theorem round_step {x j R : Int} (x0 : 0 ≤ x) (x1 : x < R) (j0 : 0 ≤ j) (j1 : j < R) (ne : x ≠ j) : ((j - (x + 1) % R) % R).toNat + 1 = ((j - x) % R).toNat ∧ 0 ≤ (x + 1) % R ∧ (x + 1) % R < R := by
  refine ⟨?_, Int.emod_nonneg _ (by omega), Int.emod_lt_of_pos _ (by omega)⟩
  by_cases h : x + 1 < R
  · rw [Int.emod_eq_of_lt (show 0 ≤ x + 1 by omega) h]
    by_cases h2 : x < j
    · rw [Int.emod_eq_of_lt (show 0 ≤ j - (x + 1) by omega) (by omega), Int.emod_eq_of_lt (show 0 ≤ j - x by omega) (by omega)]
      omega
    · rw [emod_low (show j - (x + 1) < 0 by omega) (by omega), emod_low (show j - x < 0 by omega) (by omega)]
      omega
  · have e : x + 1 = R := by omega
    rw [e, Int.emod_self, Int.sub_zero, Int.emod_eq_of_lt j0 j1, emod_low (show j - x < 0 by omega) (by omega)]
    omega
theorem filt_range {α : Type} (d : α) (P : α → Bool) : ∀ ps : List α, ((List.range ps.length).filter fun i => P (ps.getD i d)).length = (ps.filter P).length := by
  intro ps
  have e : ps = (List.range ps.length).map fun i => ps.getD i d := by
    refine List.ext_getElem (by simp) fun i h1 h2 => ?_
    simp [h1]
  conv => rhs; rw [e, List.filter_map, List.length_map]
  rfl
theorem compIf_listN {K : PySem.W.Frag} {a D : Addr} {xs : List V} {tt : TT} {te : TE} {σf : St} {H1 : Hp} {Q : VK} (p : Nat → Bool) (f : Nat → V) (hS : SqL K H1 a xs) (hz : xs.length < sizeLine) (hD1 : H1 D = none)
    (ht : ∀ (i : Nat) x H (N : Bool → Hp → Prop), xs[i]? = some x → Same H1 H → (∀ H', Same H H' → N (p i) H') → tt (some x :: σf) H N)
    (hs : ∀ (i : Nat) x H (N : VK), xs[i]? = some x → p i = true → Same H1 H → (∀ H', Same H H' → N (f i) H') → te (some x :: σf) H N)
    (hd : ∀ H, Same H1 H → H D = some (.lst (((List.range xs.length).filter p).map f)) → Q (.ref D) H) : CompW (Itl K a) D (gName 0) tt te (none :: σf) (upd H1 D (.lst [])) Q := by
  have hx : ∀ i, i < xs.length → xs[i]? = some ((xs[i]?).getD .non) := fun i hi => by simp [hi]
  refine compIf xs.length (fun i => (xs[i]?).getD .non) p f hz hD1 (fun i H hi s => ⟨xs, xs[i], s.seq hS, List.getElem?_eq_getElem hi⟩) (fun H s => ⟨xs, s.seq hS, Nat.le_refl _⟩) (fun i H x H' hi s y => ?_) (fun i H N hi s k => ht i _ H N (hx i hi) s k) (fun i H N hi e s k => hs i _ H N (hx i hi) e s k) hd
  obtain ⟨e, y⟩ := y
  refine ⟨?_, e⟩
  rw [y xs (s.seq hS)]
  rfl
/-- the i-th pair: where it stands -/
theorem Prs.get {H : Hp} {as : List Addr} {ps : List (Int × Int)} {i : Nat} {x : V} (h : Prs H as ps) (hx : (as.map V.ref)[i]? = some x) : ∃ a, x = .ref a ∧ as[i]? = some a ∧ i < ps.length ∧ ps[i]? = some (ps.getD i (0, 0)) ∧ H a = some (.tup [.int (ps.getD i (0, 0)).1, .int (ps.getD i (0, 0)).2]) := by
  rw [List.getElem?_map] at hx
  cases ha : as[i]? with
  | none => rw [ha] at hx; cases hx
  | some a =>
    rw [ha] at hx
    have e : V.ref a = x := by simpa using hx
    have hi : i < as.length := (List.getElem?_eq_some_iff.mp ha).1
    have hi2 : i < ps.length := by rw [← h.1]; exact hi
    have e2 : ps[i]? = some (ps.getD i (0, 0)) := by simp [hi2]
    exact ⟨a, e.symm, rfl, hi2, e2, h.2 i a _ ha e2⟩
theorem vals_of {P : Nat → V → Prop} {α : Type} (f : α → V) (R : Nat → α → Prop) : ∀ (ys : List V) (k : Nat), (∀ (i : Nat) y, ys[i]? = some y → ∃ z, y = f z ∧ R (k + i) z) → ∃ zs : List α, ys = zs.map f ∧ ∀ (i : Nat) z, zs[i]? = some z → R (k + i) z
  | [], _, _ => ⟨[], rfl, fun i z h => by simp at h⟩
  | y :: r, k, h => by
    obtain ⟨z, e, hz⟩ := h 0 y rfl
    obtain ⟨zs, e2, hzs⟩ := vals_of (P := P) f R r (k + 1) fun i y hy => by
      obtain ⟨z, e, hz⟩ := h (i + 1) y (by simpa using hy)
      exact ⟨z, e, by rw [show k + 1 + i = k + (i + 1) by omega]; exact hz⟩
    refine ⟨z :: zs, by rw [e, e2]; rfl, fun i z' hi => ?_⟩
    cases i with
    | zero =>
      have : z = z' := by simpa using hi
      rw [← this]
      exact hz
    | succ i =>
      have := hzs i z' (by simpa using hi)
      rw [show k + (i + 1) = k + 1 + i by omega]
      exact this
theorem ixLetter {K : PySem.W.Frag} {H : Hp} {i : Int} {Q : VK} (h0 : 0 ≤ i) (h1 : i < 26) (q : ∀ c : Nat, c < 1114112 → Q (.str ⟨#[c]⟩) H) : rIx K (.str (Str.ofString "abcdefghijklmnopqrstuvwxyz")) (.int i) H Q := by
  have e : cod (Str.ofString "abcdefghijklmnopqrstuvwxyz") = (List.range 26).map (· + 97) := by decide +kernel
  have hl : i.toNat < 26 := by omega
  refine .inr (.inr ⟨_, i, i.toNat + 97, rfl, rfl, by decide +kernel, atI_int i.toNat (by omega) ?_, q _ (by omega)⟩)
  show (cod (Str.ofString "abcdefghijklmnopqrstuvwxyz"))[i.toNat]? = _
  rw [e]
  simp [hl]
theorem Prs.rev {H : Hp} {as : List Addr} {ps : List (Int × Int)} (h : Prs H as ps) : Prs H as.reverse ps.reverse := by
  refine ⟨by rw [List.length_reverse, List.length_reverse, h.1], fun i a p h1 h2 => ?_⟩
  have l1 := (List.getElem?_eq_some_iff.mp h1).1
  rw [List.length_reverse] at l1
  rw [List.getElem?_reverse l1] at h1
  rw [List.getElem?_reverse (by rw [← h.1]; exact l1), ← h.1] at h2
  exact h.2 _ a p h1 h2
theorem Prs.turned {H : Hp} {as' : List Addr} {ps : List (Int × Int)} (hl : as'.length = ps.length) (hz : ∀ (i : Nat) t, as'[i]? = some t → H t = some (.tup [.int (ps.reverse.getD i (0, 0)).2, .int (ps.reverse.getD i (0, 0)).1])) : Prs H as' (ps.reverse.map fun p => (p.2, p.1)) := by
  refine ⟨by simp [hl], fun i a p h1 h2 => ?_⟩
  have := hz i a h1
  rw [List.getElem?_map] at h2
  cases hq : ps.reverse[i]? with
  | none => rw [hq] at h2; cases h2
  | some q =>
    rw [hq] at h2
    have e : (q.2, q.1) = p := by simpa using h2
    rw [List.getD_eq_getElem?_getD, hq] at this
    rw [← e]
    exact this
theorem NearOk.turned {way : List Int} {wings : List Str} {ps : List (Int × Int)} (h : NearOk way wings ps) : NearOk way wings (ps.reverse.map fun p => (p.2, p.1)) :=
  ⟨h.lw, h.lz, by simpa using h.lp, h.wr, fun p hp => by
    obtain ⟨q, hq, rfl⟩ := List.mem_map.mp hp
    have := h.pr q (List.mem_reverse.mp hq)
    exact ⟨this.2, this.1⟩⟩
end L2

set_option Elab.async false
set_option linter.all false
set_option maxRecDepth 100000
set_option maxHeartbeats 4000000
local macro_rules | `(tactic| walk_at "go") => `(tactic| repeat (first
  | refine ⟨_, rfl, ?_⟩
  | refine ⟨_, _, rfl, rfl, ?_⟩
  | refine ⟨rfl, ?_⟩
  | refine ⟨⟨⟨by omega, by omega⟩, ⟨by omega, by omega⟩⟩, ?_⟩
  | refine ⟨⟨by omega, by omega⟩, ?_⟩
  | refine ⟨⟨by decide, by decide, by decide⟩, ?_⟩
  | refine ⟨⟨by decide, by decide, by omega⟩, ?_⟩
  | refine And.intro (by decide) ?_
  | refine And.intro (by show (0 : Int) < _; decide) ?_
  | refine And.intro (by (with_reducible show List.length _ ≤ PySem.sizeLine); exact L2.len_small (by simp)) ?_
  | refine And.intro (by omega) ?_))

namespace My
open PySem L2
def top (i : Nat) : Stmt := PySem.Challenge.pw_rentshare_k74_pairs_counted.main.body.getD i (.Pass ⟨0, 0, 0, 0⟩)
structure Txt (mg : Str → Option Value) : Prop where
  len : mg "len" = none
  range : mg "range" = none
  isinstance : mg "isinstance" = none
  int : mg "int" = none
  bool : mg "bool" = none
  list : mg "list" = none
  min : mg "min" = none
  reversed : mg "reversed" = none
abbrev s_lie_near : Stmt := top 1
theorem sc_lie_near : FnScope ["way", "wings", "pair"] ["way", "wings", "pair"] (defScope s_lie_near) := ⟨rfl, rfl, rfl, by decide +kernel, rfl, by decide +kernel, by decide +kernel⟩
abbrev s_near_count : Stmt := top 2
theorem sc_near_count : FnScope ["way", "wings", "pairs"] ["way", "wings", "pairs"] (defScope s_near_count) := ⟨rfl, rfl, rfl, by decide +kernel, rfl, by decide +kernel, by decide +kernel⟩
abbrev s__law_cell_at : Stmt := top 4
theorem sc__law_cell_at : FnScope ["_law_script", "_law_k"] ["_law_script", "_law_k"] (defScope s__law_cell_at) := ⟨rfl, rfl, rfl, by decide +kernel, rfl, by decide +kernel, by decide +kernel⟩
abbrev s__law_mixed : Stmt := top 5
theorem sc__law_mixed : FnScope ["_law_cell", "_law_k", "_law_m"] ["_law_cell", "_law_k"] (defScope s__law_mixed) := ⟨rfl, rfl, rfl, by decide +kernel, rfl, by decide +kernel, by decide +kernel⟩
abbrev s__law_whole : Stmt := top 6
theorem sc__law_whole : FnScope ["_law_found"] ["_law_found"] (defScope s__law_whole) := ⟨rfl, rfl, rfl, by decide +kernel, rfl, by decide +kernel, by decide +kernel⟩
abbrev s__law_wings : Stmt := top 7
theorem sc__law_wings : FnScope ["_law_script", "_law_rooms", "_law_letters", "_law_head", "_law_size", "_law_place", "_law_rest", "_law_names", "_law_k", "_law_sign", "_law_many"] ["_law_script", "_law_rooms"] (defScope s__law_wings) := ⟨rfl, rfl, rfl, by decide +kernel, rfl, by decide +kernel, by decide +kernel⟩
abbrev s__law_pairs : Stmt := top 8
theorem sc__law_pairs : FnScope ["_law_script", "_law_many", "_law_pairs_here", "_law_a", "_law_b", "_law_k", "_law_m"] ["_law_script", "_law_many"] (defScope s__law_pairs) := ⟨rfl, rfl, rfl, by decide +kernel, rfl, by decide +kernel, by decide +kernel⟩
abbrev s__law_near : Stmt := top 9
theorem sc__law_near : FnScope ["_law_way_here", "_law_wings_here", "_law_pairs_here", "_law_many", "_law_pair", "_law_wing"] ["_law_way_here", "_law_wings_here", "_law_pairs_here"] (defScope s__law_near) := ⟨rfl, rfl, rfl, by decide +kernel, rfl, by decide +kernel, by decide +kernel⟩
abbrev s__law_way : Stmt := top 10
theorem sc__law_way : FnScope ["_law_script", "_law_rooms", "_law_many", "_law_way_here", "_law_i", "_law_r"] ["_law_script", "_law_rooms", "_law_many"] (defScope s__law_way) := ⟨rfl, rfl, rfl, by decide +kernel, rfl, by decide +kernel, by decide +kernel⟩
abbrev s_law : Stmt := top 11
theorem sc_law : FnScope ["_law_script", "_law_rooms", "_law_many", "_law_way_here", "_law_wings_here", "_law_pairs_here", "_law_handed", "_law_found", "_law_turned"] ["_law_script"] (defScope s_law) := ⟨rfl, rfl, rfl, by decide +kernel, rfl, by decide +kernel, by decide +kernel⟩
section
variable {P : Program} {w : World} {K : PySem.W.Frag} {mg : Str → Option Value} {base : Heap}
theorem D_cell (T : Txt mg) (S : Src K mg "_law_cell_at" "_law_cell_at" s__law_cell_at) : Def P w K mg base 1 "_law_cell_at" ["_law_script", "_law_k"] (sp_cell K) := by
  refine S.mk' sc__law_cell_at (fun vs H Q E h => ?_) (fun _ _ _ _ _ _ us hl => match us, hl with | [_, _], _ => rfl) (fun f cdv A outer s H vs Q E hr h => ?_)
  · obtain ⟨a, ns, k, rfl, _⟩ := h
    rfl
  · obtain ⟨a, ns, k, rfl, hS, h0, q⟩ := h
    refine ⟨_, (pss_cons (ps_if (pt_cmpR op_lt (pv 1) (pe_callB (call_lenK (K := K) rfl) (by rfl) T.len boot_len' (pa_cons (pv 0) pa_nil)) (nomark _)) (pss_one (ps_ret (pe_ix (ix_seqK (K := K) rfl) (pv 0) (pv 1) (fun _ _ => rfl)))) pss_nil)
      (pss_one (ps_ret pe_int))), ?_⟩
    walk_at "go"
    refine ⟨a, _, rfl, .inl hS, ?_⟩
    walk_at "go"
    refine ite2 (fun e => ?_) (fun _ => q 0)
    walk_at "go"
    have hk : k < ns.length := by
      have := of_decide_eq_true e
      simpa using this
    exact ixInts hS h0 hk fun z _ => q z
theorem D_mixed (S : Src K mg "_law_mixed" "_law_mixed" s__law_mixed) : Def P w K mg base 1 "_law_mixed" ["_law_cell", "_law_k"] sp_mixed := by
  refine S.mk' sc__law_mixed (fun vs H Q E h => ?_) (fun _ _ _ _ _ _ us hl => match us, hl with | [_, _], _ => rfl) (fun f cdv A outer s H vs Q E hr h => ?_)
  · obtain ⟨c, k, rfl, _⟩ := h
    rfl
  · obtain ⟨c, k, rfl, h1, h2, q⟩ := h
    refine ⟨_, (pss_cons (ps_set (i := 2) sc__law_mixed.nd rfl (Or.inl rfl) (pe_op op_mod (pe_op op_mulW (pe_op op_add (pe_op op_mod (pv 0) pe_int) pe_int) (pe_op op_add pe_int (pe_op op_mulW (pe_op op_mulW pe_int (pv 1)) (pv 1)))) pe_int))
      (pss_one (ps_ret (pe_op op_mod (pe_op op_mulW (pv 2) (pv 2)) pe_int)))), ?_⟩
    have b1 := mul_bd (a := 2 * k) (b := k) (A := 2000000) (B := 1000000) (by omega) (by omega) (by omega) (by omega)
    walk_at "go"
    exact q _ (Int.emod_nonneg _ (by decide)) (Int.emod_lt_of_pos _ (by decide))
theorem D_whole (T : Txt mg) (S : Src K mg "_law_whole" "_law_whole" s__law_whole) : Def P w K mg base 1 "_law_whole" ["_law_found"] sp_whole := by
  refine S.mk' sc__law_whole (fun vs H Q E h => ?_) (fun _ _ _ _ _ _ us hl => match us, hl with | [_], _ => rfl) (fun f cdv A outer s H vs Q E hr h => ?_)
  · obtain ⟨i, rfl, _⟩ := h
    rfl
  · obtain ⟨i, rfl, q⟩ := h
    refine ⟨_, (pss_one (ps_ret (pe_and (pe_callB (call_isinstK (K := K) rfl) (by rfl) T.isinstance boot_isinstance' (pa_cons (pv 0) (pa_cons (pe_bltn (v := .ty "int") rfl T.int boot_int' rfl) pa_nil))) (pe_one (pe_not (pe_callB (call_isinstK (K := K) rfl) (by rfl) T.isinstance boot_isinstance' (pa_cons (pv 0) (pa_cons (pe_bltn (v := .ty "bool") rfl T.bool boot_bool' rfl) pa_nil)))))))), ?_⟩
    walk_at "go"
    refine ⟨_, _, _, true, rfl, .int _, kit_same _ _, _, rfl, iteT ?_⟩
    walk_at "go"
    refine ⟨_, _, _, false, rfl, .int _, kit_ib _, _, rfl, ?_⟩
    exact q
def sp_lie : Sp := fun vs H Q _ => ∃ (a b t : Addr) (way : List Int) (wings : List Str) (as : List Addr) (ps : List (Int × Int)) (p : Int × Int), vs = [.ref a, .ref b, .ref t] ∧ H a = some (.lst (way.map V.int)) ∧ H b = some (.lst (wings.map V.str)) ∧ NearOk way wings ps ∧ p ∈ ps ∧ H t = some (.tup [.int p.1, .int p.2]) ∧ as = [] ∧ ∀ H', Same H H' → Q (.bl (nearP way wings p)) H'
theorem D_lie (T : Txt mg) (S : Src K mg "lie_near" "lie_near" s_lie_near) : Def P w K mg base 1 "lie_near" ["way", "wings", "pair"] sp_lie := by
  refine S.mk' sc_lie_near (fun vs H Q E h => ?_) (fun _ _ _ _ _ _ us hl => match us, hl with | [_, _, _], _ => rfl) (fun f cdv A outer s H vs Q E hr h => ?_)
  · obtain ⟨a, b, t, way, wings, as, ps, p, rfl, _⟩ := h
    rfl
  · obtain ⟨a, b, t, way, wings, as, ps, p, rfl, ha, hb, ok, hp, ht, _, q⟩ := h
    refine ⟨_, (pss_one (ps_ret (pe_cmpR op_eq (pe_ix (ix_seqK (K := K) rfl) (pv 1) (pe_ix (ix_seqK (K := K) rfl) (pv 0) (pe_ix (ix_seqK (K := K) rfl) (pv 2) pe_int (fun _ _ => rfl)) (fun _ _ => rfl)) (fun _ _ => rfl)) (pe_ix (ix_seqK (K := K) rfl) (pv 1) (pe_ix (ix_seqK (K := K) rfl) (pv 0) (pe_ix (ix_seqK (K := K) rfl) (pv 2) pe_int (fun _ _ => rfl)) (fun _ _ => rfl)) (fun _ _ => rfl)) (nomark _)))), ?_⟩
    have hpr := ok.pr _ hp
    walk_at "go"
    refine ixT (SqT.of ht) rfl ?_
    refine ixWay ha hpr.1.1 hpr.1.2 ?_
    refine ixWing hb ok.wr hpr.1.1 hpr.1.2 ?_
    walk_at "go"
    refine ixT (SqT.of ht) rfl ?_
    refine ixWay ha hpr.2.1 hpr.2.2 ?_
    refine ixWing hb ok.wr hpr.2.1 hpr.2.2 ?_
    walk_at "go"
    exact q _ (Same.refl _)
theorem D_near (T : Txt mg) (S : Src K mg "near_count" "near_count" s_near_count) (Dlie_near : Def P w K mg base 1 "lie_near" ["way", "wings", "pair"] sp_lie) : Def P w K mg base 2 "near_count" ["way", "wings", "pairs"] sp_near := by
  refine S.mk' sc_near_count (fun vs H Q E h => ?_) (fun _ _ _ _ _ _ us hl => match us, hl with | [_, _, _], _ => rfl) (fun f cdv A outer s H vs Q E hr h => ?_)
  · obtain ⟨a, b, c, way, wings, as, ps, rfl, _⟩ := h
    rfl
  · obtain ⟨a, b, c, way, wings, as, ps, rfl, ha, hb, hc, hp, ok, q⟩ := h
    refine ⟨_, (pss_one (ps_ret (pe_callB (call_lenK (K := K) rfl) (by rfl) T.len boot_len' (pa_cons (pe_comp ["pair", "way", "wings"] [none, some 0, some 1] rfl rfl rfl (pi_listK (K := K) rfl (pv 2)) (fun _ _ _ _ => (pg_name (i := 0) (by decide +kernel : (["pair", "way", "wings"] : List PySem.Str).Nodup) rfl (Or.inl rfl))) (fun _ _ _ _ => (pifs_one (pt_val (pe_def Dlie_near (hr.mono (by decide)) rfl (pa_cons (pv 1) (pa_cons (pv 2) (pa_cons (pv 0) pa_nil))))))) (fun _ _ _ _ => (pv 0))) pa_nil)))), ?_⟩
    refine ⟨_, rfl, c, rfl, ⟨_, SqL.of hc⟩, fun D hD => ?_⟩
    have hlen : (as.map V.ref).length = ps.length := by rw [List.length_map, hp.1]
    refine compIf_listN (fun i => nearP way wings (ps.getD i (0, 0))) (fun i => .ref (as.getD i 0)) (SqL.of hc) (by rw [hlen, sizeLine_eq]; have := ok.lp; omega) hD ?_ ?_ ?_
    · rintro i x H1 N hx s1 hN
      obtain ⟨t, rfl, _, hi, e2, ht⟩ := (hp.same s1).get hx
      have hpr := ok.pr _ (List.mem_of_getElem? e2)
      have ha1 := s1 _ _ ha
      have hb1 := s1 _ _ hb
      walk_at "go"
      refine ⟨a, b, t, way, wings, [], ps, _, rfl, ha1, hb1, ok, List.mem_of_getElem? e2, ht, rfl, fun H2 s2 => ?_⟩
      walk_at "go"
      exact hN _ s2
    · rintro i x H1 N hx hpi s1 hN
      obtain ⟨t, rfl, e1, hi, e2, ht⟩ := (hp.same s1).get hx
      have e3 : t = as.getD i 0 := by rw [List.getD_eq_getElem?_getD, e1]; rfl
      subst e3
      exact ⟨_, rfl, hN _ (Same.refl _)⟩
    · rintro H1 s1 d1
      refine ⟨D, _, rfl, .inl (SqL.of d1), ?_⟩
      rw [List.length_map, hlen, filt_range (0, 0) (nearP way wings) ps]
      exact q _ s1
theorem D_lnear (T : Txt mg) (S : Src K mg "_law_near" "_law_near" s__law_near) : Def P w K mg base 1 "_law_near" ["_law_way_here", "_law_wings_here", "_law_pairs_here"] sp_near := by
  refine S.mk' sc__law_near (fun vs H Q E h => ?_) (fun _ _ _ _ _ _ us hl => match us, hl with | [_, _, _], _ => rfl) (fun f cdv A outer s H vs Q E hr h => ?_)
  · obtain ⟨a, b, c, way, wings, as, ps, rfl, _⟩ := h
    rfl
  · obtain ⟨a, b, c, way, wings, as, ps, rfl, ha, hb, hc, hp, ok, q⟩ := h
    refine ⟨_, (pss_cons (ps_set (i := 3) sc__law_near.nd rfl (Or.inl rfl) pe_int)
      (pss_cons (ps_for PassesOwn.never rfl (pi_listK (K := K) rfl (pv 2)) (pg_name (i := 4) sc__law_near.nd rfl (Or.inl rfl))
      (pss_cons (ps_set (i := 5) sc__law_near.nd rfl (Or.inl rfl) (pe_ix (ix_seqK (K := K) rfl) (pv 1) (pe_ix (ix_seqK (K := K) rfl) (pv 0) (pe_ix (ix_seqK (K := K) rfl) (pv 4) pe_int (fun _ _ => rfl)) (fun _ _ => rfl)) (fun _ _ => rfl)))
      (pss_one (ps_set (i := 3) sc__law_near.nd rfl (Or.inl rfl) (pe_op op_add (pv 3) (pe_callTy call_int1 (by rfl) T.int boot_int' (pa_cons (pe_cmpR op_eq (pv 5) (pe_ix (ix_seqK (K := K) rfl) (pv 1) (pe_ix (ix_seqK (K := K) rfl) (pv 0) (pe_ix (ix_seqK (K := K) rfl) (pv 4) pe_int (fun _ _ => rfl)) (fun _ _ => rfl)) (fun _ _ => rfl)) (nomark _)) pa_nil)))))))
      (pss_one (ps_ret (pv 3))))), ?_⟩
    refine ⟨_, rfl, c, rfl, ⟨_, SqL.of hc⟩, ?_⟩
    have hlen : (as.map V.ref).length = ps.length := by rw [List.length_map, hp.1]
    refine for_list (xs := as.map V.ref) (fun i σ H' => H' = H ∧ ∃ o4 o5 : Option V, σ = [some (.ref a), some (.ref b), some (.ref c), some (.int ((nearN way wings (ps.take i) : Nat) : Int)), o4, o5]) ⟨rfl, none, none, rfl⟩ (fun i σ H' _ h => h.1 ▸ SqL.of hc) ?_ ?_
    · rintro i x σ H1 hx ⟨rfl, o4, o5, rfl⟩
      obtain ⟨t, rfl, _, hi, e2, ht⟩ := hp.get hx
      have hpr := ok.pr _ (List.mem_of_getElem? e2)
      have hn : nearN way wings (ps.take i) ≤ 1000 := by
        unfold nearN
        have := List.length_filter_le (nearP way wings) (ps.take i)
        rw [List.length_take] at this
        have := ok.lp
        omega
      have e3 : ps.take (i + 1) = ps.take i ++ [ps.getD i (0, 0)] := by
        rw [List.take_add_one, e2]
        rfl
      walk_at "go"
      refine ixT (SqT.of ht) rfl ?_
      refine ixWay ha hpr.1.1 hpr.1.2 ?_
      refine ixWing hb ok.wr hpr.1.1 hpr.1.2 ?_
      walk_at "go"
      refine ixT (SqT.of ht) rfl ?_
      refine ixWay ha hpr.2.1 hpr.2.2 ?_
      refine ixWing hb ok.wr hpr.2.1 hpr.2.2 ?_
      refine ⟨rfl, .inr ⟨_, rfl, ?_⟩⟩
      walk_at "go"
      refine ⟨some (.ref t), some (.str (wAt way wings (ps.getD i (0, 0)).1)), ?_⟩
      rw [e3, near_snoc]
      cases h : nearP way wings (ps.getD i (0, 0)) with
      | false =>
        have h' : decide (V.str (wAt way wings (ps.getD i (0, 0)).1) = V.str (wAt way wings (ps.getD i (0, 0)).2)) = false := h
        rw [h']
        rfl
      | true =>
        have h' : decide (V.str (wAt way wings (ps.getD i (0, 0)).1) = V.str (wAt way wings (ps.getD i (0, 0)).2)) = true := h
        rw [h']
        rfl
    · rintro σ H1 ⟨rfl, o4, o5, rfl⟩
      walk_at "go"
      rw [hlen, List.take_length]
      exact q _ (Same.refl _)
theorem D_way74 (T : Txt mg) (S : Src K mg "_law_way" "_law_way" s__law_way) (D_law_mixed : Def P w K mg base 1 "_law_mixed" ["_law_cell", "_law_k"] sp_mixed) (D_law_cell_at : Def P w K mg base 1 "_law_cell_at" ["_law_script", "_law_k"] (sp_cell K)) : Def P w K mg base 2 "_law_way" ["_law_script", "_law_rooms", "_law_many"] (sp_way74 K) := by
  refine S.mk' sc__law_way (fun vs H Q E h => ?_) (fun _ _ _ _ _ _ us hl => match us, hl with | [_, _, _], _ => rfl) (fun f cdv A outer s H vs Q E hr h => ?_)
  · obtain ⟨a, ns, r, m, rfl, _⟩ := h
    rfl
  · obtain ⟨a, ns, r, m, rfl, hS, r0, r1, m0, m1, m2, q⟩ := h
    refine ⟨_, (pss_cons (ps_set (i := 3) sc__law_way.nd rfl (Or.inl rfl) (pe_lst' pa_nil))
      (pss_cons (ps_for PassesOwn.never rfl (pi_range1 rfl T.range (pa_cons (pv 2) pa_nil)) (pg_name (i := 4) sc__law_way.nd rfl (Or.inl rfl))
      (pss_cons (ps_set (i := 5) sc__law_way.nd rfl (Or.inl rfl) (pe_op op_mod (pe_def D_law_mixed (hr.mono (by decide)) rfl (pa_cons (pe_def D_law_cell_at (hr.mono (by decide)) rfl (pa_cons (pv 0) (pa_cons (pe_op op_add pe_int (pv 4)) pa_nil))) (pa_cons (pe_op op_add pe_int (pv 4)) pa_nil))) (pv 1)))
      (pss_cons (ps_while PassesOwn.never (pt_cmpR op_eq (pe_bmK (K := K) rfl PySem.F.plainAttrs_list PySem.F.slot_list_count PySem.F.type_list_count (mt_countK (K := K) rfl) (pv 3) (pa_cons (pv 5) pa_nil)) pe_int (nomark _)) (pss_one (ps_set (i := 5) sc__law_way.nd rfl (Or.inl rfl) (pe_op op_mod (pe_op op_add (pv 5) pe_int) (pv 1)))))
      (pss_one (ps_expr (pe_bmK (K := K) rfl PySem.F.plainAttrs_list PySem.F.slot_list_append PySem.F.type_list_append mt_append (pv 3) (pa_cons (pv 5) pa_nil)))))))
      (pss_one (ps_ret (pv 3))))), ?_⟩
    walk_at "go"
    refine fun W H1 n1 => ?_
    walk_at "go"
    refine for_range (fun i σ H' => ∃ (way : List Int) (o4 o5 : Option V), σ = [some (.ref a), some (.int r), some (.int m), some (.ref W), o4, o5] ∧ H' W = some (.lst (way.map V.int)) ∧ way.length = i ∧ (∀ x ∈ way, 0 ≤ x ∧ x < r) ∧ Same H H') ⟨[], none, none, rfl, n1.at_, rfl, (fun x h => by cases h), n1.same⟩ ?_ ?_
    · rintro i σ H2 hi ⟨way, o4, o5, rfl, hW, hl, hw, s2⟩
      walk_at "go"
      refine ⟨a, ns, _, rfl, s2.seq hS, by omega, fun z => ?_⟩
      walk_at "go"
      refine ⟨z, _, rfl, by omega, by omega, fun y y0 y1 => ?_⟩
      walk_at "go"
      obtain ⟨j, hj, hc⟩ := room_free (way := way) (r := r.toNat) (by omega) (by omega) (fun x hx => by have := hw x hx; omega)
      have g0 := Int.emod_nonneg y (show r ≠ 0 by omega)
      have g1 := Int.emod_lt_of_pos y (show 0 < r by omega)
      refine ⟨fun k σ' H' => H' = H2 ∧ ∃ x : Int, σ' = [some (.ref a), some (.int r), some (.int m), some (.ref W), some (.int (0 + (i : Int))), some (.int x)] ∧ 0 ≤ x ∧ x < r ∧ k = (((j : Int) - x) % r).toNat, ⟨_, rfl, _, rfl, g0, g1, rfl⟩, ?_⟩
      rintro k σ' H3 ⟨rfl, x, rfl, x0, x1, hk⟩
      refine ⟨_, rfl, .inl ⟨rfl, _, SqL.of hW⟩, _, rfl, W, way, _, rfl, rfl, SqL.of hW, ?_⟩
      walk_at "go"
      refine ite2 (fun e => ?_) (fun e => ?_)
      · have e4 : ((way.count x : Nat) : Int) = 4 := by
          have := of_decide_eq_true e
          injection this
        have ne : x ≠ (j : Int) := fun h => by rw [h] at e4; omega
        obtain ⟨k1, k2, k3⟩ := round_step x0 x1 (show (0 : Int) ≤ j by omega) (show (j : Int) < r by omega) ne
        refine ⟨fun σ' H' => H' = H3 ∧ σ' = [some (.ref a), some (.int r), some (.int m), some (.ref W), some (.int (0 + (i : Int))), some (.int ((x + 1) % r))], fun σ' H' h => ⟨(((j : Int) - (x + 1) % r) % r).toNat, by omega, h.1, _, h.2, k2, k3, rfl⟩, ?_⟩
        walk_at "go"
        exact rfl
      · refine ⟨_, rfl, .inl ⟨rfl, _, SqL.of hW⟩, _, rfl, W, _, _, rfl, rfl, hW, by rw [sizeLine_eq, List.length_map]; omega, ?_⟩
        refine ⟨way ++ [x], _, _, rfl, by rw [upd_same]; simp, by simp [hl], fun y hy => ?_, fun c u e => ?_⟩
        · rcases List.mem_append.mp hy with h | h
          · exact hw y h
          · have : y = x := by simpa using h
            rw [this]
            exact ⟨x0, x1⟩
        · rw [upd_ne (ne_of_none e n1.none)]
          exact s2 _ _ e
    · rintro σ H2 ⟨way, o4, o5, rfl, hW, hl, hw, s2⟩
      walk_at "go"
      exact q W way H2 s2 n1.none hW (by omega) hw
theorem D_wings74 (T : Txt mg) (S : Src K mg "_law_wings" "_law_wings" s__law_wings) (D_law_mixed : Def P w K mg base 1 "_law_mixed" ["_law_cell", "_law_k"] sp_mixed) (D_law_cell_at : Def P w K mg base 1 "_law_cell_at" ["_law_script", "_law_k"] (sp_cell K)) : Def P w K mg base 2 "_law_wings" ["_law_script", "_law_rooms"] (sp_wings74 K) := by
  refine S.mk' sc__law_wings (fun vs H Q E h => ?_) (fun _ _ _ _ _ _ us hl => match us, hl with | [_, _], _ => rfl) (fun f cdv A outer s H vs Q E hr h => ?_)
  · obtain ⟨a, ns, r, rfl, _⟩ := h
    rfl
  · obtain ⟨a, ns, r, rfl, hS, r0, r1, q⟩ := h
    refine ⟨_, (pss_cons (ps_set (i := 2) sc__law_wings.nd rfl (Or.inl rfl) pe_str)
      (pss_cons (ps_set (i := 3) sc__law_wings.nd rfl (Or.inl rfl) (pe_def D_law_mixed (hr.mono (by decide)) rfl (pa_cons (pe_def D_law_cell_at (hr.mono (by decide)) rfl (pa_cons (pv 0) (pa_cons pe_int pa_nil))) (pa_cons pe_int pa_nil))))
      (pss_cons (ps_set (i := 4) sc__law_wings.nd rfl (Or.inl rfl) (pe_op op_add pe_int (pe_op op_mod (pv 3) pe_int)))
      (pss_cons (ps_set (i := 5) sc__law_wings.nd rfl (Or.inl rfl) (pe_op op_mod (pe_op op_fdivW (pv 3) pe_int) (pv 4)))
      (pss_cons (ps_set (i := 6) sc__law_wings.nd rfl (Or.inl rfl) (pe_ix (ix_seqK (K := K) rfl) (pv 2) (pe_op op_mod (pe_op op_fdivW (pv 3) pe_int) pe_int) (fun _ _ => rfl)))
      (pss_cons (ps_set (i := 7) sc__law_wings.nd rfl (Or.inr rfl) (pe_lst' pa_nil))
      (pss_cons (ps_for PassesOwn.never rfl (pi_range1 rfl T.range (pa_cons pe_int pa_nil)) (pg_name (i := 8) sc__law_wings.nd rfl (Or.inl rfl))
      (pss_cons (ps_set (i := 9) sc__law_wings.nd rfl (Or.inl rfl) (pe_ix (ix_seqK (K := K) rfl) (pv 2) (pe_op op_mod (pe_op op_add (pe_op op_fdivW (pv 3) pe_int) (pv 8)) pe_int) (fun _ _ => rfl)))
      (pss_one (ps_expr (pe_bmK (K := K) rfl PySem.F.plainAttrs_list PySem.F.slot_list_append PySem.F.type_list_append mt_append (pv 7) (pa_cons (pe_op op_add_str (pe_op op_add_str (pe_op op_mulS (pv 6) (pv 5)) (pv 9)) (pe_op op_mulS (pv 6) (pe_op op_sub (pe_op op_sub (pv 4) pe_int) (pv 5)))) pa_nil))))))
      (pss_cons (ps_set (i := 10) sc__law_wings.nd rfl (Or.inr rfl) (pe_op op_add pe_int (pe_op op_mod (pe_op op_fdivW (pv 3) pe_int) pe_int)))
      (pss_one (ps_ret (pe_comp ["_law_r", "_law_many", "_law_names", "_law_script"] [none, some 10, some 7, some 0] rfl rfl rfl (pi_range1 rfl T.range (pa_cons (pv 1) pa_nil)) (fun _ _ _ _ => (pg_name (i := 0) (by decide +kernel : (["_law_r", "_law_many", "_law_names", "_law_script"] : List PySem.Str).Nodup) rfl (Or.inl rfl))) (fun _ _ _ _ => pifs_nil) (fun _ _ _ _ => (pe_ix (ix_seqK (K := K) rfl) (pv 2) (pe_op op_mod (pe_def D_law_mixed (hr.mono (by decide)) rfl (pa_cons (pe_def D_law_cell_at (hr.mono (by decide)) rfl (pa_cons (pv 3) (pa_cons (pe_op op_add pe_int (pv 0)) pa_nil))) (pa_cons (pe_op op_add pe_int (pv 0)) pa_nil))) (pv 1)) (fun _ _ => rfl)))))))))))))), ?_⟩
    walk_at "go"
    refine ⟨a, ns, _, rfl, hS, by omega, fun z => ?_⟩
    walk_at "go"
    refine ⟨z, _, rfl, by omega, by omega, fun y y0 y1 => ?_⟩
    walk_at "go"
    have g0 := Int.emod_nonneg (y / 64) (show (26 : Int) ≠ 0 by decide)
    have g1 := Int.emod_lt_of_pos (y / 64) (show (0 : Int) < 26 by decide)
    refine ixLetter g0 g1 fun c0 hc0 => ?_
    have p0 := Int.emod_nonneg (y / 8) (show 1 + y % 8 ≠ 0 by omega)
    have p1 := Int.emod_lt_of_pos (y / 8) (show 0 < 1 + y % 8 by omega)
    have y8 := Int.emod_lt_of_pos y (show (0 : Int) < 8 by decide)
    have ok0 : PyData.strOk ⟨#[c0]⟩ = true := strOk_of fun c hc => by
      have : c = c0 := by simpa [cod] using hc
      omega
    walk_at "go"
    refine fun N H1 n1 => ?_
    walk_at "go"
    refine for_range (fun i σ H' => ∃ (names : List Str) (o8 o9 o10 : Option V), σ = [some (.ref a), some (.int r), some (.str (Str.ofString "abcdefghijklmnopqrstuvwxyz")), some (.int y), some (.int (1 + y % 8)), some (.int (y / 8 % (1 + y % 8))), some (.str ⟨#[c0]⟩), some (.ref N), o8, o9, o10] ∧ H' N = some (.lst (names.map V.str)) ∧ names.length = i ∧ (∀ z ∈ names, PyData.strOk z = true) ∧ Same H H') ⟨[], none, none, none, rfl, n1.at_, rfl, (fun z h => by cases h), n1.same⟩ ?_ ?_
    · rintro i σ H2 hi ⟨names, o8, o9, o10, rfl, hN, hl, hok, s2⟩
      generalize y / 8 % (1 + y % 8) = pl at *
      generalize hs : 1 + y % 8 = sz at *
      walk_at "go"
      refine ixLetter (Int.emod_nonneg _ (by decide)) (Int.emod_lt_of_pos _ (by decide)) fun c1 hc1 => ?_
      have ok1 : PyData.strOk ⟨#[c1]⟩ = true := strOk_of fun c hc => by
        have : c = c1 := by simpa [cod] using hc
        omega
      have m1 := mul_len1 (c := c0) (n := pl) (by omega) (by omega)
      have m2 := mul_len1 (c := c0) (n := sz - 1 - pl) (by omega) (by omega)
      refine ⟨_, rfl, .inl ⟨rfl, _, SqL.of hN⟩, ?_⟩
      refine ⟨_, rfl, _, rfl, _, _, rfl, rfl, m1.2, ?_⟩
      refine ⟨_, rfl, _, _, rfl, rfl, by rw [sizeLine_eq]; have := m1.1; show _ + 1 ≤ _; omega, ?_⟩
      refine ⟨_, rfl, _, rfl, _, _, rfl, rfl, _, rfl, _, _, rfl, rfl, _, _, rfl, rfl, m2.2, ?_⟩
      have la : ∀ x y : Str, (x ++ y).length = x.length + y.length := fun x y => by rw [← cod_len, cod_app, List.length_append, cod_len, cod_len]
      refine ⟨_, _, rfl, rfl, by rw [la, sizeLine_eq]; have := m1.1; have := m2.1; have : Str.length ⟨#[c1]⟩ = 1 := rfl; omega, ?_⟩
      refine ⟨N, _, _, rfl, rfl, hN, by rw [sizeLine_eq]; simp; omega, ?_⟩
      refine ⟨names ++ [Txt.mul ⟨#[c0]⟩ pl ++ ⟨#[c1]⟩ ++ Txt.mul ⟨#[c0]⟩ (sz - 1 - pl)], _, _, _, rfl, by rw [upd_same]; simp, by simp [hl], fun z hz => ?_, fun c u e => ?_⟩
      · rcases List.mem_append.mp hz with h | h
        · exact hok z h
        · have : z = Txt.mul ⟨#[c0]⟩ pl ++ ⟨#[c1]⟩ ++ Txt.mul ⟨#[c0]⟩ (sz - 1 - pl) := by simpa using h
          rw [this]
          exact strOk_app (strOk_app (strOk_mul ok0 _) ok1) (strOk_mul ok0 _)
      · rw [upd_ne (ne_of_none e n1.none)]
        exact s2 _ _ e
    · rintro σ H2 ⟨names, o8, o9, o10, rfl, hN, hl, hok, s2⟩
      walk_at "go"
      have b0 := Int.emod_nonneg (y / 50000) (show (3 : Int) ≠ 0 by decide)
      have b1 := Int.emod_lt_of_pos (y / 50000) (show (0 : Int) < 3 by decide)
      refine fun D hD => ?_
      refine comp_range (fun i y _ => ∃ z : Str, y = .str z ∧ PyData.strOk z = true) (by rw [sizeLine_eq]; omega) hD (fun _ _ _ _ _ h => h) ?_ ?_
      · rintro i H3 ys NN hi s3 d3 hNN
        walk_at "go"
        refine ⟨a, ns, _, rfl, (s2.trans s3).seq hS, by omega, fun z => ?_⟩
        walk_at "go"
        refine ⟨z, _, rfl, by omega, by omega, fun x x0 x1 => ?_⟩
        walk_at "go"
        have k0 := Int.emod_nonneg x (show 1 + y / 50000 % 3 ≠ 0 by omega)
        have k1 := Int.emod_lt_of_pos x (show 0 < 1 + y / 50000 % 3 by omega)
        have hk : (x % (1 + y / 50000 % 3)).toNat < names.length := by omega
        refine ixL (SqL.of (s3 _ _ hN)) (atI_int (x % (1 + y / 50000 % 3)).toNat (by omega) (v := .str names[(x % (1 + y / 50000 % 3)).toNat]) (by simp [hk])) ?_
        exact hNN _ _ (Same.refl _) ⟨_, rfl, hok _ (List.getElem_mem hk)⟩
      · rintro ys H3 s3 d3 ly hy
        obtain ⟨wings, e, hw⟩ := vals_of (P := fun _ _ => True) V.str (fun _ z => PyData.strOk z = true) ys 0 (fun i y h => hy i y h)
        subst e
        refine q D wings H3 (s2.trans s3) (s2.free hD) d3 (by rw [List.length_map] at ly; omega) fun z hz => ?_
        obtain ⟨i, hi, rfl⟩ := List.mem_iff_getElem.mp hz
        exact hw i _ (List.getElem?_eq_getElem hi)
theorem D_pairs74 (T : Txt mg) (S : Src K mg "_law_pairs" "_law_pairs" s__law_pairs) (D_law_mixed : Def P w K mg base 1 "_law_mixed" ["_law_cell", "_law_k"] sp_mixed) (D_law_cell_at : Def P w K mg base 1 "_law_cell_at" ["_law_script", "_law_k"] (sp_cell K)) : Def P w K mg base 2 "_law_pairs" ["_law_script", "_law_many"] (sp_pairs74 K) := by
  refine S.mk' sc__law_pairs (fun vs H Q E h => ?_) (fun _ _ _ _ _ _ us hl => match us, hl with | [_, _], _ => rfl) (fun f cdv A outer s H vs Q E hr h => ?_)
  · obtain ⟨a, ns, m, rfl, _⟩ := h
    rfl
  · obtain ⟨a, ns, m, rfl, hS, m0, m1, q⟩ := h
    refine ⟨_, (pss_cons (ps_set (i := 2) sc__law_pairs.nd rfl (Or.inl rfl) (pe_lst' pa_nil))
      (pss_cons (ps_for PassesOwn.never rfl (pi_range1 rfl T.range (pa_cons (pv 1) pa_nil)) (pg_name (i := 3) sc__law_pairs.nd rfl (Or.inl rfl))
      (pss_one (ps_for PassesOwn.never rfl (pi_range1 rfl T.range (pa_cons (pv 3) pa_nil)) (pg_name (i := 4) sc__law_pairs.nd rfl (Or.inl rfl))
      (pss_cons (ps_set (i := 5) sc__law_pairs.nd rfl (Or.inl rfl) (pe_op op_add (pe_op op_mulW (pv 3) (pv 3)) (pv 4)))
      (pss_cons (ps_set (i := 6) sc__law_pairs.nd rfl (Or.inl rfl) (pe_def D_law_mixed (hr.mono (by decide)) rfl (pa_cons (pe_def D_law_cell_at (hr.mono (by decide)) rfl (pa_cons (pv 0) (pa_cons (pe_op op_mod (pe_op op_add pe_int (pv 5)) pe_int) pa_nil))) (pa_cons (pe_op op_add pe_int (pv 5)) pa_nil))))
      (pss_one (ps_if (pt_cmpR op_gt (pe_op op_mod (pv 6) pe_int) pe_int (nomark _)) (pss_one (ps_expr (pe_bmK (K := K) rfl PySem.F.plainAttrs_list PySem.F.slot_list_append PySem.F.type_list_append mt_append (pv 2) (pa_cons (pe_ix (ix_seqK (K := K) rfl) (pe_lst' (pa_cons (pe_tup' (pa_cons (pv 3) (pa_cons (pv 4) pa_nil))) (pa_cons (pe_tup' (pa_cons (pv 4) (pa_cons (pv 3) pa_nil))) pa_nil))) (pe_op op_sub (pe_op op_mod (pv 6) pe_int) pe_int) (fun _ _ => rfl)) pa_nil)))) pss_nil)))))))
      (pss_one (ps_ret (pv 2))))), ?_⟩
    walk_at "go"
    refine fun l H1 n1 => ?_
    walk_at "go"
    refine for_range (fun i σ H' => ∃ (as : List Addr) (ps : List (Int × Int)) (o3 o4 o5 o6 : Option V), σ = [some (.ref a), some (.int m), some (.ref l), o3, o4, o5, o6] ∧ H' l = some (.lst (as.map V.ref)) ∧ Prs H' as ps ∧ (∀ c ∈ as, c ≠ l) ∧ ps.length ≤ 10 * i ∧ (∀ p ∈ ps, (0 ≤ p.1 ∧ p.1 < m) ∧ 0 ≤ p.2 ∧ p.2 < m) ∧ Same H H') ⟨[], [], none, none, none, none, rfl, n1.at_, Prs.nil, (fun c h => by cases h), (by simp), (fun c h => by cases h), n1.same⟩ ?_ ?_
    · rintro i σ H2 hi ⟨as, ps, o3, o4, o5, o6, rfl, hl, hp, hne, lp, pr, s2⟩
      refine ⟨_, rfl, _, rfl, by omega, by omega, ?_⟩
      refine for_range (fun k σ H' => ∃ (as : List Addr) (ps : List (Int × Int)) (o4 o5 o6 : Option V), σ = [some (.ref a), some (.int m), some (.ref l), some (.int (0 + (i : Int))), o4, o5, o6] ∧ H' l = some (.lst (as.map V.ref)) ∧ Prs H' as ps ∧ (∀ c ∈ as, c ≠ l) ∧ ps.length ≤ 10 * i + k ∧ (∀ p ∈ ps, (0 ≤ p.1 ∧ p.1 < m) ∧ 0 ≤ p.2 ∧ p.2 < m) ∧ Same H H') ⟨as, ps, _, _, _, rfl, hl, hp, hne, by omega, pr, s2⟩ ?_ ?_
      · rintro k σ H3 hk ⟨as0, ps0, o4, o5, o6, rfl, hl, hp, hne, lp, pr, s3⟩
        have hk2 : k < i := by omega
        have b1 := mul_bd (a := 0 + (i : Int)) (b := 0 + (i : Int)) (A := 10) (B := 10) (by omega) (by omega) (by omega) (by omega)
        have b2 : 0 ≤ (0 + (i : Int)) * (0 + (i : Int)) := Int.mul_nonneg (by omega) (by omega)
        walk_at "go"
        refine ⟨a, ns, _, rfl, s3.seq hS, Int.emod_nonneg _ (by decide), fun z => ?_⟩
        walk_at "go"
        refine ⟨z, _, rfl, by omega, by omega, fun y y0 y1 => ?_⟩
        walk_at "go"
        refine ite2 (fun e => ?_) (fun e => ?_)
        · have e3 : y % 3 = 1 ∨ y % 3 = 2 := by
            have := of_decide_eq_true e
            have := Int.emod_lt_of_pos y (show (0 : Int) < 3 by decide)
            omega
          refine ⟨_, rfl, .inl ⟨rfl, _, SqL.of hl⟩, ?_⟩
          refine ⟨_, rfl, _, rfl, len_small (by simp), fun t1 H4 n4 => ?_⟩
          refine ⟨_, rfl, _, rfl, len_small (by simp), fun t2 H5 n5 => ?_⟩
          refine ⟨len_small (by simp), fun t3 H6 n6 => ?_⟩
          walk_at "go"
          have S6 : Same H3 H6 := (n4.same.trans n5.same).trans n6.same
          have hl6 := S6 _ _ hl
          have ht1 : H6 t1 = some (.tup [.int (0 + (i : Int)), .int (0 + (k : Int))]) := n6.same _ _ (n5.same _ _ n4.at_)
          have ht2 : H6 t2 = some (.tup [.int (0 + (k : Int)), .int (0 + (i : Int))]) := n6.same _ _ n5.at_
          have d1 : t1 ≠ l := (ne_of_none hl n4.none).symm
          have d2 : t2 ≠ l := (ne_of_none (n4.same _ _ hl) n5.none).symm
          have fin : ∀ (t : Addr) (p : Int × Int), H6 t = some (.tup [.int p.1, .int p.2]) → t ≠ l → ((0 ≤ p.1 ∧ p.1 < m) ∧ 0 ≤ p.2 ∧ p.2 < m) →
              upd H6 l (.lst (as0.map V.ref ++ [.ref t])) l = some (.lst ((as0 ++ [t]).map V.ref)) ∧ Prs (upd H6 l (.lst (as0.map V.ref ++ [.ref t]))) (as0 ++ [t]) (ps0 ++ [p]) ∧ (∀ c ∈ as0 ++ [t], c ≠ l) ∧ (ps0 ++ [p]).length ≤ 10 * i + (k + 1) ∧
                (∀ q ∈ ps0 ++ [p], (0 ≤ q.1 ∧ q.1 < m) ∧ 0 ≤ q.2 ∧ q.2 < m) ∧ Same H (upd H6 l (.lst (as0.map V.ref ++ [.ref t]))) := fun t p ht dt hb => by
            refine ⟨by rw [upd_same]; simp, ?_, fun c hc => ?_, by simp; omega, fun q hq => ?_, fun c o e => ?_⟩
            · refine Prs.snoc ((hp.same S6).keep fun c hc o e => ?_) ?_
              · rw [upd_ne (hne c hc)]
                exact e
              · rw [upd_ne dt]
                exact ht
            · rcases List.mem_append.mp hc with h | h
              · exact hne c h
              · have : c = t := by simpa using h
                rw [this]
                exact dt
            · rcases List.mem_append.mp hq with h | h
              · exact pr q h
              · have : q = p := by simpa using h
                rw [this]
                exact hb
            · rw [upd_ne (ne_of_none e n1.none)]
              exact S6 _ _ (s3 _ _ e)
          have las : as0.length ≤ 110 := by rw [hp.1]; omega
          rcases e3 with e3 | e3
          · refine ixL (SqL.of n6.at_) (atI_int 0 (by omega) rfl) ?_
            refine ⟨l, _, _, rfl, rfl, hl6, by rw [sizeLine_eq]; simp; omega, ?_⟩
            obtain ⟨f1, f2, f3, f4, f5, f6⟩ := fin t1 (0 + (i : Int), 0 + (k : Int)) ht1 d1 ⟨⟨by omega, by omega⟩, by omega, by omega⟩
            exact ⟨as0 ++ [t1], _, _, _, _, rfl, f1, f2, f3, f4, f5, f6⟩
          · refine ixL (SqL.of n6.at_) (atI_int 1 (by omega) rfl) ?_
            refine ⟨l, _, _, rfl, rfl, hl6, by rw [sizeLine_eq]; simp; omega, ?_⟩
            obtain ⟨f1, f2, f3, f4, f5, f6⟩ := fin t2 (0 + (k : Int), 0 + (i : Int)) ht2 d2 ⟨⟨by omega, by omega⟩, by omega, by omega⟩
            exact ⟨as0 ++ [t2], _, _, _, _, rfl, f1, f2, f3, f4, f5, f6⟩
        · exact ⟨as0, ps0, _, _, _, rfl, hl, hp, hne, by omega, pr, s3⟩
      · rintro σ H3 ⟨as, ps, o4, o5, o6, rfl, hl, hp, hne, lp, pr, s3⟩
        exact ⟨as, ps, _, _, _, _, rfl, hl, hp, hne, by omega, pr, s3⟩
    · rintro σ H2 ⟨as, ps, o3, o4, o5, o6, rfl, hl, hp, hne, lp, pr, s2⟩
      walk_at "go"
      exact q l as ps H2 s2 n1.none hl hp (by omega) pr
theorem D_law (T : Txt mg) (S : Src K mg "law" "law" s_law) (D_law_mixed : Def P w K mg base 1 "_law_mixed" ["_law_cell", "_law_k"] sp_mixed) (D_law_cell_at : Def P w K mg base 1 "_law_cell_at" ["_law_script", "_law_k"] (sp_cell K)) (D_law_way : Def P w K mg base 2 "_law_way" ["_law_script", "_law_rooms", "_law_many"] (sp_way74 K)) (D_law_wings : Def P w K mg base 2 "_law_wings" ["_law_script", "_law_rooms"] (sp_wings74 K)) (D_law_pairs : Def P w K mg base 2 "_law_pairs" ["_law_script", "_law_many"] (sp_pairs74 K)) (Dnear_count : Def P w K mg base 2 "near_count" ["way", "wings", "pairs"] sp_near) (D_law_near : Def P w K mg base 1 "_law_near" ["_law_way_here", "_law_wings_here", "_law_pairs_here"] sp_near) (D_law_whole : Def P w K mg base 1 "_law_whole" ["_law_found"] sp_whole) : Def P w K mg base 5 "law" ["_law_script"] (sp_law K) := by
  refine S.mk' sc_law (fun vs H Q E h => ?_) (fun _ _ _ _ _ _ us hl => match us, hl with | [_], _ => rfl) (fun f cdv A outer s H vs Q E hr h => ?_)
  · obtain ⟨a, ns, rfl, _⟩ := h
    rfl
  · obtain ⟨a, ns, rfl, hS, hlen, q⟩ := h
    refine ⟨_, (pss_cons (ps_set (i := 1) sc_law.nd rfl (Or.inl rfl) (pe_op op_add pe_int (pe_op op_mod (pe_def D_law_mixed (hr.mono (by decide)) rfl (pa_cons (pe_def D_law_cell_at (hr.mono (by decide)) rfl (pa_cons (pv 0) (pa_cons pe_int pa_nil))) (pa_cons pe_int pa_nil))) pe_int)))
      (pss_cons (ps_set (i := 2) sc_law.nd rfl (Or.inl rfl) (pe_callB (call_min2 rfl) (by rfl) T.min boot_min' (pa_cons (pe_op op_mulW pe_int (pv 1)) (pa_cons (pe_op op_add pe_int (pe_op op_mod (pe_def D_law_mixed (hr.mono (by decide)) rfl (pa_cons (pe_def D_law_cell_at (hr.mono (by decide)) rfl (pa_cons (pv 0) (pa_cons pe_int pa_nil))) (pa_cons pe_int pa_nil))) pe_int)) pa_nil))))
      (pss_cons (ps_set (i := 3) sc_law.nd rfl (Or.inl rfl) (pe_def D_law_way (hr.mono (by decide)) rfl (pa_cons (pv 0) (pa_cons (pv 1) (pa_cons (pv 2) pa_nil)))))
      (pss_cons (ps_set (i := 4) sc_law.nd rfl (Or.inl rfl) (pe_def D_law_wings (hr.mono (by decide)) rfl (pa_cons (pv 0) (pa_cons (pv 1) pa_nil))))
      (pss_cons (ps_set (i := 5) sc_law.nd rfl (Or.inl rfl) (pe_def D_law_pairs (hr.mono (by decide)) rfl (pa_cons (pv 0) (pa_cons (pv 2) pa_nil))))
      (pss_cons (ps_set (i := 6) sc_law.nd rfl (Or.inl rfl) (pe_lst' (pa_cons (pe_callTy (call_list_ofK (K := K) rfl) (by rfl) T.list boot_list' (pa_cons (pv 3) pa_nil)) (pa_cons (pe_callTy (call_list_ofK (K := K) rfl) (by rfl) T.list boot_list' (pa_cons (pv 4) pa_nil)) (pa_cons (pe_callTy (call_list_ofK (K := K) rfl) (by rfl) T.list boot_list' (pa_cons (pv 5) pa_nil)) pa_nil)))))
      (pss_cons (ps_set (i := 7) sc_law.nd rfl (Or.inl rfl) (pe_def Dnear_count (hr.mono (by decide)) rfl (pa_cons (pe_ix (ix_seqK (K := K) rfl) (pv 6) pe_int (fun _ _ => rfl)) (pa_cons (pe_ix (ix_seqK (K := K) rfl) (pv 6) pe_int (fun _ _ => rfl)) (pa_cons (pe_ix (ix_seqK (K := K) rfl) (pv 6) pe_int (fun _ _ => rfl)) pa_nil)))))
      (pss_cons (ps_if (PW.pt (pw_or (pt_cmpR (op_neDK (K := K) rfl hr.units) (pv 6) (pe_lst' (pa_cons (pv 3) (pa_cons (pv 4) (pa_cons (pv 5) pa_nil)))) (nomark _)) (pw_or (pt_not (pt_val (pe_def D_law_whole (hr.mono (by decide)) rfl (pa_cons (pv 7) pa_nil)))) (pw_or1 (pt_cmpR op_ne (pv 7) (pe_def D_law_near (hr.mono (by decide)) rfl (pa_cons (pv 3) (pa_cons (pv 4) (pa_cons (pv 5) pa_nil)))) (nomark _)))))) (pss_one (ps_ret pe_bl)) pss_nil)
      (pss_cons (ps_setC (i := 8) sc_law.nd rfl (Or.inl rfl) ["_law_pair"] [none] rfl rfl rfl (pi_revK (K := K) rfl rfl T.reversed (pv 5)) (fun _ _ _ _ => (pg_name (i := 0) (by decide +kernel : (["_law_pair"] : List PySem.Str).Nodup) rfl (Or.inl rfl))) (fun _ _ _ _ => pifs_nil) (fun _ _ _ _ => (pe_tup' (pa_cons (pe_ix (ix_seqK (K := K) rfl) (pv 0) pe_int (fun _ _ => rfl)) (pa_cons (pe_ix (ix_seqK (K := K) rfl) (pv 0) pe_int (fun _ _ => rfl)) pa_nil)))))
      (pss_one (ps_ret (pe_cmpR op_eq (pe_def Dnear_count (hr.mono (by decide)) rfl (pa_cons (pv 3) (pa_cons (pv 4) (pa_cons (pv 8) pa_nil)))) (pv 7) (nomark _))))))))))))), ?_⟩
    walk_at "go"
    refine ⟨a, ns, _, rfl, hS, by omega, fun z1 => ?_⟩
    walk_at "go"
    refine ⟨z1, _, rfl, by omega, by omega, fun y1 y10 y11 => ?_⟩
    walk_at "go"
    refine ⟨a, ns, _, rfl, hS, by omega, fun z2 => ?_⟩
    walk_at "go"
    refine ⟨z2, _, rfl, by omega, by omega, fun y2 y20 y21 => ?_⟩
    walk_at "go"
    refine ⟨_, _, rfl, ?_⟩
    have h1 := Int.emod_nonneg y1 (show (10 : Int) ≠ 0 by decide)
    have h2 := Int.emod_lt_of_pos y1 (show (0 : Int) < 10 by decide)
    have h3 := Int.emod_nonneg y2 (show (10 : Int) ≠ 0 by decide)
    have h4 := Int.emod_lt_of_pos y2 (show (0 : Int) < 10 by decide)
    dsimp only
    generalize hr : 1 + y1 % 10 = r at *
    generalize hm : (if 1 + y2 % 10 < 4 * r then 1 + y2 % 10 else 4 * r) = m at *
    have hm1 : 0 ≤ m ∧ m ≤ 4 * r ∧ m ≤ 10 := by rw [← hm]; split <;> omega
    walk_at "go"
    refine ⟨a, ns, r, m, rfl, hS, by omega, by omega, by omega, by omega, by omega, fun W way H1 s1 fW hW lw wr => ?_⟩
    walk_at "go"
    refine ⟨a, ns, r, rfl, s1.seq hS, by omega, by omega, fun Z wings H2 s2 fZ hZ lz okz => ?_⟩
    walk_at "go"
    refine ⟨a, ns, m, rfl, (s1.trans s2).seq hS, by omega, by omega, fun l as ps H3 s3 fl hl hp lp pr => ?_⟩
    have hW3 := s3 _ _ (s2 _ _ hW)
    have hZ3 := s3 _ _ hZ
    walk_at "go"
    refine ⟨W, _, rfl, .inl (SqL.of hW3), fun A1 H4 n4 => ?_⟩
    walk_at "go"
    refine ⟨Z, _, rfl, .inl (SqL.of (n4.same _ _ hZ3)), fun A2 H5 n5 => ?_⟩
    walk_at "go"
    refine ⟨l, _, rfl, .inl (SqL.of (n5.same _ _ (n4.same _ _ hl))), fun A3 H6 n6 => ?_⟩
    walk_at "go"
    refine fun hd H7 n7 => ?_
    have S7 : Same H3 H7 := ((n4.same.trans n5.same).trans n6.same).trans n7.same
    have hA1 := n7.same _ _ (n6.same _ _ (n5.same _ _ n4.at_))
    have hA2 := n7.same _ _ (n6.same _ _ n5.at_)
    have hA3 := n7.same _ _ n6.at_
    have nok : NearOk way wings ps := ⟨by omega, by omega, by omega, fun x hx => by have := wr x hx; omega, fun p hp => by have := pr p hp; omega⟩
    walk_at "go"
    refine ixL (SqL.of n7.at_) rfl ?_
    walk_at "go"
    refine ixL (SqL.of n7.at_) rfl ?_
    walk_at "go"
    refine ixL (SqL.of n7.at_) rfl ?_
    refine ⟨A1, A2, A3, way, wings, as, ps, rfl, hA1, hA2, hA3, hp.same S7, nok, fun H8 s8 => ?_⟩
    have S8 : Same H3 H8 := S7.trans s8
    walk_at "go"
    refine fun l2 H9 n9 => ?_
    have S9 : Same H3 H9 := S8.trans n9.same
    have k9 : ∀ c o, H7 c = some o → H9 c = some o := fun c o e => n9.same _ _ (s8 _ _ e)
    refine ⟨handD way wings ps, handD way wings ps, rv_hand (k9 _ _ n7.at_) (k9 _ _ hA1) (k9 _ _ hA2) (k9 _ _ hA3) (hp.same S9), rv_hand n9.at_ (S9 _ _ hW3) (S9 _ _ hZ3) (S9 _ _ hl) (hp.same S9), hand_shaped _ _ _ okz, hand_shaped _ _ _ okz, ?_⟩
    refine ⟨_, rfl, iteE (by rw [hand_eqv]; rfl) ?_⟩
    refine ⟨_, rfl, _, rfl, _, rfl, iteF ?_⟩
    walk_at "go"
    refine ⟨W, Z, l, way, wings, as, ps, rfl, S9 _ _ hW3, S9 _ _ hZ3, S9 _ _ hl, hp.same S9, nok, fun H10 s10 => ?_⟩
    have S10 : Same H3 H10 := S9.trans s10
    refine ⟨rfl, _, rfl, iteE (by simp) ?_⟩
    refine ⟨_, rfl, l, _, rfl, SqL.of (S10 _ _ hl), fun D hD => ?_⟩
    have hpl : (as.map V.ref).length = ps.length := by rw [List.length_map, hp.1]
    refine comp_rev (fun i y H => ∃ t, y = .ref t ∧ t ≠ D ∧ H t = some (.tup [.int (ps.reverse.getD i (0, 0)).2, .int (ps.reverse.getD i (0, 0)).1])) (SqL.of (S10 _ _ hl)) (by rw [hpl, sizeLine_eq]; omega) hD ?_ ?_ ?_
    · rintro i y H H' k ⟨t, e, ne, ht⟩
      exact ⟨t, e, ne, k _ _ ne ht⟩
    · rintro i x H11 ys NN hx s11 d11 hNN
      rw [← List.map_reverse] at hx
      obtain ⟨t, rfl, _, _, _, ht⟩ := ((hp.same (S10.trans s11)).rev).get hx
      walk_at "go"
      refine ixT (SqT.of ht) rfl ?_
      walk_at "go"
      refine ixT (SqT.of ht) rfl ?_
      exact ⟨len_small (by simp), fun t2 H12 n12 => hNN _ _ n12.same ⟨t2, rfl, (ne_of_none d11 n12.none).symm, n12.at_⟩⟩
    · rintro ys H11 s11 d11 ly hy
      obtain ⟨as', e, hz⟩ := vals_of (P := fun _ _ => True) V.ref (fun i t => H11 t = some (.tup [.int (ps.reverse.getD i (0, 0)).2, .int (ps.reverse.getD i (0, 0)).1])) ys 0 (fun i y h => by
        obtain ⟨t, e, _, ht⟩ := hy i y h
        exact ⟨t, e, by rw [Nat.zero_add]; exact ht⟩)
      subst e
      have S11 : Same H3 H11 := S10.trans s11
      walk_at "go"
      refine ⟨W, Z, D, way, wings, as', _, rfl, S11 _ _ hW3, S11 _ _ hZ3, d11, Prs.turned (ps := ps) (by rw [List.length_map, hpl] at ly; exact ly) (fun i t h => by have := hz i t h; rwa [Nat.zero_add] at this), nok.turned, fun H12 s12 => ?_⟩
      rw [near_turn]
      walk_at "go"
      rw [show decide (V.int ((nearN way wings ps : Nat) : Int) = V.int ((nearN way wings ps : Nat) : Int)) = true by simp]
      exact q _
end
theorem walk {l : PySem.W.OpenLaw} {q : Program} {loose : List Str} {XP : (Str → Option Value) → Heap → Prop} {YP : World → Heap → Prop} {d : DefRec} {K : Params → PySem.W.Frag} (hn : l.most = some 63) (hdf : d.params.defaults = [])
    (hY : ∀ (w : World) (h : Heap), YP w h → (K w.params).In h)
    (F : ∀ (w : World) (mg : Str → Option Value) (fa : Addr) (h : Heap), (K w.params).In h → h.Ns mainGlobals mg → mg d.name = some (.ref fa) →
      ∃ fd : FuncData, (∀ (s : Shared) (u : Value), BindsTo s fd ⟨[u], []⟩ [("_law_script", u)]) ∧ ∀ base : Heap, (K w.params).In base → base.Ns mainGlobals mg → FnOk l.prog w (K w.params) mg base CX0 5 fa fd ["_law_script"] (sp_law (K w.params))) :
    PySem.W.WalkO q loose XP YP l.row.toRowW d [] (fun f vs => PySem.call f vs) :=
  L2.walk_of (n := 63) (k := 5) (x := "_law_script") (CX := fun _ => CX0) (sp := fun w => sp_law (K w.params)) hn (by decide) hdf ⟨rfl, by decide, by decide⟩ hY F (fun _ _ a ns hl _ hS => ⟨a, ns, rfl, hS, hl, fun _ => rfl⟩) fun _ _ _ _ _ z => z
end My
open PySem PySem.W PyProof.Rows
set_option maxRecDepth 100000 in
set_option maxHeartbeats 0 in
theorem PySem.Challenge.cw_rentshare_k74_pairs_counted_holds : PySem.Challenge.rw_rentshare_k74_pairs_counted.Holds := by
  w_on; o_law; k_head; (case hw => w_witness2)
  k_fill
  refine My.walk (l := PySem.Challenge.rw_rentshare_k74_pairs_counted) rfl rfl (fun w h Y => PySem.W.kIn_of Y) ?F
  case F =>
    intro w mg fa h KX G hmg
    have S_lie_near : L2.Src (L2.KOf KX) mg "lie_near" "lie_near" My.s_lie_near := by
      dsimp only [L2.KOf]
      refine' L2.src_mk KX G ?a ?l ?c ?k
      (case a => k_is); (case l => k_is); (case c => k_is); (case k => k_is)
    have S_near_count : L2.Src (L2.KOf KX) mg "near_count" "near_count" My.s_near_count := by
      dsimp only [L2.KOf]
      refine' L2.src_mk KX G ?a ?l ?c ?k
      (case a => k_is); (case l => k_is); (case c => k_is); (case k => k_is)
    have S__law_cell_at : L2.Src (L2.KOf KX) mg "_law_cell_at" "_law_cell_at" My.s__law_cell_at := by
      dsimp only [L2.KOf]
      refine' L2.src_mk KX G ?a ?l ?c ?k
      (case a => k_is); (case l => k_is); (case c => k_is); (case k => k_is)
    have S__law_mixed : L2.Src (L2.KOf KX) mg "_law_mixed" "_law_mixed" My.s__law_mixed := by
      dsimp only [L2.KOf]
      refine' L2.src_mk KX G ?a ?l ?c ?k
      (case a => k_is); (case l => k_is); (case c => k_is); (case k => k_is)
    have S__law_whole : L2.Src (L2.KOf KX) mg "_law_whole" "_law_whole" My.s__law_whole := by
      dsimp only [L2.KOf]
      refine' L2.src_mk KX G ?a ?l ?c ?k
      (case a => k_is); (case l => k_is); (case c => k_is); (case k => k_is)
    have S__law_wings : L2.Src (L2.KOf KX) mg "_law_wings" "_law_wings" My.s__law_wings := by
      dsimp only [L2.KOf]
      refine' L2.src_mk KX G ?a ?l ?c ?k
      (case a => k_is); (case l => k_is); (case c => k_is); (case k => k_is)
    have S__law_pairs : L2.Src (L2.KOf KX) mg "_law_pairs" "_law_pairs" My.s__law_pairs := by
      dsimp only [L2.KOf]
      refine' L2.src_mk KX G ?a ?l ?c ?k
      (case a => k_is); (case l => k_is); (case c => k_is); (case k => k_is)
    have S__law_near : L2.Src (L2.KOf KX) mg "_law_near" "_law_near" My.s__law_near := by
      dsimp only [L2.KOf]
      refine' L2.src_mk KX G ?a ?l ?c ?k
      (case a => k_is); (case l => k_is); (case c => k_is); (case k => k_is)
    have S__law_way : L2.Src (L2.KOf KX) mg "_law_way" "_law_way" My.s__law_way := by
      dsimp only [L2.KOf]
      refine' L2.src_mk KX G ?a ?l ?c ?k
      (case a => k_is); (case l => k_is); (case c => k_is); (case k => k_is)
    have S_law : L2.Src (L2.KOf KX) mg "law" "law" My.s_law := by
      dsimp only [L2.KOf]
      refine' L2.src_mk KX G ?a ?l ?c ?k
      (case a => k_is); (case l => k_is); (case c => k_is); (case k => k_is)
    have T : My.Txt mg := by
      refine' ⟨PySem.W.mg_none_of KX G ?z0, PySem.W.mg_none_of KX G ?z1, PySem.W.mg_none_of KX G ?z2, PySem.W.mg_none_of KX G ?z3, PySem.W.mg_none_of KX G ?z4, PySem.W.mg_none_of KX G ?z5, PySem.W.mg_none_of KX G ?z6, PySem.W.mg_none_of KX G ?z7⟩
      (case z0 => k_is); (case z1 => k_is); (case z2 => k_is); (case z3 => k_is); (case z4 => k_is); (case z5 => k_is); (case z6 => k_is); (case z7 => k_is)
    exact L2.law_fd S_law (fun _ _ _ _ _ _ _ => rfl) (fun base => by
      have Dm := My.D_mixed (P := PySem.Challenge.rw_rentshare_k74_pairs_counted.prog) (w := w) (base := base) S__law_mixed
      have Dc := My.D_cell (P := PySem.Challenge.rw_rentshare_k74_pairs_counted.prog) (w := w) (base := base) T S__law_cell_at
      exact My.D_law T S_law Dm Dc (My.D_way74 T S__law_way Dm Dc) (My.D_wings74 T S__law_wings Dm Dc) (My.D_pairs74 T S__law_pairs Dm Dc) (My.D_near T S_near_count (My.D_lie T S_lie_near)) (My.D_lnear T S__law_near) (My.D_whole T S__law_whole)) hmg
#print axioms PySem.Challenge.cw_rentshare_k74_pairs_counted_holds
