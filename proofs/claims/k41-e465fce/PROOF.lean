import PyProof.Rows.All
import Wide.All
import OpenK.AllK
import Wide.FinOn
import Lean
import PyProof.EqAt
import PyProof.EqKinds
import PyProof.TupleCall
import PySem.Challenge.RW_rentshare_k41_aims
set_option Elab.async false
set_option linter.all false
set_option maxRecDepth 100000
namespace L2
open PySem PySem.Spec PyProof.Rows

/-- a key: an int or a str -/
abbrev Key := Sum Int Str
def keyIs : Key → Value → Bool
  | .inl k, v => Value.isInt k v
  | .inr x, v => Value.isStrOf x v
def keyH (w : World) : Key → Int
  | .inl k => hashInt k
  | .inr x => hashStr w x
theorem keyIs_shape : ∀ {k : Key} {v : Value}, keyIs k v = true → (∃ i t, k = Sum.inl i ∧ v = Value.int i t) ∨ (∃ x t, k = Sum.inr x ∧ v = Value.str x t)
  | .inl i, v, h => by
    obtain ⟨t, e⟩ := Value.isInt_shape (k := i) (v := v) h
    exact .inl ⟨i, t, rfl, e⟩
  | .inr x, v, h => by
    obtain ⟨t, e⟩ := Value.isStrOf_shape (x := x) (v := v) h
    exact .inr ⟨x, t, rfl, e⟩
theorem key_ll (a b : Int) : decide ((Sum.inl a : Key) = Sum.inl b) = (a == b) := by
  by_cases e : a = b
  · subst e; simp
  · have h : ¬ (Sum.inl a : Key) = Sum.inl b := fun q => e (Sum.inl.inj q)
    rw [decide_eq_false h]
    exact (beq_eq_false_iff_ne.mpr e).symm
theorem key_rr (a b : Str) : decide ((Sum.inr a : Key) = Sum.inr b) = decide (a = b) := by
  by_cases e : a = b
  · subst e; simp
  · have h : ¬ (Sum.inr a : Key) = Sum.inr b := fun q => e (Sum.inr.inj q)
    rw [decide_eq_false h, decide_eq_false e]
theorem key_lr (a : Int) (b : Str) : decide ((Sum.inl a : Key) = Sum.inr b) = false := decide_eq_false (fun q => nomatch q)
theorem key_rl (a : Str) (b : Int) : decide ((Sum.inr a : Key) = Sum.inl b) = false := decide_eq_false (fun q => nomatch q)

def mixKind (prog : Program) (w : World) : PySem.KeyKind prog w Key where
  is := keyIs
  hash := keyH w
  inj := fun v a b ha hb => by
    rcases keyIs_shape ha with ⟨i, t, rfl, rfl⟩ | ⟨x, t, rfl, rfl⟩
    · rcases keyIs_shape hb with ⟨j, u, rfl, e⟩ | ⟨y, u, rfl, e⟩
      · injection e with e1 _; rw [e1]
      · exact nomatch e
    · rcases keyIs_shape hb with ⟨j, u, rfl, e⟩ | ⟨y, u, rfl, e⟩
      · exact nomatch e
      · injection e with e1 _; rw [e1]
  byValue := fun k v h => by
    rcases keyIs_shape h with ⟨i, t, rfl, rfl⟩ | ⟨x, t, rfl, rfl⟩ <;> rfl
  pyHash := fun hv h => by
    rcases keyIs_shape hv with ⟨i, t, rfl, rfl⟩ | ⟨x, t, rfl, rfl⟩
    · exact wpAny_pyHash_int h
    · exact wpAny_pyHash_str h
  eqBool := fun hu hv h => by
    rcases keyIs_shape hu with ⟨i, t, rfl, rfl⟩ | ⟨x, t, rfl, rfl⟩
    · rcases keyIs_shape hv with ⟨j, u, rfl, rfl⟩ | ⟨y, u, rfl, rfl⟩
      · rw [key_ll] at h; exact wpAny_eqBool_int h
      · rw [key_lr] at h; exact SeqAt.EqAt.int_str i t y u _ _ _ _ h
    · rcases keyIs_shape hv with ⟨j, u, rfl, rfl⟩ | ⟨y, u, rfl, rfl⟩
      · rw [key_rl] at h; exact SeqAt.EqAt.str_int x t j u _ _ _ _ h
      · rw [key_rr] at h; exact wpAny_eqBool_str h
  «strs» := fun k x t v h => by
    rcases keyIs_shape h with ⟨i, u, rfl, e⟩ | ⟨y, u, rfl, e⟩
    · exact nomatch e
    · injection e with e1 _
      subst e1
      cases v <;> rfl

end L2

namespace L2
open PySem PySem.Spec PyProof.Rows

/-- a value, without the heap -/
inductive V where
  | non | bl (b : Bool) | int (i : Int) | str (x : Str) | byt (b : Array UInt8) | flt (b : UInt64) | ref (a : Addr) | ty (n : String)
  deriving DecidableEq

def RelV : V → Value → Prop
  | .non, u => u = Value.none
  | .bl b, u => u = Value.bool b
  | .int i, u => ∃ t, u = Value.int i t
  | .str x, u => ∃ t, u = Value.str x t
  | .byt b, u => ∃ t, u = Value.bytes b t
  | .flt b, u => ∃ t, u = Value.float b t
  | .ref a, u => u = Value.ref a
  | .ty n, u => u = Value.type n

abbrev Vals : List V → List Value → Prop := Paired RelV
theorem Vals.length {xs : List V} {us : List Value} (r : Vals xs us) : xs.length = us.length := Paired.length r
theorem Vals.get : ∀ {xs : List V} {us : List Value} {i : Nat} {x : V}, Vals xs us → xs[i]? = some x → ∃ u, us[i]? = some u ∧ RelV x u
  | _, _, _, _, .nil, e => by simp at e
  | _, _, 0, _, .cons r _, e => by simp at e; subst e; exact ⟨_, rfl, r⟩
  | _, _, i + 1, x, .cons _ t, e => by
    obtain ⟨u, h1, h2⟩ := Vals.get (i := i) (x := x) t (by simpa using e)
    exact ⟨u, by simpa using h1, h2⟩
theorem Vals.set {x : V} {u : Value} (r : RelV x u) : ∀ {xs : List V} {us : List Value} (i : Nat), Vals xs us → Vals (xs.set i x) (us.set i u)
  | _, _, _, .nil => .nil
  | _, _, 0, .cons _ t => .cons r t
  | _, _, i + 1, .cons q t => .cons q (Vals.set r i t)
theorem Vals.append : ∀ {xs ys : List V} {us ws : List Value}, Vals xs us → Vals ys ws → Vals (xs ++ ys) (us ++ ws)
  | _, _, _, _, .nil, s => s
  | _, _, _, _, .cons r t, s => .cons r (Vals.append t s)
theorem Vals.take : ∀ {xs : List V} {us : List Value} (n : Nat), Vals xs us → Vals (xs.take n) (us.take n)
  | _, _, 0, _ => .nil
  | _, _, _ + 1, .nil => .nil
  | _, _, n + 1, .cons r t => .cons r (Vals.take n t)
theorem Vals.drop : ∀ {xs : List V} {us : List Value} (n : Nat), Vals xs us → Vals (xs.drop n) (us.drop n)
  | _, _, 0, r => r
  | _, _, _ + 1, .nil => .nil
  | _, _, n + 1, .cons _ t => Vals.drop n t
def RelO : Option V → Option Value → Prop
  | some v, some u => RelV v u
  | none, none => True
  | _, _ => False
def KV {κ : Type} : List (κ × V) → List (κ × Value) → Prop := Paired fun (p : κ × V) (q : κ × Value) => p.1 = q.1 ∧ RelV p.2 q.2

/-- a key of a dict (00_mix): an int or a text -/
def kV : Key → V
  | .inl i => .int i
  | .inr x => .str x

/-- what stands at a tracked address -/
inductive HO where
  /-- a list -/
  | lst (xs : List V)
  /-- a tuple (never changes) -/
  | tup (xs : List V)
  /-- a dict whose keys are ints and texts; one whose keys are tuples of ints and texts (the empty one is both) -/
  | dK (kvs : List (Key × V)) | dT (kvs : List (List Key × V))
  /-- a set of ints: its members, its size -/
  | set (S : Int → Bool) (n : Nat)
  /-- an instance of the class at C, its dict at dx, its attributes -/
  | ins (C dx : Addr) (fs : List (Str × V))
  /-- the dict of the instance at x -/
  | own (x : Addr)
  /-- the dict of an exception -/
  | xd (fs : List (Str × V))
  /-- a bound method, f of x -/
  | met (f x : Addr)
  /-- a range object lo, lo + 1, .. below hi -/
  | rng (lo hi : Int)
  /-- a thing that is known to the object (the script; a dict while a loop walks it): read, never written while it is so -/
  | frz (o : Obj) (u : HO)
  /-- a code object's table -/
  | tbl (ps : Array Value)
  /-- any other thing, by what is true of its one object (a def of one's own: SetO a S n := HO.ext fun h => ..) -/
  | ext (φ : Heap → Prop)

abbrev Hp := Addr → Option HO
def upd (H : Hp) (a : Addr) (o : HO) : Hp := fun b => if b = a then some o else H b
theorem upd_same {H : Hp} {a : Addr} {o : HO} : upd H a o a = some o := by unfold upd; rw [if_pos rfl]
theorem upd_ne {H : Hp} {a b : Addr} {o : HO} (h : b ≠ a) : upd H a o b = H b := by unfold upd; rw [if_neg h]
/-- two objects of different content stand apart -/
theorem ne_of {H : Hp} {a b : Addr} {o u : HO} (h : H a = some o) (h' : H b = some u) (d : o ≠ u) : a ≠ b := by
  intro e; subst e; rw [h] at h'; exact d (Option.some.inj h')
theorem ne_of_none {H : Hp} {a b : Addr} {o : HO} (h : H a = some o) (h' : H b = none) : a ≠ b := by
  intro e; subst e; rw [h] at h'; cases h'

section
variable (P : Program) (w : World)
def ObjOk (H : Hp) (h : Heap) (a : Addr) : HO → Prop
  | .lst xs => xs.length ≤ sizeLine ∧ ∃ (its : List Value) (n : Nat), Vals xs its ∧ h.get? a = some { cls := .type "list", data := .seq its.toArray n }
  | .tup xs => xs.length ≤ sizeLine ∧ ∃ its : List Value, Vals xs its ∧ IsTup h a its.toArray
  | .dK kvs => kvs.length ≤ sizeLine ∧ (a == sysModules) = false ∧ ∃ vs, KV kvs vs ∧ h.DictOf (mixKind P w) a vs
  | .dT kvs => kvs.length ≤ sizeLine ∧ (a == sysModules) = false ∧ ∃ xs : List (List Key × Addr × Value),
      Paired (fun (p : List Key × V) (q : List Key × Addr × Value) => p.1 = q.1 ∧ H q.2.1 = some (.tup (p.1.map kV)) ∧ RelV p.2 q.2.2) kvs xs ∧
      ∃ o es ep, h.get? a = some o ∧ o.ExactDict ∧ o.data = .dict es ep ∧ es.toList = xs.map (entryOfKey (tupleKind (mixKind P w))) ∧ (xs.map (·.1)).Nodup
  | .set S n => h.SetOf (intKind P w) a S n
  | .ins C dx fs => H dx = some (.own a) ∧ fs.length ≤ 1000 ∧ dx ≠ a ∧ h.get? a = some (PySem.W.instObj C dx) ∧
      ∃ mA, h.Ns1 dx mA ∧ (∀ f, RelO (fs.lookup f) (mA f)) ∧ PySem.Within mA (fs.map (·.1))
  | .own _ => ∃ o, h.get? a = some o
  | .xd fs => ∃ mA, h.Ns1 a mA ∧ ∀ f, RelO (fs.lookup f) (mA f)
  | .rng lo hi => ∃ t u v, h.get? a = some { cls := .type "range", data := .fields #[.int lo t, .int hi u, .int 1 v] }
  | .frz o u => h.get? a = some o ∧ ObjOk H h a u
  | .tbl ps => h.get? a = some { cls := .none, data := .fields ps }
  | .met f x => h.get? a = some (PySem.W.methodObj (.ref f) (.ref x))
  | .ext φ => φ h ∧ (∃ o, h.get? a = some o) ∧ ∀ h1 h2 : Heap, φ h1 → (∀ o, h1.get? a = some o → h2.get? a = some o) → φ h2
/-- the abstract heap is held -/
def HOk (H : Hp) (h : Heap) : Prop := ∀ a o, H a = some o → ObjOk P w H h a o
end

section
variable {P : Program} {w : World} {H H' : Hp} {h h' : Heap} {a : Addr} {o : HO}
theorem ObjOk.lt (x : ObjOk P w H h a o) : a < h.objs.size := by
  cases o with
  | lst xs => obtain ⟨_, _, _, _, e⟩ := x; exact Heap.lt_size e
  | tup xs => obtain ⟨_, _, _, p⟩ := x; exact p.lt
  | dK kvs => obtain ⟨_, _, _, _, o, _, _, e, _⟩ := x; exact Heap.lt_size e
  | dT kvs => obtain ⟨_, _, _, _, o, _, _, e, _⟩ := x; exact Heap.lt_size e
  | set S n => obtain ⟨o, _, _, _, e, _⟩ := x; exact Heap.lt_size e
  | ins C dx fs => obtain ⟨_, _, _, e, _⟩ := x; exact Heap.lt_size e
  | own y => obtain ⟨_, e⟩ := x; exact Heap.lt_size e
  | xd fs => obtain ⟨_, ⟨_, _, _, e, _⟩, _⟩ := x; exact Heap.lt_size e
  | rng lo hi => obtain ⟨_, _, _, e⟩ := x; exact Heap.lt_size e
  | frz ob u => obtain ⟨e, _⟩ := x; exact Heap.lt_size e
  | tbl ps => exact Heap.lt_size (show h.get? a = some _ from x)
  | met f y => exact Heap.lt_size (show h.get? a = some _ from x)
  | ext φ => obtain ⟨_, ⟨_, e⟩, _⟩ := x; exact Heap.lt_size e
theorem Paired.mapP {α β : Type} {F G : α → β → Prop} : ∀ {l₁ : List α} {l₂ : List β}, Paired F l₁ l₂ → (∀ a b, F a b → G a b) → Paired G l₁ l₂
  | _, _, .nil, _ => .nil
  | _, _, .cons r t, f => .cons (f _ _ r) (Paired.mapP t f)
/-- what an object's description leans on: its own object, its own dict, the tuples -/
theorem ObjOk.stay (x : ObjOk P w H h a o) (k : ∀ b u, (b = a ∨ H b = some (.own a)) → h.get? b = some u → h'.get? b = some u)
    (ho : ∀ b, H b = some (.own a) → H' b = some (.own a)) (ht : ∀ b xs, H b = some (.tup xs) → H' b = some (.tup xs)) : ObjOk P w H' h' a o := by
  induction o with
  | lst xs => obtain ⟨z, its, n, r, e⟩ := x; exact ⟨z, its, n, r, k _ _ (.inl rfl) e⟩
  | tup xs => obtain ⟨z, its, r, ob, e, c⟩ := x; exact ⟨z, its, r, ob, k _ _ (.inl rfl) e, c⟩
  | dK kvs => obtain ⟨z, y, vs, r, ob, es, ep, e, c⟩ := x; exact ⟨z, y, vs, r, ob, es, ep, k _ _ (.inl rfl) e, c⟩
  | dT kvs =>
    obtain ⟨z, y, xs, r, ob, es, ep, e, c⟩ := x
    exact ⟨z, y, xs, Paired.mapP r fun p q z => ⟨z.1, ht _ _ z.2.1, z.2.2⟩, ob, es, ep, k _ _ (.inl rfl) e, c⟩
  | set S n => obtain ⟨ob, es, ep, t, e, c⟩ := x; exact ⟨ob, es, ep, t, k _ _ (.inl rfl) e, c⟩
  | ins C dx fs =>
    obtain ⟨d, z, ne, e, mA, ⟨od, es, ep, e2, c⟩, r⟩ := x
    exact ⟨ho _ d, z, ne, k _ _ (.inl rfl) e, mA, ⟨od, es, ep, k _ _ (.inr d) e2, c⟩, r⟩
  | own y => obtain ⟨ob, e⟩ := x; exact ⟨ob, k _ _ (.inl rfl) e⟩
  | xd fs => obtain ⟨mA, ⟨od, es, ep, e, c⟩, r⟩ := x; exact ⟨mA, ⟨od, es, ep, k _ _ (.inl rfl) e, c⟩, r⟩
  | rng lo hi => obtain ⟨t, u, v, e⟩ := x; exact ⟨t, u, v, k _ _ (.inl rfl) e⟩
  | frz ob u ih => obtain ⟨e, q⟩ := x; exact ⟨k _ _ (.inl rfl) e, ih q⟩
  | tbl ps =>
    have e : h.get? a = some { cls := .none, data := .fields ps } := x
    show h'.get? a = some { cls := .none, data := .fields ps }
    exact k a _ (.inl rfl) e
  | met f y =>
    have e : h.get? a = some (PySem.W.methodObj (.ref f) (.ref y)) := x
    show h'.get? a = some (PySem.W.methodObj (.ref f) (.ref y))
    exact k a _ (.inl rfl) e
  | ext φ => obtain ⟨p, ⟨o, e⟩, st⟩ := x; exact ⟨st _ _ p fun o q => k _ _ (.inl rfl) q, ⟨o, k _ _ (.inl rfl) e⟩, st⟩
theorem HOk.lt (x : HOk P w H h) (e : H a = some o) : a < h.objs.size := (x a o e).lt
theorem HOk.fresh (x : HOk P w H h) (e : h.objs.size ≤ a) : H a = none := by
  cases q : H a with
  | none => rfl
  | some u => exact absurd (Nat.lt_of_lt_of_le (x.lt q) e) (Nat.lt_irrefl _)
/-- every object of the heap is kept -/
theorem HOk.kept (x : HOk P w H h) (k : ∀ b u, h.get? b = some u → h'.get? b = some u) : HOk P w H h' := fun a o e =>
  (x a o e).stay (fun b u _ q => k b u q) (fun _ q => q) fun _ _ q => q
/-- a new object is laid and tracked -/
theorem HOk.laid (x : HOk P w H h) (k : ∀ b u, h.get? b = some u → h'.get? b = some u) (hp : h.objs.size ≤ a) (new : ObjOk P w (upd H a o) h' a o) : HOk P w (upd H a o) h' := fun b u e => by
  have hn := x.fresh hp
  by_cases hb : b = a
  · subst hb; rw [upd_same] at e; cases e; exact new
  · rw [upd_ne hb] at e
    exact (x b u e).stay (fun c v _ q => k c v q) (fun c q => by rw [upd_ne (ne_of_none q hn)]; exact q) fun c xs q => by rw [upd_ne (ne_of_none q hn)]; exact q
end

/-- what may be read as u: it is u, or a known u -/
def Rd (H : Hp) (a : Addr) (u : HO) : Prop := H a = some u ∨ ∃ o, H a = some (.frz o u)
theorem Rd.ok {P : Program} {w : World} {H : Hp} {h : Heap} {a : Addr} {u : HO} (r : Rd H a u) (x : HOk P w H h) : ObjOk P w H h a u := by
  rcases r with r | ⟨o, r⟩
  · exact x a u r
  · obtain ⟨_, q⟩ := x a _ r
    exact q
/-- what may be written -/
def Mut : Option HO → Prop
  | some (.lst _) => True
  | some (.dK _) => True
  | some (.dT _) => True
  | some (.set _ _) => True
  | some (.ins _ _ _) => True
  | some (.ext _) => True
  | _ => False
section
variable {P : Program} {w : World} {H : Hp} {h h' : Heap} {x e : Addr} {o' : HO}
/-- the object at e is changed: x itself, or the dict of the instance x -/
theorem HOk.write (ok : HOk P w H h) (mu : Mut (H x)) (he : e = x ∨ H e = some (.own x)) (k : ∀ b u, b ≠ e → h.get? b = some u → h'.get? b = some u) (heo : ∃ u, h'.get? e = some u)
    (new : ObjOk P w (upd H x o') h' x o') : HOk P w (upd H x o') h' := fun b u q => by
  have nown : ∀ c y, H c = some (.own y) → c ≠ x := fun c y r z => by subst z; rw [r] at mu; exact mu
  have ntup : ∀ c xs, H c = some (.tup xs) → c ≠ x := fun c xs r z => by subst z; rw [r] at mu; exact mu
  by_cases hb : b = x
  · subst hb; rw [upd_same] at q; cases q; exact new
  · rw [upd_ne hb] at q
    by_cases hbe : b = e
    · have q' : H b = some (.own x) := by
        rcases he with z | z
        · exact absurd (hbe.trans z) hb
        · rw [hbe]; exact z
      rw [q] at q'; cases q'
      obtain ⟨v, hv⟩ := heo
      exact ⟨v, by rw [hbe]; exact hv⟩
    · refine (ok b u q).stay (fun c v hc r => k c v ?_ r) (fun c r => by rw [upd_ne (nown c b r)]; exact r) fun c xs r => by rw [upd_ne (ntup c xs r)]; exact r
      rcases hc with rfl | hc
      · exact hbe
      · rintro rfl
        rcases he with z | z
        · exact nown c b hc z
        · rw [hc] at z; cases z; exact hb rfl
end

structure Un (fs ex : List Addr) (H H' : Hp) (h h' : Heap) : Prop where
  keep : ∀ b o, h.get? b = some o → H b = none → b ∉ fs → b ∉ ex → h'.get? b = some o
  slot : ∀ b o, h.get? b = some o → H b = none → b ∈ fs → b ∉ ex → ∃ sl, h'.get? b = some { o with slots := sl }
  free : ∀ b o, h.get? b = some o → H b = none → b ∉ ex → H' b = none
  there : ∀ b o, h.get? b = some o → b ∉ ex → ∃ o', h'.get? b = some o'
  tups : ∀ b xs, H b = some (.tup xs) → H' b = some (.tup xs)
  frzs : ∀ b o u, H b = some (.frz o u) → H' b = some (.frz o u)
  tbls : ∀ b ps, H b = some (.tbl ps) → ∃ more, H' b = some (.tbl (ps ++ more))
section
variable {fs fs' ex ex' : List Addr} {H H1 H2 : Hp} {h h1 h2 h' : Heap} {a x e : Addr} {o : HO}
theorem Un.any (u : Un fs ex H H1 h h1) {b : Addr} {ob : Obj} (q : h.get? b = some ob) (n : H b = none) (hx : b ∉ ex) : ∃ sl, h1.get? b = some { ob with slots := sl } := by
  by_cases hb : b ∈ fs
  · exact u.slot b ob q n hb hx
  · exact ⟨ob.slots, u.keep b ob q n hb hx⟩
theorem Un.kept (k : ∀ b u, h.get? b = some u → h'.get? b = some u) : Un fs ex H H h h' :=
  ⟨fun b ob q _ _ _ => k b ob q, fun b ob q _ _ _ => ⟨ob.slots, k b ob q⟩, fun _ _ _ n _ => n, fun b ob q _ => ⟨ob, k b ob q⟩, fun _ _ q => q, fun _ _ _ q => q, fun _ ps q => ⟨#[], by rw [q]; simp⟩⟩
theorem Un.refl : Un fs ex H H h h := Un.kept fun _ _ q => q
theorem Un.laid (k : ∀ b u, h.get? b = some u → h'.get? b = some u) (hp : h.objs.size ≤ a) (hn : H a = none) : Un fs ex H (upd H a o) h h' where
  keep := fun b u q _ _ _ => k b u q
  slot := fun b u q _ _ _ => ⟨u.slots, k b u q⟩
  free := fun b u q n _ => by rw [upd_ne (Nat.ne_of_lt (Nat.lt_of_lt_of_le (Heap.lt_size q) hp))]; exact n
  there := fun b u q _ => ⟨u, k b u q⟩
  tups := fun b xs q => by rw [upd_ne (ne_of_none q hn)]; exact q
  frzs := fun b u xs q => by rw [upd_ne (ne_of_none q hn)]; exact q
  tbls := fun b ps q => ⟨#[], by rw [upd_ne (ne_of_none q hn), q]; simp⟩
theorem Un.write (mu : Mut (H x)) (he : e = x ∨ H e = some (.own x)) (k : ∀ b u, b ≠ e → h.get? b = some u → h'.get? b = some u) (heo : ∃ u, h'.get? e = some u) : Un fs ex H (upd H x o) h h' := by
  have hx : ∀ b, H b = none → b ≠ x := fun b n z => by subst z; rw [n] at mu; exact mu
  have hb : ∀ b, H b = none → b ≠ e := fun b n z => by
    subst z
    rcases he with r | r
    · exact hx b n r
    · rw [n] at r; cases r
  have hm : ∀ b u, H b = some u → ¬ Mut (some u) → b ≠ x := fun b u q nm z => by subst z; rw [q] at mu; exact nm mu
  refine ⟨fun b u q n _ _ => k b u (hb b n) q, fun b u q n _ _ => ⟨u.slots, k b u (hb b n) q⟩, fun b u q n _ => by rw [upd_ne (hx b n)]; exact n, fun b u q _ => ?_,
    fun b xs q => by rw [upd_ne (hm b _ q fun z => z)]; exact q, fun b u xs q => by rw [upd_ne (hm b _ q fun z => z)]; exact q, fun b ps q => ⟨#[], by rw [upd_ne (hm b _ q fun z => z), q]; simp⟩⟩
  by_cases hbe : b = e
  · subst hbe; exact heo
  · exact ⟨u, k b u hbe q⟩
end

def trk (h : Heap) (H : Hp) : List Addr := (List.range h.objs.size).filter fun a => (H a).isSome
def hidT (h : Heap) (H : Hp) : Heap := PySem.W.hideAll h (trk h H)
theorem hidT_size (h : Heap) (H : Hp) : (hidT h H).objs.size = h.objs.size := PySem.W.hideAll_size _ _
theorem hidT_get {h : Heap} {H : Hp} {b : Addr} {o : Obj} (e : h.get? b = some o) (n : H b = none) : (hidT h H).get? b = some o :=
  PySem.W.hideAll_get _ e fun hm => by
    have q : (H b).isSome = true := (List.mem_filter.mp hm).2
    rw [n] at q; simp at q
theorem of_hidT {h : Heap} {H : Hp} {b : Addr} {o : Obj} (e : (hidT h H).get? b = some o) : h.get? b = some o ∧ H b = none := by
  have e' : h.get? b = some o := PySem.W.of_hideAll (trk h H) e
  refine ⟨e', ?_⟩
  cases q : H b with
  | none => rfl
  | some x =>
    have hm : b ∈ trk h H := List.mem_filter.mpr ⟨List.mem_range.mpr (Heap.lt_size e'), by simp [q]⟩
    have z : (hidT h H).get? b = none := PySem.W.hideAll_none (trk h H) hm
    rw [z] at e; cases e

end L2

namespace L2
open PySem PySem.Spec PyProof.Rows

/-- the module's facts, over the base: the heap at the law's entry without what is tracked there -/
structure Mod (K : PySem.W.Frag) (mg : Str → Option Value) (base : Heap) : Prop where
  kin : K.In base
  glob : base.Ns mainGlobals mg
  blt : ∃ mb, base.Ns builtinsNs mb ∧ ∀ x : Str, x ≠ "__name__" → mb x = bootBuiltins x
  nolimit : base.NoLimit

/-- the context: a def's body (or a comprehension's block) running. base: fixed through the whole law; s₀, H₀: the entry; outer: the frames whose slots others may change (a def's callers); stack: all frames that run;
   ex: iterators that were made ahead of the entry and are walked here (a comprehension's); fn: the names whose cells were made at the entry (a def: all; a comprehension's block: its own); calm: not within an except suite; pn: pins that every state bears; xe: what is wanted of an exception that leaves the code -/
structure Cx where
  prog : Program
  w : World
  K : PySem.W.Frag
  mg : Str → Option Value
  base : Heap
  A : Around
  N : List Str
  s₀ : Shared
  H₀ : Hp
  env : Env
  outer : List Env
  stack : List Env
  ex : List Addr
  fn : Str → Bool
  calm : Bool
  pn : List (Addr × Obj)
  xe : Value → Shared → Prop
/-- the callers' frames -/
def frs (l : List Env) : List Addr := l.filterMap (·.frame)
abbrev Cx.fs (X : Cx) : List Addr := frs X.outer

def Vis (sc : Scope) (x : Str) : Prop := sc.names.lookup x = some .local ∨ sc.names.lookup x = some .cell ∨ sc.names.lookup x = some .free
def Loc (sc : Scope) (x : Str) : Prop := sc.names.lookup x = some .local ∨ sc.names.lookup x = some .cell
def Look (env : Env) (h : Heap) (m : Str → Option Value) (x : Str) (u : Value) : Prop :=
  (env.kindOf x = some .local ∧ m x = some u) ∨ ((env.kindOf x = some .cell ∨ env.kindOf x = some .free) ∧ ∃ c, env.cells.lookup x = some c ∧ h.IsCell c (some u))

structure Cx.Ok (X : Cx) : Prop where
  mod : Mod X.K X.mg X.base
  kind : X.env.scope.kind = .function
  glob : X.env.globals = mainGlobals
  blt : X.env.builtins = builtinsNs
  above : X.s₀.heap.objs.size ≤ X.env.locals
  inj : ∀ x y c, X.env.cells.lookup x = some c → X.env.cells.lookup y = some c → x = y
  has : ∀ x, (X.env.kindOf x = some .cell ∨ X.env.kindOf x = some .free) → ∃ c, X.env.cells.lookup x = some c
  cab : ∀ x c, X.fn x = true → X.env.cells.lookup x = some c → X.s₀.heap.objs.size ≤ c
  hd : X.calm = true → X.A.handled = none
  frames : X.A.frames = some X.stack
  stk : X.stack = X.outer ∨ (X.stack = X.env :: X.outer ∧ X.env.frame = some X.env.locals)
  exf : ∀ b ∈ X.ex, b ≠ X.env.locals ∧ ∀ x c, X.env.cells.lookup x = some c → c ≠ b
  bs : ∀ b o, X.base.get? b = some o → X.s₀.heap.get? b = some o ∧ X.H₀ b = none
  bsz : X.base.objs.size ≤ X.s₀.heap.objs.size
  noex : ∀ b o, X.base.get? b = some o → b ∉ X.ex
  exfs : ∀ b ∈ X.ex, b ∉ X.fs
  funs : X.s₀.heap.FunFrames X.base X.outer
  frf : ∀ b ∈ X.fs, X.H₀ b = none

structure Inv (X : Cx) (pins : List (Addr × Obj)) (σ : List (Option V)) (H : Hp) (s : Shared) : Prop where
  ok : X.Ok
  os : s.os = X.s₀.os
  bare : AllBare s.gens
  base : Un X.fs X.ex X.H₀ H X.s₀.heap s.heap
  loc : ∃ m, s.heap.Ns X.env.locals m ∧ ∀ (i : Nat) (x : Str) (v : V), X.N[i]? = some x → σ[i]? = some (some v) → Vis X.env.scope x → ∃ u, RelV v u ∧ Look X.env s.heap m x u
  cell : ∀ x c, X.env.cells.lookup x = some c → ∃ v, s.heap.IsCell c v
  free : H X.env.locals = none
  freeC : ∀ x c, X.env.cells.lookup x = some c → H c = none
  pin : ∀ p ∈ X.pn ++ pins, s.heap.get? p.1 = some p.2 ∧ H p.1 = none ∧ p.1 ≠ X.env.locals ∧ p.1 ∉ X.fs ∧ ∀ v, p.2.data ≠ .cell v
  hok : HOk X.prog X.w H s.heap
  len : σ.length = X.N.length

section
variable {X : Cx} {pins : List (Addr × Obj)} {σ : List (Option V)} {H H' : Hp} {s : Shared} {h' : Heap}

theorem Cx.Ok.nofr (ok : X.Ok) {b : Addr} {o : Obj} (e : X.base.get? b = some o) : b ∉ X.fs := fun hb => by
  have := (ok.funs.mem hb).1
  rw [e] at this; cases this
theorem Inv.bs (I : Inv X pins σ H s) : ∀ b o, X.base.get? b = some o → s.heap.get? b = some o ∧ H b = none := fun b o e =>
  ⟨I.base.keep b o (I.ok.bs b o e).1 (I.ok.bs b o e).2 (I.ok.nofr e) (I.ok.noex b o e), I.base.free b o (I.ok.bs b o e).1 (I.ok.bs b o e).2 (I.ok.noex b o e)⟩
theorem Inv.bk (I : Inv X pins σ H s) : ∀ b o, X.base.get? b = some o → s.heap.get? b = some o := fun b o e => (I.bs b o e).1
theorem Inv.mod (I : Inv X pins σ H s) : Mod X.K X.mg X.base := I.ok.mod
theorem Inv.kIn (I : Inv X pins σ H s) : X.K.In s.heap := I.ok.mod.kin.keeps I.bk
theorem Inv.lt (I : Inv X pins σ H s) : X.env.locals < s.heap.objs.size := let ⟨_, hn, _⟩ := I.loc; hn.lt
theorem Inv.sz (I : Inv X pins σ H s) : X.s₀.heap.objs.size ≤ s.heap.objs.size := Nat.le_trans I.ok.above (Nat.le_of_lt I.lt)
theorem Inv.nofs (I : Inv X pins σ H s) {a : Addr} (h : s.heap.objs.size ≤ a) : a ∉ X.fs := fun hb => by
  obtain ⟨_, o, ho, _⟩ := I.ok.funs.mem hb
  exact absurd (Nat.lt_of_lt_of_le (Heap.lt_size ho) (Nat.le_trans I.sz h)) (Nat.lt_irrefl _)
theorem Inv.cne (I : Inv X pins σ H s) : ∀ x c, X.env.cells.lookup x = some c → c ≠ X.env.locals := fun x c e z => by
  obtain ⟨v, o, ho, hd⟩ := I.cell x c e
  obtain ⟨m, ⟨o', es, ep, ho', hd', _⟩, _⟩ := I.loc
  rw [z, ho'] at ho; cases ho; rw [hd'] at hd; cases hd
theorem Inv.funs (I : Inv X pins σ H s) : s.heap.FunFrames X.base X.outer := by
  have all : ∀ (l : List Env), (∀ b ∈ frs l, b ∈ X.fs) → X.s₀.heap.FunFrames X.base l → s.heap.FunFrames X.base l := by
    intro l
    induction l with
    | nil => intro _ _; trivial
    | cons env r ih =>
      intro hs hl
      obtain ⟨hk, ⟨L, o, hf, hn, ho, hd⟩, hr⟩ := hl
      have hL : L ∈ X.fs := hs L (by unfold frs; rw [List.filterMap_cons, hf]; exact List.mem_cons_self)
      obtain ⟨sl, e⟩ := I.base.slot L o ho (I.ok.frf L hL) hL fun z => I.ok.exfs L z hL
      exact ⟨hk, ⟨L, _, hf, hn, e, hd⟩, ih (fun b hb => hs b (by unfold frs; rw [List.filterMap_cons, hf]; exact List.mem_cons_of_mem _ hb)) hr⟩
  exact all X.outer (fun _ hb => hb) I.ok.funs

/-- the frames that run, for a call -/
theorem Inv.stack (I : Inv X pins σ H s) : s.heap.FunFrames X.base X.stack := by
  rcases I.ok.stk with e | ⟨e, hf⟩
  · rw [e]; exact I.funs
  · rw [e]
    obtain ⟨m, hn, _⟩ := I.loc
    refine .cons (by rw [I.ok.kind]; decide) hf hn ?_ I.funs
    exact Heap.get?_none_of_le (Nat.le_trans I.ok.bsz I.ok.above)
theorem Inv.stkSub (I : Inv X pins σ H s) : ∀ b ∈ frs X.stack, b ∈ X.env.locals :: X.fs := fun b hb => by
  rcases I.ok.stk with e | ⟨e, hf⟩
  · rw [e] at hb; exact List.mem_cons_of_mem _ hb
  · rw [e] at hb
    unfold frs at hb
    rw [List.filterMap_cons, hf] at hb
    exact hb
theorem Inv.stkFree (I : Inv X pins σ H s) : ∀ b ∈ frs X.stack, H b = none := fun b hb => by
  rcases List.mem_cons.mp (I.stkSub b hb) with e | hb
  · rw [e]; exact I.free
  · obtain ⟨_, o, ho, _⟩ := I.ok.funs.mem hb
    exact I.base.free b o ho (I.ok.frf b hb) fun z => I.ok.exfs b z hb

/-- THE STEP: the untracked objects but the frame and the records at ch are kept (the callers' frames up to slots), the frame's map is kept, the new abstract heap is held -/
theorem Inv.step {g' : Array GenState} {t' : Nat} {d' : Drawn} {ch : List Addr} (I : Inv X pins σ H s)
    (hch : ∀ b ∈ ch, (b ∈ X.ex ∨ X.s₀.heap.objs.size ≤ b) ∧ b ≠ X.env.locals ∧ (∀ x c, X.env.cells.lookup x = some c → c ≠ b) ∧ ∀ p ∈ X.pn ++ pins, p.1 ≠ b)
    (keep : ∀ b o, b ≠ X.env.locals → b ∉ X.fs → b ∉ ch → s.heap.get? b = some o → H b = none → h'.get? b = some o)
    (slot : ∀ b o, b ≠ X.env.locals → b ∈ X.fs → b ∉ ch → s.heap.get? b = some o → H b = none → ∃ sl, h'.get? b = some { o with slots := sl }) (free : ∀ b o, b ∉ ch → s.heap.get? b = some o → H b = none → H' b = none)
    (there : ∀ b o, b ∉ ch → s.heap.get? b = some o → ∃ o', h'.get? b = some o')
    (tups : ∀ b xs, H b = some (.tup xs) → H' b = some (.tup xs)) (frzs : ∀ b o u, H b = some (.frz o u) → H' b = some (.frz o u)) (tbls : ∀ b ps, H b = some (.tbl ps) → ∃ more, H' b = some (.tbl (ps ++ more)))
    (ns : ∀ m, s.heap.Ns X.env.locals m → h'.Ns X.env.locals m) (hok : HOk X.prog X.w H' h') (hg : AllBare g') :
    Inv X pins σ H' { s with heap := h', gens := g', drawn := d', toks := t' } := by
  have neL : ∀ b o, X.s₀.heap.get? b = some o → b ≠ X.env.locals := fun b o e => Nat.ne_of_lt (Nat.lt_of_lt_of_le (Heap.lt_size e) I.ok.above)
  have neC : ∀ b o, X.s₀.heap.get? b = some o → b ∉ X.ex → b ∉ ch := fun b o e hx hb => by
    rcases (hch b hb).1 with z | z
    · exact hx z
    · exact absurd (Nat.lt_of_lt_of_le (Heap.lt_size e) z) (Nat.lt_irrefl _)
  have cellK : ∀ x c, X.env.cells.lookup x = some c → ∀ v, s.heap.IsCell c v → h'.IsCell c v := fun x c e v ⟨o, ho, hd⟩ => by
    have nch : c ∉ ch := fun z => (hch c z).2.2.1 x c e rfl
    by_cases hc : c ∈ X.fs
    · obtain ⟨sl, q⟩ := slot c o (I.cne x c e) hc nch ho (I.freeC x c e)
      exact ⟨_, q, hd⟩
    · exact ⟨o, keep c o (I.cne x c e) hc nch ho (I.freeC x c e), hd⟩
  refine ⟨I.ok, I.os, hg, ⟨fun b o e n hb hx => ?_, fun b o e n hb hx => ?_, fun b o e n hx => ?_, fun b o e hx => ?_, fun b xs e => tups b xs (I.base.tups b xs e), fun b o xs e => frzs b o xs (I.base.frzs b o xs e), fun b ps e => ?_⟩, ?_, fun x c e => ?_, ?_, fun x c e => ?_, fun p hp => ?_, hok, I.len⟩
  · exact keep b o (neL b o e) hb (neC b o e hx) (I.base.keep b o e n hb hx) (I.base.free b o e n hx)
  · obtain ⟨sl, e1⟩ := I.base.slot b o e n hb hx
    obtain ⟨sl', e2⟩ := slot b _ (neL b o e) hb (neC b o e hx) e1 (I.base.free b o e n hx)
    exact ⟨sl', e2⟩
  · obtain ⟨o', e1⟩ := I.base.there b o e hx
    exact free b o' (neC b o e hx) e1 (I.base.free b o e n hx)
  · obtain ⟨o', e1⟩ := I.base.there b o e hx
    exact there b o' (neC b o e hx) e1
  · obtain ⟨m1, e1⟩ := I.base.tbls b ps e
    obtain ⟨m2, e2⟩ := tbls b _ e1
    exact ⟨m1 ++ m2, by rw [e2, Array.append_assoc]⟩
  · obtain ⟨m, hn, hl⟩ := I.loc
    refine ⟨m, ns m hn, fun i x v e1 e2 e3 => ?_⟩
    obtain ⟨u, r, l⟩ := hl i x v e1 e2 e3
    refine ⟨u, r, ?_⟩
    rcases l with l | ⟨k, c, e, z⟩
    · exact .inl l
    · exact .inr ⟨k, c, e, cellK x c e _ z⟩
  · obtain ⟨v, z⟩ := I.cell x c e
    exact ⟨v, cellK x c e v z⟩
  · obtain ⟨m, ⟨o, _, _, ho, _⟩, _⟩ := I.loc
    exact free _ o (fun z => (hch _ z).2.1 rfl) ho I.free
  · obtain ⟨v, o, ho, hd⟩ := I.cell x c e
    exact free c o (fun z => (hch c z).2.2.1 x c e rfl) ho (I.freeC x c e)
  · obtain ⟨e, n, ne, nf, d⟩ := I.pin p hp
    have nch : p.1 ∉ ch := fun z => (hch p.1 z).2.2.2 p hp rfl
    exact ⟨keep p.1 p.2 ne nf nch e n, free p.1 p.2 nch e n, ne, nf, d⟩
/-- .. where the frame's own object is kept too -/
theorem Inv.un {t' : Nat} (I : Inv X pins σ H s) (u : Un X.fs [] H H' s.heap h') (hok : HOk X.prog X.w H' h') : Inv X pins σ H' { s with heap := h', toks := t' } := by
  obtain ⟨m, ⟨o, es, ep, ho, r⟩, _⟩ := id I.loc
  obtain ⟨sl, hL⟩ := u.any ho I.free (by simp)
  exact I.step (g' := s.gens) (d' := s.drawn) (ch := []) (fun _ z => nomatch z) (fun b o _ hb _ e n => u.keep b o e n hb (by simp)) (fun b o _ hb _ e n => u.slot b o e n hb (by simp)) (fun b o _ e n => u.free b o e n (by simp)) (fun b o _ e => u.there b o e (by simp)) u.tups u.frzs u.tbls (fun m' hm => by
    obtain ⟨o', es', ep', ho', r'⟩ := hm
    rw [ho] at ho'; cases ho'
    exact ⟨_, es', ep', hL, r'⟩) hok I.bare
/-- behind a call (or a comprehension's block): the slots of this frame may have changed too, the records at ch may have turned -/
theorem Inv.call {g' : Array GenState} {t' : Nat} {d' : Drawn} {ch : List Addr} (I : Inv X pins σ H s) (u : Un (frs X.stack) ch H H' s.heap h') (hok : HOk X.prog X.w H' h') (hg : AllBare g')
    (hch : ∀ b ∈ ch, (b ∈ X.ex ∨ X.s₀.heap.objs.size ≤ b) ∧ b ≠ X.env.locals ∧ (∀ x c, X.env.cells.lookup x = some c → c ≠ b) ∧ ∀ p ∈ X.pn ++ pins, p.1 ≠ b) :
    Inv X pins σ H' { s with heap := h', gens := g', drawn := d', toks := t' } := by
  obtain ⟨m, ⟨o, es, ep, ho, r⟩, _⟩ := id I.loc
  obtain ⟨sl, hL⟩ := u.any ho I.free fun z => (hch _ z).2.1 rfl
  exact I.step (ch := ch) hch (fun b o hL hb hc e n => u.keep b o e n (fun z => (List.mem_cons.mp (I.stkSub b z)).elim hL hb) hc) (fun b o _ _ hc e n => u.any e n hc) (fun b o hc e n => u.free b o e n hc) (fun b o hc e => u.there b o e hc) u.tups u.frzs u.tbls (fun m' hm => by
    obtain ⟨o', es', ep', ho', r'⟩ := hm
    rw [ho] at ho'; cases ho'
    exact ⟨_, es', ep', hL, r'⟩) hok hg
/-- an untracked record of ours (an iterator) has turned -/
theorem Inv.turned {t' : Nat} {it : Addr} (I : Inv X pins σ H s) (k : ∀ b o, b ≠ it → s.heap.get? b = some o → h'.get? b = some o) (hn : H it = none) (hL : it ≠ X.env.locals)
    (h1 : it ∈ X.ex ∨ X.s₀.heap.objs.size ≤ it) (h2 : ∀ x c, X.env.cells.lookup x = some c → c ≠ it) (h3 : ∀ p ∈ X.pn ++ pins, p.1 ≠ it) : Inv X pins σ H { s with heap := h', toks := t' } := by
  have nit : ∀ b u, H b = some u → b ≠ it := fun b u e z => by rw [z, hn] at e; cases e
  refine I.step (g' := s.gens) (d' := s.drawn) (ch := [it]) (fun b hb => ?_) (fun b o _ _ hc e _ => k b o (fun z => hc (by simp [z])) e) (fun b o _ _ hc e _ => ⟨o.slots, k b o (fun z => hc (by simp [z])) e⟩) (fun _ _ _ _ n => n)
    (fun b o hc e => ⟨o, k b o (fun z => hc (by simp [z])) e⟩) (fun _ _ e => e) (fun _ _ _ e => e) (fun b ps e => ⟨#[], by rw [e]; simp⟩) (fun m hm => ?_) (fun b u e => ?_) I.bare
  · have e : b = it := by simpa using hb
    subst e
    exact ⟨h1, hL, h2, h3⟩
  · obtain ⟨o, es, ep, ho, r⟩ := hm
    exact ⟨o, es, ep, k _ o (Ne.symm hL) ho, r⟩
  · refine (I.hok b u e).stay (fun c v hc q => k c v ?_ q) (fun _ q => q) fun _ _ q => q
    rcases hc with z | z
    · rw [z]; exact nit b u e
    · exact nit c _ z
theorem Inv.tok (I : Inv X pins σ H s) (t : Nat) : Inv X pins σ H { s with toks := t } := I.un (h' := s.heap) (t' := t) Un.refl I.hok
/-- all objects kept -/
theorem Inv.kept {t' : Nat} (I : Inv X pins σ H s) (k : ∀ b u, s.heap.get? b = some u → h'.get? b = some u) : Inv X pins σ H { s with heap := h', toks := t' } := I.un (Un.kept k) (I.hok.kept k)
/-- a new object laid and tracked -/
theorem Inv.laid {a : Addr} {o : HO} {t' : Nat} (I : Inv X pins σ H s) (k : ∀ b u, s.heap.get? b = some u → h'.get? b = some u) (hp : s.heap.objs.size ≤ a) (new : ObjOk X.prog X.w (upd H a o) h' a o) :
    Inv X pins σ (upd H a o) { s with heap := h', toks := t' } := I.un (Un.laid k hp (I.hok.fresh hp)) (I.hok.laid k hp new)
/-- an object written -/
theorem Inv.write {x e : Addr} {o : HO} {t' : Nat} (I : Inv X pins σ H s) (mu : Mut (H x)) (he : e = x ∨ H e = some (.own x)) (k : ∀ b u, b ≠ e → s.heap.get? b = some u → h'.get? b = some u) (heo : ∃ u, h'.get? e = some u)
    (new : ObjOk X.prog X.w (upd H x o) h' x o) : Inv X pins σ (upd H x o) { s with heap := h', toks := t' } := I.un (Un.write mu he k heo) (I.hok.write mu he k heo new)
/-- forgetting slots, pins -/
theorem Inv.weak {σ' : List (Option V)} (I : Inv X pins σ H s) (hl : σ'.length = σ.length) (w : ∀ (i : Nat) v, σ'[i]? = some (some v) → σ[i]? = some (some v)) : Inv X pins σ' H s :=
  ⟨I.ok, I.os, I.bare, I.base, let ⟨m, hn, hl'⟩ := I.loc; ⟨m, hn, fun i x v e1 e2 e3 => hl' i x v e1 (w i v e2) e3⟩, I.cell, I.free, I.freeC, I.pin, I.hok, hl.trans I.len⟩
theorem Inv.pins_of {pins' : List (Addr × Obj)} (I : Inv X pins σ H s) (h : ∀ p ∈ pins', s.heap.get? p.1 = some p.2 ∧ H p.1 = none ∧ p.1 ≠ X.env.locals ∧ p.1 ∉ X.fs ∧ ∀ v, p.2.data ≠ .cell v) : Inv X pins' σ H s :=
  ⟨I.ok, I.os, I.bare, I.base, I.loc, I.cell, I.free, I.freeC, fun p hp => (List.mem_append.mp hp).elim (fun z => I.pin p (List.mem_append_left _ z)) (h p), I.hok, I.len⟩

theorem nodup_ix {N : List Str} (hN : N.Nodup) {i j : Nat} {x : Str} (a : N[i]? = some x) (b : N[j]? = some x) : i = j := by
  obtain ⟨h1, e1⟩ := List.getElem?_eq_some_iff.mp a
  obtain ⟨h2, e2⟩ := List.getElem?_eq_some_iff.mp b
  exact (List.getElem_inj hN).mp (e1.trans e2.symm)

/-- a name is stored; what changed -/
theorem store_ok2 {M : Model} {A : Around} {E : Value → Shared → Prop} {i : Nat} {x : Str} {v : V} {u : Value} {Q : Unit → Shared → Prop} (I : Inv X pins σ H s) (hN : X.N.Nodup) (hi : X.N[i]? = some x) (hx : Loc X.env.scope x) (r : RelV v u)
    (h : ∀ s', Inv X pins (σ.set i (some v)) H s' → (∃ a, Heap.SameBut a s.heap s'.heap ∧ (a = X.env.locals ∨ X.env.cells.lookup x = some a)) → Q () s') (hf : X.fn x = true ∨ X.env.scope.names.lookup x = some .local := by first | exact .inl rfl | exact .inr rfl | assumption) : wpAny M A (storeName X.env x u) Q E s := by
  obtain ⟨m, hn, hl⟩ := id I.loc
  have hcls : (X.env.scope.kind == .class || (X.env.scope.kind == .module && X.env.locals != X.env.globals)) = false := by rw [I.ok.kind]; rfl
  have hiσ : i < σ.length := by rw [I.len]; exact (List.getElem?_eq_some_iff.mp hi).1
  have cne := I.cne
  have tracked : ∀ {a : Addr} {h' : Heap}, (∃ o, s.heap.get? a = some o ∧ H a = none) → Heap.SameBut a s.heap h' → HOk X.prog X.w H h' := fun {a h'} ha hs b ob e => by
    obtain ⟨_, _, hfree⟩ := ha
    refine (I.hok b ob e).stay (fun c w' hc q => (hs.2 c ?_).trans q) (fun _ q => q) fun _ _ q => q
    rintro rfl
    rcases hc with rfl | hc
    · rw [hfree] at e; cases e
    · rw [hfree] at hc; cases hc
  rcases hx with hk | hk
  · refine wpAny_storeName_local hk hn (fun h' hn' hs => ?_) hcls
    obtain ⟨oL, _, _, hoL, _⟩ := id hn
    refine h _ ⟨I.ok, I.os, I.bare, ⟨fun b o e n hb hx => ?_, fun b o e n hb hx => ?_, I.base.free, fun b o e hx => ?_, I.base.tups, I.base.frzs, I.base.tbls⟩, ⟨_, hn', fun j y v' e1 e2 e3 => ?_⟩, fun y c e => ?_, I.free, I.freeC, fun p hp => ?_, tracked ⟨oL, hoL, I.free⟩ hs, by simpa using I.len⟩ ⟨_, hs, .inl rfl⟩
    · exact (hs.2 b (Nat.ne_of_lt (Nat.lt_of_lt_of_le (Heap.lt_size e) I.ok.above))).trans (I.base.keep b o e n hb hx)
    · obtain ⟨sl, e1⟩ := I.base.slot b o e n hb hx
      exact ⟨sl, (hs.2 b (Nat.ne_of_lt (Nat.lt_of_lt_of_le (Heap.lt_size e) I.ok.above))).trans e1⟩
    · obtain ⟨o', e1⟩ := I.base.there b o e hx
      exact ⟨o', (hs.2 b (Nat.ne_of_lt (Nat.lt_of_lt_of_le (Heap.lt_size e) I.ok.above))).trans e1⟩
    · by_cases hj : j = i
      · subst hj
        rw [hi] at e1; cases e1
        rw [List.getElem?_set_self hiσ] at e2
        cases e2
        exact ⟨u, r, .inl ⟨hk, by simp⟩⟩
      · rw [List.getElem?_set_ne (Ne.symm hj)] at e2
        obtain ⟨u', r', q⟩ := hl j y v' e1 e2 e3
        refine ⟨u', r', ?_⟩
        rcases q with ⟨k, e⟩ | ⟨k, c, e, z⟩
        · refine .inl ⟨k, ?_⟩
          have : y ≠ x := fun e => hj (nodup_ix hN e1 (e ▸ hi))
          simp [this, e]
        · exact .inr ⟨k, c, e, z.sameBut hs (cne y c e)⟩
    · obtain ⟨w', z⟩ := I.cell y c e
      exact ⟨w', z.sameBut hs (cne y c e)⟩
    · obtain ⟨e, n, ne, nf, d⟩ := I.pin p hp
      exact ⟨(hs.2 p.1 ne).trans e, n, ne, nf, d⟩
  · have hfn : X.fn x = true := by
      rcases hf with z | z
      · exact z
      · rw [z] at hk; cases hk
    obtain ⟨c, hc⟩ := I.ok.has x (.inl hk)
    obtain ⟨w', z⟩ := I.cell x c hc
    refine wpAny_storeName_cell I.ok.kind hk hc z (fun h' hc' hs => ?_)
    obtain ⟨oc, hoc, hocd⟩ := id z
    refine h { s with heap := h' } ⟨I.ok, I.os, I.bare, ⟨fun b o e n hb hx => ?_, fun b o e n hb hx => ?_, I.base.free, fun b o e hx => ?_, I.base.tups, I.base.frzs, I.base.tbls⟩, ⟨m, hn.sameBut hs (Ne.symm (cne x c hc)), fun j y v' e1 e2 e3 => ?_⟩, fun y c' e => ?_, I.free, I.freeC, fun p hp => ?_, tracked ⟨oc, hoc, I.freeC x c hc⟩ hs, by simpa using I.len⟩ ⟨c, hs, .inr hc⟩
    · exact (hs.2 b (Nat.ne_of_lt (Nat.lt_of_lt_of_le (Heap.lt_size e) (I.ok.cab x c hfn hc)))).trans (I.base.keep b o e n hb hx)
    · obtain ⟨sl, e1⟩ := I.base.slot b o e n hb hx
      exact ⟨sl, (hs.2 b (Nat.ne_of_lt (Nat.lt_of_lt_of_le (Heap.lt_size e) (I.ok.cab x c hfn hc)))).trans e1⟩
    · obtain ⟨o', e1⟩ := I.base.there b o e hx
      exact ⟨o', (hs.2 b (Nat.ne_of_lt (Nat.lt_of_lt_of_le (Heap.lt_size e) (I.ok.cab x c hfn hc)))).trans e1⟩
    · by_cases hj : j = i
      · subst hj
        rw [hi] at e1; cases e1
        rw [List.getElem?_set_self hiσ] at e2
        cases e2
        exact ⟨u, r, .inr ⟨.inl hk, c, hc, hc'⟩⟩
      · rw [List.getElem?_set_ne (Ne.symm hj)] at e2
        obtain ⟨u', r', q⟩ := hl j y v' e1 e2 e3
        refine ⟨u', r', ?_⟩
        rcases q with q | ⟨k, c', e, z'⟩
        · exact .inl q
        · refine .inr ⟨k, c', e, z'.sameBut hs ?_⟩
          rintro rfl
          exact hj (nodup_ix hN e1 (I.ok.inj _ _ _ e hc ▸ hi))
    · by_cases hcc : c' = c
      · subst hcc; exact ⟨_, hc'⟩
      · obtain ⟨w2, z2⟩ := I.cell y c' e
        exact ⟨w2, z2.sameBut hs hcc⟩
    · obtain ⟨e, n, ne, nf, d⟩ := I.pin p hp
      refine ⟨(hs.2 p.1 ?_).trans e, n, ne, nf, d⟩
      intro q
      rw [q, hoc] at e
      have q' : oc = p.2 := Option.some.inj e
      exact d w' (by rw [← q']; exact hocd)
theorem store_ok {M : Model} {A : Around} {E : Value → Shared → Prop} {i : Nat} {x : Str} {v : V} {u : Value} {Q : Unit → Shared → Prop} (I : Inv X pins σ H s) (hN : X.N.Nodup) (hi : X.N[i]? = some x) (hx : Loc X.env.scope x) (r : RelV v u)
    (h : ∀ s', Inv X pins (σ.set i (some v)) H s' → Q () s') (hf : X.fn x = true ∨ X.env.scope.names.lookup x = some .local := by first | exact .inl rfl | exact .inr rfl | assumption) : wpAny M A (storeName X.env x u) Q E s :=
  store_ok2 I hN hi hx r (fun s' I' _ => h s' I') hf
/-- behind a call or a block, the state as it is -/
theorem Inv.call' {s' : Shared} {ch : List Addr} (I : Inv X pins σ H s) (ho : s'.os = s.os) (u : Un (frs X.stack) ch H H' s.heap s'.heap) (hok : HOk X.prog X.w H' s'.heap) (hg : AllBare s'.gens)
    (hch : ∀ b ∈ ch, (b ∈ X.ex ∨ X.s₀.heap.objs.size ≤ b) ∧ b ≠ X.env.locals ∧ (∀ x c, X.env.cells.lookup x = some c → c ≠ b) ∧ ∀ p ∈ X.pn ++ pins, p.1 ≠ b) : Inv X pins σ H' s' := by
  obtain ⟨h', g', d', t', o'⟩ := s'
  have e : o' = s.os := ho
  subst e
  exact I.call (g' := g') (t' := t') (d' := d') u hok hg hch
end

/-- an exception: its class, its own dict's address (where it has one), the abstract heap behind it -/
abbrev XK := Value → Option Addr → Hp → Prop
abbrev St := List (Option V)
abbrev VK := V → Hp → Prop
/-- an expression's reading; a test's; an argument list's -/
abbrev TE := St → Hp → VK → Prop
abbrev TT := St → Hp → (Bool → Hp → Prop) → Prop
abbrev TA := St → Hp → (List V → Hp → Prop) → Prop
/-- what is wanted behind a statement -/
structure Ends where
  nx : St → Hp → Prop
  rt : VK
  bk : St → Hp → Prop := fun _ _ => False
  ct : St → Hp → Prop := fun _ _ => False
abbrev TS := Ends → St → Hp → Prop

def EP (X : Cx) (pins : List (Addr × Obj)) (σ : St) (Q : VK) (u : Value) (s' : Shared) : Prop := ∃ v H', Inv X pins σ H' s' ∧ RelV v u ∧ Q v H'
def TP (X : Cx) (pins : List (Addr × Obj)) (σ : St) (Q : Bool → Hp → Prop) (b : Bool) (s' : Shared) : Prop := ∃ H', Inv X pins σ H' s' ∧ Q b H'
def AP (X : Cx) (pins : List (Addr × Obj)) (σ : St) (Q : List V → Hp → Prop) (us : List Value) (s' : Shared) : Prop := ∃ vs H', Inv X pins σ H' s' ∧ Vals vs us ∧ Q vs H'
def SP (X : Cx) (pins : List (Addr × Obj)) (D : Ends) (f : Flow) (s' : Shared) : Prop :=
  match f with
  | .next => ∃ σ' H', Inv X pins σ' H' s' ∧ D.nx σ' H'
  | .brk => ∃ σ' H', Inv X pins σ' H' s' ∧ D.bk σ' H'
  | .cont => ∃ σ' H', Inv X pins σ' H' s' ∧ D.ct σ' H'
  | .ret u => ∃ v σ' H', Inv X pins σ' H' s' ∧ RelV v u ∧ D.rt v H'

def PE (X : Cx) (e : Expr) (t : TE) : Prop :=
  ∀ (pins : List (Addr × Obj)) (s : Shared) (σ : St) (H : Hp) (Q : VK), Inv X pins σ H s → t σ H Q → wpAny (model X.prog X.w) X.A (eval e X.env) (EP X pins σ Q) X.xe s
def PT (X : Cx) (e : Expr) (t : TT) : Prop :=
  ∀ (pins : List (Addr × Obj)) (s : Shared) (σ : St) (H : Hp) (Q : Bool → Hp → Prop), Inv X pins σ H s → t σ H Q → wpAny (model X.prog X.w) X.A (isTrue e X.env (eval e X.env)) (TP X pins σ Q) X.xe s
/-- a test whatever its 'whole' is (and, or) -/
def PW (X : Cx) (e : Expr) (t : TT) : Prop :=
  ∀ (whole : Sem Value) (pins : List (Addr × Obj)) (s : Shared) (σ : St) (H : Hp) (Q : Bool → Hp → Prop), Inv X pins σ H s → t σ H Q → wpAny (model X.prog X.w) X.A (isTrue e X.env whole) (TP X pins σ Q) X.xe s
theorem PW.pt {X : Cx} {e : Expr} {t : TT} (h : PW X e t) : PT X e t := h _
/-- an argument list (no star), from the left -/
def PA (X : Cx) (es : List Expr) (t : TA) : Prop :=
  ∀ (pos : Pos) (pins : List (Addr × Obj)) (s : Shared) (σ : St) (H : Hp) (Q : List V → Hp → Prop), Inv X pins σ H s → t σ H Q → wpAny (model X.prog X.w) X.A (spliced (backTo pos (starEach es X.env))) (AP X pins σ Q) X.xe s
def PS (X : Cx) (st : Stmt) (t : TS) : Prop :=
  ∀ (pins : List (Addr × Obj)) (s : Shared) (σ : St) (H : Hp) (D : Ends), Inv X pins σ H s → t D σ H → wpAny (model X.prog X.w) X.A (exec st X.env) (SP X pins D) X.xe s
def PSs (X : Cx) (st : List Stmt) (t : TS) : Prop :=
  ∀ (pins : List (Addr × Obj)) (s : Shared) (σ : St) (H : Hp) (D : Ends), Inv X pins σ H s → t D σ H → wpAny (model X.prog X.w) X.A (execs st X.env) (SP X pins D) X.xe s
/-- weaken the end -/
theorem thn {α : Type} {t : Sem α} {Q Q' : α → Shared → Prop} {M : Model} {A : Around} {E : Value → Shared → Prop} {s : Shared} (h : wpAny M A t Q E s) (hQ : ∀ a s, Q a s → Q' a s) : wpAny M A t Q' E s := wpAny_mono h hQ fun _ _ x => x
end L2

namespace L2
open PySem PySem.Spec PyProof.Rows
section
variable {X : Cx}

def tVar (i : Nat) : TE := fun σ H Q => ∃ v, σ[i]? = some (some v) ∧ Q v H
def tC (v : V) : TE := fun _ H Q => Q v H
theorem pe_var {i : Nat} {x : Str} {pos : Pos} (hN : X.N[i]? = some x) (hv : Vis X.env.scope x) (hd : (x == ("__debug__" : Str)) = false := by decide) (hcd : (x == ("__classdict__" : Str)) = false := by decide) : PE X (.Name x pos) (tVar i) := by
  intro pins s σ H Q I h
  obtain ⟨v, e, h⟩ := h
  obtain ⟨m, hn, hl⟩ := I.loc
  obtain ⟨u, r, l⟩ := hl i x v hN e hv
  have fin : EP X pins σ Q u s := ⟨v, H, I, r, h⟩
  rcases l with ⟨hk, hm⟩ | ⟨hk, c, hc, hcell⟩
  · exact wpAny_Name (wpAny_loadName_local I.ok.kind hk hn hm fin) hd
  · rcases hk with hk | hk
    · exact wpAny_Name (wpAny_loadName_cell I.ok.kind hk hc hcell fin) hd
    · exact wpAny_Name (wpAny_loadName_free I.ok.kind hk hc hcell fin hcd) hd
theorem pe_int {i j pos} : PE X (.Constant (.int i) j pos) (tC (.int i)) := fun _ _ _ H _ I h => wpAny_Constant_int ⟨.int i, H, I.tok _, ⟨_, rfl⟩, h⟩
theorem pe_bl {b j pos} : PE X (.Constant (.bool b) j pos) (tC (.bl b)) := fun _ _ _ H _ I h => Constant_bool ⟨.bl b, H, I, rfl, h⟩
theorem pe_str {x j pos} : PE X (.Constant (.str x) j pos) (tC (.str x)) := fun _ _ _ H _ I h => Calls.Constant_str ⟨.str x, H, I.tok _, ⟨_, rfl⟩, h⟩

/-- a global name of the def -/
def Gl (X : Cx) (x : Str) : Prop := X.env.kindOf x = some .globalImplicit
theorem ld_glob {E : Value → Shared → Prop} {pins : List (Addr × Obj)} {s : Shared} {σ : St} {H : Hp} {x : Str} {u : Value} {pos : Pos} {Q : Value → Shared → Prop} (I : Inv X pins σ H s) (hg : Gl X x) (hm : X.mg x = some u) (h : Q u s)
    (hd : (x == ("__debug__" : Str)) = false := by decide) : wpAny (model X.prog X.w) X.A (eval (.Name x pos) X.env) Q E s :=
  Calls.Name_function_global I.ok.kind hg (Calls.loadGlobal_global (by rw [I.ok.glob]; exact I.mod.glob.keeps I.bk) hm h) hd
theorem ld_blt {E : Value → Shared → Prop} {pins : List (Addr × Obj)} {s : Shared} {σ : St} {H : Hp} {x : Str} {u : Value} {pos : Pos} {Q : Value → Shared → Prop} (I : Inv X pins σ H s) (hg : Gl X x) (hm : X.mg x = none) (hv : bootBuiltins x = some u) (h : Q u s)
    (hn : x ≠ "__name__" := by decide) (hd : (x == ("__debug__" : Str)) = false := by decide) : wpAny (model X.prog X.w) X.A (eval (.Name x pos) X.env) Q E s := by
  obtain ⟨mb, h1, h2⟩ := I.mod.blt
  exact Calls.Name_function_global I.ok.kind hg (Calls.loadGlobal_builtin (by rw [I.ok.glob]; exact I.mod.glob.keeps I.bk) hm (by rw [I.ok.blt]; exact h1.keeps I.bk) ((h2 x hn).trans hv) h) hd
/-- a module's constant, a class, a function, as a value -/
theorem pe_glob {x : Str} {v : V} {u : Value} {pos : Pos} (hg : Gl X x) (hm : X.mg x = some u) (r : RelV v u) (hd : (x == ("__debug__" : Str)) = false := by decide) : PE X (.Name x pos) (tC v) :=
  fun _ _ _ H _ I h => ld_glob I hg hm ⟨v, H, I, r, h⟩ hd
theorem pe_bltn {x : Str} {v : V} {u : Value} {pos : Pos} (hg : Gl X x) (hm : X.mg x = none) (hv : bootBuiltins x = some u) (r : RelV v u) (hn : x ≠ "__name__" := by decide) (hd : (x == ("__debug__" : Str)) = false := by decide) : PE X (.Name x pos) (tC v) :=
  fun _ _ _ H _ I h => ld_blt I hg hm hv ⟨v, H, I, r, h⟩ hn hd

variable {a b : Expr} {ta tb : TE} {pos : Pos}
/-- a comparison as a value, as a test -/
def tB (t : TE) : TT := fun σ H Q => t σ H fun x H1 => ∃ c, x = .bl c ∧ Q c H1
/-- an expression whose value is a bool, as a test -/
theorem pt_val {e : Expr} {t : TE} (h : PE X e t) (he : ∀ whole, isTrue e X.env whole = (do let v ← whole; standAt e.pos; holding [v] (truthy v)) := by intro _; rfl) : PT X e (tB t) := by
  intro pins s σ H Q I hw
  refine isTrue_plain (thn (h pins s σ H _ I hw) fun v s1 ⟨x, H1, I1, r1, q1⟩ => ?_) (he _)
  obtain ⟨d, rfl, q⟩ := q1
  cases r1
  exact wpAny_truthy_bool ⟨H1, I1, q⟩

variable {tA tB' : TT} {rest : List Expr}
def tOr (t u : TT) : TT := fun σ H Q => t σ H fun c H1 => if c = true then Q true H1 else u σ H1 Q
def tNot (t : TT) : TT := fun σ H Q => t σ H fun c H1 => Q (!c) H1
theorem pw_or1 (ha : PT X a tA) : PW X (.BoolOp .Or [a] pos) tA := by
  intro wh pins s σ H Q I h
  refine isTrue_or (thn (ha pins s σ H Q I h) fun c s1 e => ?_)
  cases c with
  | false => exact isTrue_or_nil e
  | true => exact e
theorem pw_or (ha : PT X a tA) (hb : PW X (.BoolOp .Or (b :: rest) pos) tB') : PW X (.BoolOp .Or (a :: b :: rest) pos) (tOr tA tB') := by
  intro wh pins s σ H Q I h
  refine isTrue_or (thn (ha pins s σ H _ I h) fun c s1 ⟨H1, I1, q1⟩ => ?_)
  cases c with
  | true => exact ⟨H1, I1, q1⟩
  | false => exact hb wh pins s1 σ H1 Q I1 q1
theorem pt_not (ha : PT X a tA) : PT X (.UnaryOp .Not a pos) (tNot tA) := by
  intro pins s σ H Q I h
  exact isTrue_not (ha pins s σ H (fun c H1 => Q (!c) H1) I h)
/-- .. as values (bools) -/
def tAndV (ta tb : TE) : TE := fun σ H Q => ta σ H fun x H1 => ∃ c, x = .bl c ∧ if c = true then tb σ H1 Q else Q (.bl false) H1
def tNotV (ta : TE) : TE := fun σ H Q => ta σ H fun x H1 => ∃ c, x = .bl c ∧ Q (.bl (!c)) H1
theorem pe_one {op} {t : TE} (h : PE X a t) : PE X (.BoolOp op [a] pos) t := fun pins s σ H Q I hw => BoolOp_one (h pins s σ H Q I hw)
theorem pe_and (ha : PE X a ta) (hb : PE X (.BoolOp .And (b :: rest) pos) tb) : PE X (.BoolOp .And (a :: b :: rest) pos) (tAndV ta tb) := by
  intro pins s σ H Q I h
  refine BoolOp_and (thn (ha pins s σ H _ I h) fun v s1 ⟨x, H1, I1, r1, q1⟩ => ?_)
  obtain ⟨c, rfl, q1⟩ := q1
  cases r1
  refine wpAny_truthy_bool ?_
  cases c with
  | true => exact hb pins s1 σ H1 Q I1 q1
  | false => exact ⟨.bl false, H1, I1, rfl, q1⟩
theorem pe_not (ha : PE X a ta) : PE X (.UnaryOp .Not a pos) (tNotV ta) := by
  intro pins s σ H Q I h
  refine UnaryOp_ (thn (ha pins s σ H _ I h) fun v s1 ⟨x, H1, I1, r1, q1⟩ => ?_)
  obtain ⟨c, rfl, q1⟩ := q1
  cases r1
  exact not_of (wpAny_truthy_bool ⟨.bl (!c), H1, I1, rfl, q1⟩)
/-- a if t else b -/
def tIf (t : TT) (ta tb : TE) : TE := fun σ H Q => t σ H fun c H1 => if c = true then ta σ H1 Q else tb σ H1 Q
theorem pe_ifExp {c : Expr} (hc : PT X c tA) (ha : PE X a ta) (hb : PE X b tb) : PE X (.IfExp c a b pos) (tIf tA ta tb) := by
  intro pins s σ H Q I h
  refine wpAny_IfExp (thn (hc pins s σ H _ I h) fun d s1 ⟨H1, I1, q1⟩ => ?_)
  cases d with
  | true => exact ha pins s1 σ H1 Q I1 q1
  | false => exact hb pins s1 σ H1 Q I1 q1
end
end L2

namespace L2
open PySem PySem.Spec PyProof.Rows

def SqL (K : PySem.W.Frag) (H : Hp) (a : Addr) (xs : List V) : Prop :=
  Rd H a (.lst xs) ∨
    ∃ (o : Obj) (its : Array Value) (n : Nat), K.lookup a = some o ∧ o.cls = .type "list" ∧ o.dict = none ∧ o.data = .seq its n ∧ its.size ≤ sizeLine ∧ Vals xs its.toList
def SqT (K : PySem.W.Frag) (H : Hp) (a : Addr) (xs : List V) : Prop :=
  Rd H a (.tup xs) ∨
    ∃ (o : Obj) (its : Array Value) (n : Nat), K.lookup a = some o ∧ o.cls = .type "tuple" ∧ o.data = .seq its n ∧ its.size ≤ sizeLine ∧ Vals xs its.toList
def absV : Value → Option V
  | .none => some .non
  | .bool b => some (.bl b)
  | .int i _ => some (.int i)
  | .str x _ => some (.str x)
  | .bytes b _ => some (.byt b)
  | .float b _ => some (.flt b)
  | .ref a => some (.ref a)
  | .type n => some (.ty n)
  | _ => none
theorem RelV.abs {x : V} {u : Value} (r : RelV x u) : absV u = some x := by
  cases x with
  | non => cases r; rfl
  | bl _ => cases r; rfl
  | int _ => obtain ⟨t, rfl⟩ := r; rfl
  | str _ => obtain ⟨t, rfl⟩ := r; rfl
  | byt _ => obtain ⟨t, rfl⟩ := r; rfl
  | flt _ => obtain ⟨t, rfl⟩ := r; rfl
  | ref _ => cases r; rfl
  | ty _ => cases r; rfl
theorem RelV.inj {x y : V} {u : Value} (r : RelV x u) (q : RelV y u) : x = y := Option.some.inj (r.abs.symm.trans q.abs)
theorem Vals.inj : ∀ {xs ys : List V} {us : List Value}, Vals xs us → Vals ys us → xs = ys
  | _, _, _, .nil, .nil => rfl
  | _, _, _, .cons r t, .cons r' t' => by rw [r.inj r', Vals.inj t t']
section
variable {X : Cx} {pins : List (Addr × Obj)} {σ : St} {H : Hp} {s : Shared} {a : Addr} {xs ys : List V}
theorem SqL.of {K : PySem.W.Frag} (h : H a = some (.lst xs)) : SqL K H a xs := .inl (.inl h)
theorem SqT.of {K : PySem.W.Frag} (h : H a = some (.tup xs)) : SqT K H a xs := .inl (.inl h)
theorem Inv.list (I : Inv X pins σ H s) (h : SqL X.K H a xs) : ∃ its : List Value, Vals xs its ∧ PlainL s.heap a its.toArray ∧ xs.length ≤ sizeLine := by
  rcases h with h | ⟨o, its, n, hk, hc, hd, hs, hz, r⟩
  · obtain ⟨z, its, n, r, e⟩ := h.ok I.hok
    exact ⟨its, r, ⟨_, n, e, rfl, rfl, rfl⟩, z⟩
  · refine ⟨its.toList, r, ⟨o, n, I.kIn a o hk, hc, hd, by simpa using hs⟩, ?_⟩
    have e := r.length
    simp only [Array.length_toList] at e
    omega
theorem Inv.tuple (I : Inv X pins σ H s) (h : SqT X.K H a xs) : ∃ its : List Value, Vals xs its ∧ IsTup s.heap a its.toArray ∧ xs.length ≤ sizeLine := by
  rcases h with h | ⟨o, its, n, hk, hc, hs, hz, r⟩
  · obtain ⟨z, its, r, p⟩ := h.ok I.hok
    exact ⟨its, r, p, z⟩
  · refine ⟨its.toList, r, ⟨o, I.kIn a o hk, hc, n, by simpa using hs⟩, ?_⟩
    have e := r.length
    simp only [Array.length_toList] at e
    omega
theorem Inv.list_inj (I : Inv X pins σ H s) (h : SqL X.K H a xs) (h' : SqL X.K H a ys) : xs = ys := by
  obtain ⟨its, r, ⟨o, n, e, _, _, d⟩, _⟩ := I.list h
  obtain ⟨its', r', ⟨o', n', e', _, _, d'⟩, _⟩ := I.list h'
  rw [e] at e'; cases e'
  rw [d] at d'
  injection d' with d1 _
  have : its = its' := by simpa using congrArg Array.toList d1
  subst this
  exact r.inj r'
end

abbrev Cx.wish (X : Cx) (E : Value → Shared → Prop) : Cx := { X with xe := E }
/-- no exception leaves -/
abbrev Cx.nox (X : Cx) : Cx := X.wish fun _ _ => False
theorem Cx.Ok.wish {X : Cx} (ok : X.Ok) (E : Value → Shared → Prop) : (X.wish E).Ok :=
  ⟨ok.mod, ok.kind, ok.glob, ok.blt, ok.above, ok.inj, ok.has, ok.cab, ok.hd, ok.frames, ok.stk, ok.exf, ok.bs, ok.bsz, ok.noex, ok.exfs, ok.funs, ok.frf⟩
theorem Cx.Ok.unwish {X : Cx} {E : Value → Shared → Prop} (ok : (X.wish E).Ok) : X.Ok :=
  ⟨ok.mod, ok.kind, ok.glob, ok.blt, ok.above, ok.inj, ok.has, ok.cab, ok.hd, ok.frames, ok.stk, ok.exf, ok.bs, ok.bsz, ok.noex, ok.exfs, ok.funs, ok.frf⟩
section
variable {X : Cx} {pins : List (Addr × Obj)} {σ : St} {H : Hp} {s : Shared} {E : Value → Shared → Prop}
theorem Inv.wish (I : Inv X pins σ H s) (E : Value → Shared → Prop) : Inv (X.wish E) pins σ H s := ⟨I.ok.wish E, I.os, I.bare, I.base, I.loc, I.cell, I.free, I.freeC, I.pin, I.hok, I.len⟩
theorem Inv.unwish (I : Inv (X.wish E) pins σ H s) : Inv X pins σ H s := ⟨I.ok.unwish, I.os, I.bare, I.base, I.loc, I.cell, I.free, I.freeC, I.pin, I.hok, I.len⟩
theorem SP.unwish {D : Ends} {f : Flow} {s' : Shared} (h : SP (X.wish E) pins D f s') : SP X pins D f s' := by
  cases f with
  | next => obtain ⟨σ', H', I, q⟩ := h; exact ⟨σ', H', I.unwish, q⟩
  | brk => obtain ⟨σ', H', I, q⟩ := h; exact ⟨σ', H', I.unwish, q⟩
  | cont => obtain ⟨σ', H', I, q⟩ := h; exact ⟨σ', H', I.unwish, q⟩
  | ret u => obtain ⟨v, σ', H', I, r, q⟩ := h; exact ⟨v, σ', H', I.unwish, r, q⟩
theorem PSs.nox {st : List Stmt} {t : TS} (h : PSs X.nox st t) : PSs X st t := fun pins s σ H D I hw =>
  wpAny_mono (h pins s σ H D (I.wish _) hw) (fun _ _ q => q.unwish) fun _ _ z => False.elim z
end

section
variable {X : Cx} {st : Stmt} {rest : List Stmt} {t u : TS} {e : Expr} {te : TE} {pos : Pos}
def tNext : TS := fun D σ H => D.nx σ H
def tSeq (t u : TS) : TS := fun D σ H => t { D with nx := u D } σ H
theorem pss_nil : PSs X [] tNext := fun _ _ σ H _ I h => wpAny_execs_nil ⟨σ, H, I, h⟩
theorem pss_cons (h1 : PS X st t) (h2 : PSs X rest u) : PSs X (st :: rest) (tSeq t u) := by
  intro pins s σ H D I h
  refine wpAny_execs_cons (thn (h1 pins s σ H { D with nx := u D } I h) fun f s1 q => ?_)
  cases f with
  | next =>
    obtain ⟨σ', H', I', q⟩ := q
    exact h2 pins s1 σ' H' D I' q
  | ret v => exact q
  | brk => exact q
  | cont => exact q
theorem pss_one (h1 : PS X st t) : PSs X [st] t := by
  intro pins s σ H D I h
  refine wpAny_execs_cons (thn (h1 pins s σ H D I h) fun f s1 q => ?_)
  cases f with
  | next => exact wpAny_execs_nil q
  | ret v => exact q
  | brk => exact q
  | cont => exact q
def tCont : TS := fun D σ H => D.ct σ H
theorem ps_continue : PS X (.Continue pos) tCont := fun _ _ σ H _ I h => wpAny_Continue ⟨σ, H, I, h⟩
/-- in a def's body nothing is shown -/
theorem Inv.quiet {pins : List (Addr × Obj)} {σ : St} {H : Hp} {s : Shared} (I : Inv X pins σ H s) : interactive X.env = false := by simp [interactive, I.ok.kind]
/-- an expression whose value is dropped -/
def tDrop (te : TE) : TS := fun D σ H => te σ H fun _ H1 => D.nx σ H1
theorem ps_expr (he : PE X e te) (hs : swapsWith e none pos.line X.env = pure false := by rfl) : PS X (.Expr e pos) (tDrop te) := by
  intro pins s σ H D I h
  exact wpAny_Expr_any (thn (he pins s σ H _ I h) fun v s1 ⟨x, H1, I1, r1, q1⟩ => ⟨σ, H1, I1, q1⟩) I.quiet hs
def tRet (te : TE) : TS := fun D σ H => te σ H D.rt
theorem ps_ret (he : PE X e te) : PS X (.Return (some e) pos) (tRet te) := by
  intro pins s σ H D I h
  exact wpAny_Return_some (thn (he pins s σ H _ I h) fun v s1 ⟨x, H1, I1, r1, q1⟩ => ⟨x, σ, H1, I1, r1, q1⟩)
def tIfS (c : TT) (t u : TS) : TS := fun D σ H => c σ H fun b H1 => if b = true then t D σ H1 else u D σ H1
theorem ps_if {c : Expr} {a b : List Stmt} {tc : TT} (hc : PT X c tc) (ha : PSs X a t) (hb : PSs X b u) : PS X (.If c a b pos) (tIfS tc t u) := by
  intro pins s σ H D I h
  refine wpAny_If (thn (hc pins s σ H _ I h) fun d s1 ⟨H1, I1, q1⟩ => ?_)
  cases d with
  | true => exact ha pins s1 σ H1 D I1 q1
  | false => exact hb pins s1 σ H1 D I1 q1
/-- code that the proof never comes to -/
def tNever : TS := fun _ _ _ => False
theorem ps_never : PS X st tNever := fun _ _ _ _ _ _ h => h.elim
end

abbrev TG := V → St → Hp → (St → Hp → Prop) → Prop
abbrev TGs := List V → St → Hp → (St → Hp → Prop) → Prop
def PG (X : Cx) (target : Expr) (t : TG) : Prop :=
  ∀ (pins : List (Addr × Obj)) (s : Shared) (σ : St) (H : Hp) (v : V) (u : Value) (Q : St → Hp → Prop), Inv X pins σ H s → RelV v u → t v σ H Q →
    wpAny (model X.prog X.w) X.A (assign target X.env u) (fun _ s' => ∃ σ' H', Inv X pins σ' H' s' ∧ Q σ' H') X.xe s
/-- several targets, one after another -/
def PGs (X : Cx) (ts : List Expr) (t : TGs) : Prop :=
  ∀ (pins : List (Addr × Obj)) (s : Shared) (σ : St) (H : Hp) (vs : List V) (us : List Value) (Q : St → Hp → Prop), Inv X pins σ H s → Vals vs us → t vs σ H Q →
    wpAny (model X.prog X.w) X.A (assignInOrder ((assignEach ts X.env).map (·.2)) us) (fun _ s' => ∃ σ' H', Inv X pins σ' H' s' ∧ Q σ' H') X.xe s
/-- o[i] = v, by values -/
abbrev TSet := V → V → V → Hp → (Hp → Prop) → Prop
def PSet (X : Cx) (t : TSet) : Prop :=
  ∀ (pins : List (Addr × Obj)) (s : Shared) (σ : St) (H : Hp) (o i v : V) (ov iv u : Value) (Q : Hp → Prop), Inv X pins σ H s → RelV o ov → RelV i iv → RelV v u → t o i v H Q →
    wpAny (model X.prog X.w) X.A (setItem ov iv u) (fun _ s' => ∃ H', Inv X pins σ H' s' ∧ Q H') X.xe s
section
variable {X : Cx} {pos : Pos}
def gName (i : Nat) : TG := fun v σ H Q => Q (σ.set i (some v)) H
theorem pg_name {i : Nat} {x : Str} (hN : X.N.Nodup) (hi : X.N[i]? = some x) (hx : Loc X.env.scope x) (hf : X.fn x = true ∨ X.env.scope.names.lookup x = some .local := by first | exact .inl rfl | exact .inr rfl | assumption) : PG X (.Name x pos) (gName i) := by
  intro pins s σ H v u Q I r h
  exact wpAny_assign_Name (store_ok I hN hi hx r (fun s' I' => ⟨_, H, I', h⟩) hf)
def gNil : TGs := fun vs σ H Q => vs = [] ∧ Q σ H
def gCons (t : TG) (u : TGs) : TGs := fun vs σ H Q => ∃ v r, vs = v :: r ∧ t v σ H fun σ' H' => u r σ' H' Q
theorem pgs_nil : PGs X [] gNil := by
  intro pins s σ H vs us Q I r h
  obtain ⟨e, h⟩ := h
  subst e
  cases r
  exact assignInOrder_nil ⟨σ, H, I, h⟩
theorem pgs_cons {e : Expr} {es : List Expr} {t : TG} {u : TGs} (h1 : PG X e t) (h2 : PGs X es u)
    (hs : (assignEach (e :: es) X.env).map (·.2) = assign e X.env :: (assignEach es X.env).map (·.2) := by rfl) : PGs X (e :: es) (gCons t u) := by
  intro pins s σ H vs us Q I r h
  obtain ⟨v, vr, e1, h⟩ := h
  subst e1
  cases r with
  | cons r rr =>
    rw [hs]
    refine assignInOrder_cons (thn (h1 pins s σ H _ _ _ I r h) fun _ s1 ⟨σ1, H1, I1, q1⟩ => ?_)
    exact h2 pins s1 σ1 H1 _ _ Q I1 rr q1
/-- (a, b, ..) = a tuple of that length -/
def gTup (K : PySem.W.Frag) (n : Nat) (t : TGs) : TG := fun v σ H Q => ∃ a xs, v = .ref a ∧ SqT K H a xs ∧ xs.length = n ∧ t xs σ H Q
theorem pg_tup {es : List Expr} {k : Nat} {t : TGs} {n : Nat} (hc : X.calm = true) (h : PGs X es t)
    (hn : (assignEach es X.env).length = n := by rfl) (hst : (assignEach es X.env).findIdx? (·.1) = none := by rfl) : PG X (.Tuple es k pos) (gTup X.K n t) := by
  intro pins s σ H v u Q I r hw
  obtain ⟨a, xs, e1, hq, hl, hw⟩ := hw
  subst e1
  cases r
  obtain ⟨its, rv, ht, hz⟩ := I.tuple hq
  refine assign_Tuple_tuple (I.ok.hd hc) ht (by simp [hn, ← hl, rv.length]) hst fun h' hx => ?_
  have I1 : Inv X pins σ H { s with heap := h' } := I.kept (t' := s.toks) fun b o e => hx b o (Nat.ne_of_lt (Heap.lt_size e)) e
  exact h pins _ σ H xs _ Q I1 (by simpa using rv) hw
/-- o[i] = .. -/
def gSub (to ti : TE) (t : TSet) : TG := fun v σ H Q => to σ H fun o H1 => ti σ H1 fun i H2 => t o i v H2 fun H3 => Q σ H3
theorem pg_sub {o i : Expr} {to ti : TE} {t : TSet} (ho : PE X o to) (hi : PE X i ti) (hs : PSet X t)
    (ha : ∀ v, assign (.Subscript o i pos) X.env v = (do
      let ov ← holding [v] (eval o X.env)
      let iv ← holding [v, ov] (eval i X.env)
      standAt pos
      holding [v, ov, iv] (setItem ov iv v)
      release [v, ov, iv] []) := by intro _; rfl) : PG X (.Subscript o i pos) (gSub to ti t) := by
  intro pins s σ H v u Q I r h
  rw [ha]
  refine wpAny_bind (wpAny_holding (thn (ho pins s σ H _ I h) fun ov s1 ⟨x, H1, I1, r1, q1⟩ => ?_))
  refine wpAny_bind (wpAny_holding (thn (hi pins s1 σ H1 _ I1 q1) fun iv s2 ⟨y, H2, I2, r2, q2⟩ => ?_))
  refine wpAny_bind (wpAny_standAt (wpAny_bind (wpAny_holding (thn (hs pins s2 σ H2 x y v ov iv u _ I2 r1 r2 r q2) fun _ s3 ⟨H3, I3, q3⟩ => ?_))))
  exact wpAny_release ⟨σ, H3, I3, q3⟩
/-- target = value -/
def tAsg (te : TE) (g : TG) : TS := fun D σ H => te σ H fun x H1 => g x σ H1 D.nx
theorem ps_asg {tg e : Expr} {te : TE} {g : TG} (he : PE X e te) (hg : PG X tg g) (hs : swapsWithSole [tg] e pos.line X.env = pure false := by rfl) (hw : swappedStores [tg] e X.env = pure none := by rfl)
    (h1 : (assignEach [tg] X.env).map (·.2) = [assign tg X.env] := by rfl) : PS X (.Assign [tg] e pos) (tAsg te g) := by
  intro pins s σ H D I h
  refine wpAny_Assign_stores (thn (he pins s σ H _ I h) fun v s1 ⟨x, H1, I1, r1, q1⟩ => ?_) hs hw
  rw [h1]
  exact thn (hg pins s1 σ H1 x v _ I1 r1 q1) fun _ s2 q => q
/-- name = value -/
theorem ps_set {i : Nat} {x : Str} {e : Expr} {te : TE} {pos' : Pos} (hN : X.N.Nodup) (hi : X.N[i]? = some x) (hx : Loc X.env.scope x) (he : PE X e te) (hs : swapsWith e (some (.Name x pos')) pos.line X.env = pure false := by rfl) (hf : X.fn x = true ∨ X.env.scope.names.lookup x = some .local := by first | exact .inl rfl | exact .inr rfl | assumption) :
    PS X (.Assign [.Name x pos'] e pos) (tAsg te (gName i)) := by
  intro pins s σ H D I h
  refine wpAny_Assign_Name (thn (he pins s σ H _ I h) fun v s1 ⟨y, H1, I1, r1, q1⟩ => ?_) hs
  exact store_ok I1 hN hi hx r1 (fun s2 I2 => ⟨_, H1, I2, q1⟩) hf
end

section
variable {X : Cx} {pos : Pos}
end

/-- at turn i: it yields x (the heap may grow), or it stops -/
structure It where
  go : Nat → Hp → Prop
  yld : Nat → Hp → V → Hp → Prop
  stop : Nat → Hp → Prop
/-- the iterator's own objects may turn: they are not the frame's, not pinned, younger than the entry (or a comprehension's own) -/
def FpOk (X : Cx) (pins : List (Addr × Obj)) (H : Hp) (b : Addr) : Prop :=
  H b = none ∧ b ≠ X.env.locals ∧ b ∉ X.fs ∧ (b ∈ X.ex ∨ X.s₀.heap.objs.size ≤ b) ∧ (∀ x c, X.env.cells.lookup x = some c → c ≠ b) ∧ ∀ p ∈ X.pn ++ pins, p.1 ≠ b
theorem Inv.fpOk {X : Cx} {pins : List (Addr × Obj)} {σ : St} {H H' : Hp} {s : Shared} {b : Addr} (I : Inv X pins σ H s) (hb : s.heap.objs.size ≤ b) (hn : H' b = none) : FpOk X pins H' b := by
  refine ⟨hn, Nat.ne_of_gt (Nat.lt_of_lt_of_le I.lt hb), I.nofs hb, .inr (Nat.le_trans I.sz hb), fun x c e z => ?_, fun p hp z => ?_⟩
  · obtain ⟨v, q⟩ := I.cell x c e
    exact absurd (Nat.lt_of_lt_of_le q.lt (by rw [z]; exact hb)) (Nat.lt_irrefl _)
  · exact absurd (Nat.lt_of_lt_of_le (Heap.lt_size (I.pin p hp).1) (by rw [z]; exact hb)) (Nat.lt_irrefl _)
structure Turn (P : Program) (w : World) (K : PySem.W.Frag) (tg : Expr) (J : It) (fp : List Addr) (it : Addr) (tn : Nat → Heap → Prop) : Prop where
  mem : it ∈ fp
  obj : ∀ i h, tn i h → ∀ b ∈ fp, ∃ o, h.get? b = some o ∧ ∀ v, o.data ≠ .cell v
  keep : ∀ i h h', tn i h → (∀ b ∈ fp, ∀ o, h.get? b = some o → h'.get? b = some o) → tn i h'
  item : ∀ (X : Cx), X.prog = P → X.w = w → X.K = K → X.calm = true → ∀ (i : Nat) (pins : List (Addr × Obj)) (s : Shared) (σ : St) (H : Hp) (E : Value → Shared → Prop), Inv X pins σ H s → (∀ b ∈ fp, FpOk X pins H b) → tn i s.heap → J.go i H →
    wpAny (model P w) X.A (pyNext (.ref it)) (fun r s1 => ∃ u, r = some u ∧
      wpAny (model P w) X.A (letOwnedTupleGo tg (.ref it) u) (fun _ s2 => ∃ x H', Inv X pins σ H' s2 ∧ RelV x u ∧ J.yld i H x H' ∧ tn (i + 1) s2.heap ∧ ∀ b ∈ fp, H' b = none) E s1) E s
  done : ∀ (X : Cx), X.prog = P → X.w = w → X.K = K → X.calm = true → ∀ (i : Nat) (pins : List (Addr × Obj)) (s : Shared) (σ : St) (H : Hp) (E : Value → Shared → Prop), Inv X pins σ H s → (∀ b ∈ fp, FpOk X pins H b) → tn i s.heap → J.stop i H →
    wpAny (model P w) X.A (pyNext (.ref it)) (fun r s1 => r = none ∧ Inv X pins σ H s1) E s
  self : ∀ (A : Around) (i : Nat) (s : Shared) (Q : Value → Shared → Prop) (E : Value → Shared → Prop), tn i s.heap → Q (.ref it) s → wpAny (model P w) A (pyIter (.ref it)) Q E s
abbrev TI := St → Hp → (It → Hp → Prop) → Prop
/-- an iterator has come -/
def PIE (X : Cx) (pins : List (Addr × Obj)) (σ : St) (tg : Expr) (R : It → Hp → Prop) (itv : Value) (s2 : Shared) : Prop :=
  ∃ (it : Addr) (fp : List Addr) (tn : Nat → Heap → Prop) (J : It) (H' : Hp), itv = .ref it ∧ Inv X pins σ H' s2 ∧ Turn X.prog X.w X.K tg J fp it tn ∧ tn 0 s2.heap ∧ (∀ b ∈ fp, FpOk X pins H' b) ∧ R J H'
def PI (X : Cx) (tg iter : Expr) (wi : TI) : Prop :=
  ∀ (pins : List (Addr × Obj)) (s : Shared) (σ : St) (H : Hp) (R : It → Hp → Prop), Inv X pins σ H s → wi σ H R →
    wpAny (model X.prog X.w) X.A (eval iter X.env) (fun v s1 => wpAny (model X.prog X.w) X.A (pyIter v) (PIE X pins σ tg R) X.xe s1) X.xe s

/-- the step ahead of the store is nothing for an iterator that keeps no tuple -/
theorem go_of {M : Model} {A : Around} {E : Value → Shared → Prop} {s : Shared} {tg : Expr} {it : Addr} {u : Value} {o : Obj} {n : String} {vs : Array Value} {Q : Unit → Shared → Prop} (ho : s.heap.get? it = some o) (hc : o.cls = .type n) (hd : o.data = .fields vs)
    (hn : ["enumerate", "zip", "dict_itemiterator", "dict_reverseitemiterator", "odict_iterator", "itertools.zip_longest", "itertools.pairwise"].contains n = false) (hQ : Q () s) : wpAny M A (letOwnedTupleGo tg (.ref it) u) Q E s := by
  unfold letOwnedTupleGo
  cases tg <;> first
    | exact wpAny_pure hQ
    | (cases u <;> first
        | exact wpAny_pure hQ
        | (refine wpAny_bind (wpAny_load ho ?_)
           rw [hc, hd]
           show wpAny M A (if (["enumerate", "zip", "dict_itemiterator", "dict_reverseitemiterator", "odict_iterator", "itertools.zip_longest", "itertools.pairwise"].contains n && vs[0]? == some (rawInt _)) = true then _ else _) Q E s
           rw [if_neg (by intro h; rw [hn, Bool.false_and] at h; cases h)]
           exact wpAny_pure hQ))

/-- the list at a, as it stands at each turn (a loop may append to it) -/
def Itl (K : PySem.W.Frag) (a : Addr) : It :=
  ⟨fun i H => ∃ xs x, SqL K H a xs ∧ xs[i]? = some x, fun i H x H' => H' = H ∧ ∀ xs, SqL K H a xs → xs[i]? = some x, fun i H => ∃ xs, SqL K H a xs ∧ xs.length ≤ i⟩
/-- lo, lo + 1, .. (n of them) -/
def Itr (lo : Int) (n : Nat) : It := ⟨fun i _ => i < n, fun i H x H' => H' = H ∧ x = .int (lo + i), fun i _ => n ≤ i⟩
theorem turn_list {P : Program} {w : World} {K : PySem.W.Frag} {tg : Expr} (a it : Addr) : Turn P w K tg (Itl K a) [it] it (fun i h => h.IsListIter it a i) where
  mem := by simp
  obj := fun i h st b hb => by
    have e : b = it := by simpa using hb
    subst e
    obtain ⟨o, e, c, d⟩ := st
    exact ⟨o, e, fun v z => by rw [d] at z; cases z⟩
  keep := fun i h h' st k => st.at fun o e => k it (by simp) o e
  item := by
    intro X hP hw hK hc i pins s σ H E I hf st hg
    subst hP hw hK
    obtain ⟨xs, x, hq, hx⟩ := hg
    obtain ⟨its, rv, p, hz⟩ := I.list hq
    obtain ⟨u, hu, ru⟩ := rv.get hx
    obtain ⟨f0, f1, f2, f3, f4, f5⟩ := hf it (by simp)
    refine wpAny_pyNext_list_item st p.isList (x := u) (by simpa using hu) fun h' st' sb => ?_
    have I1 : Inv X pins σ H { s with heap := h' } := I.turned (t' := s.toks) (fun b o hb e => (sb.2 b hb).trans e) f0 f1 f3 f4 f5
    obtain ⟨o, e, c, d⟩ := id st'
    exact ⟨u, rfl, go_of (s := { s with heap := h' }) e c d (by decide) ⟨x, H, I1, ru, ⟨rfl, fun ys hy => by rw [I.list_inj hy hq]; exact hx⟩, st', fun b hb => (hf b hb).1⟩⟩
  done := by
    intro X hP hw hK hc i pins s σ H E I hf st hg
    subst hP hw hK
    obtain ⟨xs, hq, hx⟩ := hg
    obtain ⟨its, rv, p, hz⟩ := I.list hq
    obtain ⟨f0, f1, f2, f3, f4, f5⟩ := hf it (by simp)
    have hl := rv.length
    exact wpAny_pyNext_list_end (I.ok.hd hc) st p.isList (by simp; omega) fun h' eb => ⟨rfl, I.turned (t' := s.toks) (fun b o hb e => eb b o hb e) f0 f1 f3 f4 f5⟩
  self := fun _ _ _ _ _ st h => wpAny_pyIter_listiter st h
theorem turn_range {P : Program} {w : World} {K : PySem.W.Frag} {tg : Expr} (it : Addr) (lo : Int) (n : Nat) : Turn P w K tg (Itr lo n) [it] it (fun i h => IsRangeIter h it (lo + (i : Nat) * 1) ((n : Int) - (i : Nat)) 1) where
  mem := by simp
  obj := fun i h st b hb => by
    have e : b = it := by simpa using hb
    subst e
    exact ⟨_, st, fun v z => by
      have z' : Data.fields _ = Data.cell v := z
      cases z'⟩
  keep := fun i h h' st k => k it (by simp) _ st
  item := by
    intro X hP hw hK hc i pins s σ H E I hf st hg
    subst hP hw hK
    obtain ⟨f0, f1, f2, f3, f4, f5⟩ := hf it (by simp)
    have W := Walks.range (prog := X.prog) (w := X.w) (I.ok.hd hc) it lo 1 n
    refine W.item i s _ _ hg st fun v h' tk hv st' kk => ?_
    obtain ⟨t, rfl⟩ := hv
    have I1 : Inv X pins σ H { s with heap := h', toks := tk } := I.turned (fun b o hb e => kk b o (by simpa using hb) e) f0 f1 f3 f4 f5
    refine ⟨_, rfl, go_of (s := { s with heap := h', toks := tk }) (n := "range_iterator") st' rfl rfl (by decide) ⟨.int (lo + i), H, I1, ⟨t, ?_⟩, ⟨rfl, rfl⟩, st', fun b hb => (hf b hb).1⟩⟩
    rw [Int.mul_one]
  done := by
    intro X hP hw hK hc i pins s σ H E I hf st hg
    subst hP hw hK
    obtain ⟨f0, f1, f2, f3, f4, f5⟩ := hf it (by simp)
    exact wpAny_pyNext_range_end (I.ok.hd hc) st (by have : n ≤ i := hg; omega) fun h' eb => ⟨rfl, I.turned (t' := s.toks) (fun b o hb e => eb b o hb e) f0 f1 f3 f4 f5⟩
  self := fun _ _ _ _ _ st h => wpAny_pyIter_rangeiter st h
end L2

namespace L2
open PySem PySem.Spec PyProof.Rows
section
variable {X : Cx} {tg : Expr}
def iList (K : PySem.W.Frag) (tl : TE) : TI := fun σ H R => tl σ H fun x H1 => ∃ a, x = .ref a ∧ (∃ xs, SqL K H1 a xs) ∧ R (Itl K a) H1
theorem pi_list {l : Expr} {tl : TE} (hl : PE X l tl) : PI X tg l (iList X.K tl) := by
  intro pins s σ H R I h
  refine thn (hl pins s σ H _ I h) fun v s1 ⟨x, H1, I1, r1, q1⟩ => ?_
  obtain ⟨a, e, ⟨xs, hq⟩, q⟩ := q1
  subst e
  cases r1
  obtain ⟨its, rv, p, hz⟩ := I1.list hq
  refine wpAny_pyIter_list p.isList ?_
  refine ⟨s1.heap.objs.size, [s1.heap.objs.size], _, _, H1, rfl, I1.kept (t' := s1.toks) fun b o e => Heap.get?_push_of_some _ e, turn_list a _, ⟨_, Heap.get?_push_size _ rfl, rfl, rfl⟩, fun b hb => ?_, q⟩
  have e : b = s1.heap.objs.size := by simpa using hb
  subst e
  exact I1.fpOk (Nat.le_refl _) (I1.hok.fresh (Nat.le_refl _))
/-- a range object just made, walked -/
theorem range_it {pins : List (Addr × Obj)} {σ : St} {H : Hp} {s : Shared} {R : It → Hp → Prop} {E : Value → Shared → Prop} {lo hi : Int} {t u v : Tok} {tk : Nat} (I : Inv X pins σ H s) (h1 : -(2 ^ 62) ≤ lo) (h2 : lo < 2 ^ 62) (h3 : -(2 ^ 62) ≤ hi) (h4 : hi < 2 ^ 62)
    (q : R (Itr lo (hi - lo).toNat) H) : wpAny (model X.prog X.w) X.A (pyIter (.ref s.heap.objs.size)) (PIE X pins σ tg R) E { s with heap := s.heap.push { cls := .type "range", data := .fields #[.int lo t, .int hi u, .int 1 v] }, toks := tk } := by
  refine wpAny_pyIter_range (IsRange.new ..) (small_one h1 h2 h3 h4) ?_
  have I1 : Inv X pins σ H { s with heap := s.heap.push { cls := .type "range", data := .fields #[.int lo t, .int hi u, .int 1 v] }, toks := tk } := I.kept fun b o e => Heap.get?_push_of_some _ e
  refine ⟨(s.heap.push { cls := .type "range", data := .fields #[.int lo t, .int hi u, .int 1 v] }).objs.size, [(s.heap.push { cls := .type "range", data := .fields #[.int lo t, .int hi u, .int 1 v] }).objs.size], _, _, H, rfl,
    I1.kept (t' := tk) fun b o e => Heap.get?_push_of_some _ e, turn_range _ lo (hi - lo).toNat, ?_, fun b hb => ?_, q⟩
  · have e1 : lo + ((0 : Nat) : Int) * 1 = lo := by simp
    have e2 : (((hi - lo).toNat : Nat) : Int) - ((0 : Nat) : Int) = Builtin.Range.rangeSize lo hi 1 := by rw [rangeSize_one]; split <;> omega
    show IsRangeIter _ _ (lo + ((0 : Nat) : Int) * 1) ((((hi - lo).toNat : Nat) : Int) - ((0 : Nat) : Int)) 1
    rw [e1, e2]
    exact Heap.get?_push_size _ rfl
  · have e : b = (s.heap.push { cls := .type "range", data := .fields #[.int lo t, .int hi u, .int 1 v] }).objs.size := by simpa using hb
    subst e
    exact I1.fpOk (Nat.le_refl _) (I1.hok.fresh (Nat.le_refl _))
def iRng1 (ta : TA) : TI := fun σ H R => ta σ H fun vs H1 => ∃ j : Int, vs = [.int j] ∧ -(2 ^ 62) ≤ j ∧ j < 2 ^ 62 ∧ R (Itr 0 j.toNat) H1
theorem pi_range1 {a : Expr} {ta : TA} {p pos : Pos} (hg : Gl X "range") (hm : X.mg "range" = none) (ha : PA X [a] ta) (hs : starEach [a] X.env = [(false, eval a X.env)] := by rfl) : PI X tg (.Call (.Name "range" p) [a] [] pos) (iRng1 ta) := by
  intro pins s σ H R I h
  refine Call_ (ld_blt I hg hm boot_range (PyProof.Rows.callWith_type1 (thn (ha pos pins s σ H _ I h) fun us s1 ⟨vs, H1, I1, r1, q1⟩ => ?_) hs rfl))
  obtain ⟨j, e, q1, q2, q⟩ := q1
  subst e
  cases r1 with
  | cons r rr =>
    cases rr
    obtain ⟨t, rfl⟩ := r
    exact call_range_1 (range_it I1 (by omega) (by omega) q1 q2 (by simpa using q))
/-- W: the invariant by the turn and a measure; N: what the body is to reach -/
def tFor (wi : TI) (g : TG) (tb : TS) : TS := fun D σ H => wi σ H fun J H1 => ∃ W : Nat → Nat → St → Hp → Prop, (∃ m, W 0 m σ H1) ∧ ∀ i m σ H, W i m σ H →
  (J.stop i H ∧ D.nx σ H) ∨ (J.go i H ∧ ∃ N : St → Hp → Prop, (∀ σ' H', N σ' H' → ∃ m', m' < m ∧ W (i + 1) m' σ' H') ∧ ∀ x H', J.yld i H x H' → g x σ H' fun σ2 H2 => tb { D with nx := N, ct := N, bk := D.nx } σ2 H2)
/-- the records at fp as they stand -/
def pinsAt (fp : List Addr) (h : Heap) : List (Addr × Obj) := fp.filterMap fun b => (h.get? b).map fun o => (b, o)
theorem mem_pinsAt {fp : List Addr} {h : Heap} {b : Addr} {o : Obj} (hb : b ∈ fp) (e : h.get? b = some o) : (b, o) ∈ pinsAt fp h := List.mem_filterMap.mpr ⟨b, hb, by rw [e]; rfl⟩
theorem of_pinsAt {fp : List Addr} {h : Heap} {p : Addr × Obj} (hp : p ∈ pinsAt fp h) : p.1 ∈ fp ∧ h.get? p.1 = some p.2 := by
  obtain ⟨b, hb, e⟩ := List.mem_filterMap.mp hp
  cases q : h.get? b with
  | none => rw [q] at e; cases e
  | some o =>
    rw [q] at e
    have e' : (b, o) = p := Option.some.inj e
    subst e'
    exact ⟨hb, q⟩
theorem Inv.pinned {pins : List (Addr × Obj)} {σ : St} {H : Hp} {s : Shared} {fp : List Addr} (I : Inv X pins σ H s) (hf : ∀ b ∈ fp, FpOk X pins H b) (ho : ∀ b ∈ fp, ∃ o, s.heap.get? b = some o ∧ ∀ v, o.data ≠ .cell v) : Inv X (pins ++ pinsAt fp s.heap) σ H s :=
  I.pins_of fun p hp => (List.mem_append.mp hp).elim (fun z => I.pin p (List.mem_append_right _ z)) fun z => by
    obtain ⟨hb, e⟩ := of_pinsAt z
    obtain ⟨f0, f1, f2, _⟩ := hf p.1 hb
    obtain ⟨o, e', d⟩ := ho p.1 hb
    rw [e] at e'; cases e'
    exact ⟨e, f0, f1, f2, d⟩
theorem Inv.unpinned {pins pl : List (Addr × Obj)} {σ : St} {H : Hp} {s : Shared} (I : Inv X (pins ++ pl) σ H s) : Inv X pins σ H s := I.pins_of fun p hp => I.pin p (List.mem_append_right _ (List.mem_append_left _ hp))
theorem ps_for {iter : Expr} {body : List Stmt} {wi : TI} {g : TG} {tb : TS} {pos : Pos} (hp : PassesOwn (model X.prog X.w) X.A X.env X.xe) (hc : X.calm = true) (hi : PI X tg iter wi) (hg : PG X tg g) (hb : PSs X body tb)
    (hs : ∀ x, foldedSetIterable iter X.env x = pure x := by intro _; rfl) : PS X (.For tg iter body [] pos) (tFor wi g tb) := by
  intro pins s σ H D I h
  refine wpAny_For (thn (hi pins s σ H _ I h) fun v s1 h1 => thn h1 fun itv s2 h2 => ?_) hs
  obtain ⟨it, fp, tn, J, H2, e, I2, T, st2, f2, W, ⟨m0, w0⟩, turn⟩ := h2
  subst e
  -- what stays true of the iterator's objects through the loop
  have stat : ∀ {H' : Hp}, (∀ b ∈ fp, H' b = none) → ∀ b ∈ fp, FpOk X pins H' b := fun hn b hb => ⟨hn b hb, (f2 b hb).2⟩
  refine codeAny_forLoop_any (fun n s' => ∃ i σ' H', Inv X pins σ' H' s' ∧ tn i s'.heap ∧ (∀ b ∈ fp, H' b = none) ∧ W i n σ' H') ?_ m0 ⟨0, σ, H2, I2, st2, fun b hb => (f2 b hb).1, w0⟩
  rintro n s3 ⟨i, σ3, H3, I3, st3, fr3, w3⟩
  rcases turn i n σ3 H3 w3 with ⟨stop, qn⟩ | ⟨go, N, hN, step⟩
  · refine wpAny_passesOwn hp (thn (T.done X rfl rfl rfl hc i pins s3 σ3 H3 X.xe I3 (stat fr3) st3 stop) fun r s4 ⟨hr, I4⟩ => ?_)
    subst hr
    exact wpAny_execs_nil ⟨σ3, H3, I4, qn⟩
  · refine wpAny_passesOwn hp (thn (T.item X rfl rfl rfl hc i pins s3 σ3 H3 X.xe I3 (stat fr3) st3 go) fun r s4 ⟨u, hr, h4⟩ => ?_)
    subst hr
    refine wpAny_passesOwn hp (thn h4 fun _ s5 ⟨x, H5, I5, r5, y5, st5, fr5⟩ => ?_)
    have I5' := I5.pinned (stat fr5) (T.obj _ _ st5)
    refine wpAny_passesOwn hp (thn (hg _ s5 σ3 H5 x u _ I5' r5 (step x H5 y5)) fun _ s6 ⟨σ6, H6, I6, q6⟩ => ?_)
    refine wpAny_passesOwn hp (thn (hb _ s6 σ6 H6 _ I6 q6) fun f s7 q7 => ?_)
    have again : ∀ {σ7 : St} {H7 : Hp}, Inv X (pins ++ pinsAt fp s5.heap) σ7 H7 s7 → N σ7 H7 → ∃ m, m < n ∧ ∃ i σ' H', Inv X pins σ' H' s7 ∧ tn i s7.heap ∧ (∀ b ∈ fp, H' b = none) ∧ W i m σ' H' := fun {σ7 H7} I7 n7 => by
      obtain ⟨m', hm, w7⟩ := hN σ7 H7 n7
      refine ⟨m', hm, i + 1, σ7, H7, I7.unpinned, T.keep _ _ _ st5 fun b hb o e => (I7.pin (b, o) (List.mem_append_right _ (List.mem_append_right _ (mem_pinsAt hb e)))).1, fun b hb => ?_, w7⟩
      obtain ⟨o, e, d⟩ := T.obj _ _ st5 b hb
      exact (I7.pin (b, o) (List.mem_append_right _ (List.mem_append_right _ (mem_pinsAt hb e)))).2.1
    cases f with
    | next => obtain ⟨σ7, H7, I7, n7⟩ := q7; exact again I7 n7
    | cont => obtain ⟨σ7, H7, I7, n7⟩ := q7; exact again I7 n7
    | brk => obtain ⟨σ7, H7, I7, q7⟩ := q7; exact ⟨σ7, H7, I7.unpinned, q7⟩
    | ret v => obtain ⟨x7, σ7, H7, I7, r7, q7⟩ := q7; exact ⟨x7, σ7, H7, I7.unpinned, r7, q7⟩
end

/-- over a list that the body leaves as it is -/
theorem for_list {K : PySem.W.Frag} {a : Addr} {xs : List V} {g : TG} {tb : TS} {D : Ends} {σ : St} {H : Hp} (Pv : Nat → St → Hp → Prop) (h0 : Pv 0 σ H) (hl : ∀ i σ H, i ≤ xs.length → Pv i σ H → SqL K H a xs)
    (hs : ∀ i x σ H, xs[i]? = some x → Pv i σ H → g x σ H fun σ2 H2 => tb { D with nx := Pv (i + 1), ct := Pv (i + 1), bk := D.nx } σ2 H2) (hd : ∀ σ H, Pv xs.length σ H → D.nx σ H) :
    ∃ W : Nat → Nat → St → Hp → Prop, (∃ m, W 0 m σ H) ∧ ∀ i m σ H, W i m σ H →
      ((Itl K a).stop i H ∧ D.nx σ H) ∨ ((Itl K a).go i H ∧ ∃ N : St → Hp → Prop, (∀ σ' H', N σ' H' → ∃ m', m' < m ∧ W (i + 1) m' σ' H') ∧ ∀ x H', (Itl K a).yld i H x H' → g x σ H' fun σ2 H2 => tb { D with nx := N, ct := N, bk := D.nx } σ2 H2) := by
  refine ⟨fun i m σ H => m = xs.length - i ∧ i ≤ xs.length ∧ Pv i σ H, ⟨xs.length, by simp, Nat.zero_le _, h0⟩, ?_⟩
  rintro i m σ H ⟨rfl, hi, p⟩
  have q := hl i σ H hi p
  by_cases hlt : i < xs.length
  · refine .inr ⟨⟨xs, xs[i], q, by simp [hlt]⟩, Pv (i + 1), fun σ' H' p' => ⟨xs.length - (i + 1), by omega, rfl, hlt, p'⟩, fun x H' y => ?_⟩
    obtain ⟨e, y⟩ := y
    subst e
    exact hs i x σ _ (y xs q) p
  · have e : i = xs.length := by omega
    subst e
    exact .inl ⟨⟨xs, q, Nat.le_refl _⟩, hd σ H p⟩
theorem for_range {lo : Int} {n : Nat} {g : TG} {tb : TS} {D : Ends} {σ : St} {H : Hp} (Pv : Nat → St → Hp → Prop) (h0 : Pv 0 σ H)
    (hs : ∀ i σ H, i < n → Pv i σ H → g (.int (lo + i)) σ H fun σ2 H2 => tb { D with nx := Pv (i + 1), ct := Pv (i + 1), bk := D.nx } σ2 H2) (hd : ∀ σ H, Pv n σ H → D.nx σ H) :
    ∃ W : Nat → Nat → St → Hp → Prop, (∃ m, W 0 m σ H) ∧ ∀ i m σ H, W i m σ H →
      ((Itr lo n).stop i H ∧ D.nx σ H) ∨ ((Itr lo n).go i H ∧ ∃ N : St → Hp → Prop, (∀ σ' H', N σ' H' → ∃ m', m' < m ∧ W (i + 1) m' σ' H') ∧ ∀ x H', (Itr lo n).yld i H x H' → g x σ H' fun σ2 H2 => tb { D with nx := N, ct := N, bk := D.nx } σ2 H2) := by
  refine ⟨fun i m σ H => m = n - i ∧ i ≤ n ∧ Pv i σ H, ⟨n, by simp, Nat.zero_le _, h0⟩, ?_⟩
  rintro i m σ H ⟨rfl, hi, p⟩
  by_cases hlt : i < n
  · refine .inr ⟨hlt, Pv (i + 1), fun σ' H' p' => ⟨n - (i + 1), by omega, rfl, hlt, p'⟩, fun x H' y => ?_⟩
    obtain ⟨e, y⟩ := y
    subst e y
    exact hs i σ _ hlt p
  · have e : i = n := by omega
    subst e
    exact .inl ⟨Nat.le_refl _, hd σ H p⟩
end L2

namespace L2
open PySem PySem.Spec PyProof.Rows

abbrev R2 := V → V → Hp → VK → Prop
/-- a two-place operation on values: f is binaryOp op, inplaceOp op or compareOp op -/
def OpR (X : Cx) (f : Value → Value → Sem Value) (r : R2) : Prop :=
  ∀ (pins : List (Addr × Obj)) (s : Shared) (σ : St) (H : Hp) (x y : V) (v u : Value) (Q : VK), Inv X pins σ H s → RelV x v → RelV y u → r x y H Q →
    wpAny (model X.prog X.w) X.A (f v u) (EP X pins σ Q) X.xe s
/-- a call of a value that is known (a builtin, a type) with values -/
def CallR (X : Cx) (f : Value) (r : List V → Hp → VK → Prop) : Prop :=
  ∀ (pins : List (Addr × Obj)) (s : Shared) (σ : St) (H : Hp) (xs : List V) (us : List Value) (Q : VK), Inv X pins σ H s → Vals xs us → r xs H Q →
    wpAny (model X.prog X.w) X.A (call f us) (EP X pins σ Q) X.xe s
def tOp (r : R2) (ta tb : TE) : TE := fun σ H Q => ta σ H fun x H1 => tb σ H1 fun y H2 => r x y H2 Q
/-- ints in, under C, and a value out -/
def rI (C : Int → Int → Prop) (g : Int → Int → V) : R2 := fun x y H Q => ∃ i j, x = .int i ∧ y = .int j ∧ C i j ∧ Q (g i j) H
def rI0 (g : Int → Int → V) : R2 := fun x y H Q => ∃ i j, x = .int i ∧ y = .int j ∧ Q (g i j) H
section
variable {X : Cx} {a b c : Expr} {ta tb tc : TE} {pos : Pos}

theorem binT (ha : PE X a ta) (hb : PE X b tb) {pins : List (Addr × Obj)} {s : Shared} {σ : St} {H : Hp} {R : V → V → Hp → Prop} (I : Inv X pins σ H s)
    (h : ta σ H fun x H1 => tb σ H1 fun y H2 => R x y H2) {Q : Value → Shared → Prop} {f : Value → Value → Sem Value}
    (hf : ∀ v u s2 x y H2, Inv X pins σ H2 s2 → RelV x v → RelV y u → R x y H2 → wpAny (model X.prog X.w) X.A (f v u) Q X.xe s2) :
    wpAny (model X.prog X.w) X.A (eval a X.env) (fun v s₁ => wpAny (model X.prog X.w) X.A (eval b X.env) (fun u s₂ => wpAny (model X.prog X.w) X.A (f v u) Q X.xe s₂) X.xe s₁) X.xe s := by
  refine thn (ha pins s σ H _ I h) fun v s1 ⟨x, H1, I1, r1, q1⟩ => ?_
  refine thn (hb pins s1 σ H1 _ I1 q1) fun u s2 ⟨y, H2, I2, r2, q2⟩ => ?_
  exact hf v u s2 x y H2 I2 r1 r2 q2

theorem pe_op {op : Operator} {r : R2} (ho : OpR X (binaryOp op) r) (ha : PE X a ta) (hb : PE X b tb) : PE X (.BinOp a op b pos) (tOp r ta tb) := by
  intro pins s σ H Q I h
  exact wpAny_BinOp (binT ha hb I h fun v u s2 x y H2 I2 rx ry q => ho pins s2 σ H2 x y v u Q I2 rx ry q)
theorem opI {f : Value → Value → Sem Value} {C : Int → Int → Prop} {g : Int → Int → Int}
    (rule : ∀ (i j : Int) (t u : Tok) (s : Shared) (Q : Value → Shared → Prop) (E : Value → Shared → Prop), C i j → Q (.int (g i j) s.toks) { s with toks := s.toks + 1 } → wpAny (model X.prog X.w) X.A (f (.int i t) (.int j u)) Q E s) :
    OpR X f (rI C fun i j => .int (g i j)) := by
  intro pins s σ H x y v u Q I rx ry h
  obtain ⟨i, j, rfl, rfl, hc, q⟩ := h
  obtain ⟨t, rfl⟩ := rx
  obtain ⟨t', rfl⟩ := ry
  exact rule i j t t' s _ _ hc ⟨.int (g i j), H, I.tok _, ⟨_, rfl⟩, q⟩
theorem opI0 {f : Value → Value → Sem Value} {g : Int → Int → Int}
    (rule : ∀ (i j : Int) (t u : Tok) (s : Shared) (Q : Value → Shared → Prop) (E : Value → Shared → Prop), Q (.int (g i j) s.toks) { s with toks := s.toks + 1 } → wpAny (model X.prog X.w) X.A (f (.int i t) (.int j u)) Q E s) :
    OpR X f (rI0 fun i j => .int (g i j)) := by
  intro pins s σ H x y v u Q I rx ry h
  obtain ⟨i, j, rfl, rfl, q⟩ := h
  obtain ⟨t, rfl⟩ := rx
  obtain ⟨t', rfl⟩ := ry
  exact rule i j t t' s _ _ ⟨.int (g i j), H, I.tok _, ⟨_, rfl⟩, q⟩
theorem opB0 {f : Value → Value → Sem Value} {g : Int → Int → Bool}
    (rule : ∀ (i j : Int) (t u : Tok) (s : Shared) (Q : Value → Shared → Prop) (E : Value → Shared → Prop), Q (.bool (g i j)) s → wpAny (model X.prog X.w) X.A (f (.int i t) (.int j u)) Q E s) :
    OpR X f (rI0 fun i j => .bl (g i j)) := by
  intro pins s σ H x y v u Q I rx ry h
  obtain ⟨i, j, rfl, rfl, q⟩ := h
  obtain ⟨t, rfl⟩ := rx
  obtain ⟨t', rfl⟩ := ry
  exact rule i j t t' s _ _ ⟨.bl (g i j), H, I, rfl, q⟩

def CPow (i j : Int) : Prop := 0 ≤ j ∧ j ≤ 1000000 ∧ i.natAbs < 2 ^ 64
theorem op_add : OpR X (binaryOp .Add) (rI0 fun i j => .int (i + j)) := opI0 fun _ _ _ _ _ _ _ q => add_int q
theorem op_sub : OpR X (binaryOp .Sub) (rI0 fun i j => .int (i - j)) := opI0 fun _ _ _ _ _ _ _ q => sub_int q
/-- % by a positive divisor of any size -/
theorem op_mod : OpR X (binaryOp .Mod) (rI (fun _ j => 0 < j) fun i j => .int (i % j)) := opI fun i j _ _ _ _ _ hc q => by
  have h1 : (0 : Int) < j := hc
  exact mod_int' (by omega) (by rw [Int.fmod_eq_emod_of_nonneg i (by omega)]; exact q)
theorem op_pow : OpR X (binaryOp .Pow) (rI CPow fun i j => .int (i ^ j.toNat)) := opI fun _ _ _ _ _ _ _ hc q => pow_int_small hc.1 hc.2.1 hc.2.2 q
end

/-- the scalars that == tells apart as data does -/
def scal : V → V → Bool
  | .non, .non => true | .non, .int _ => true | .int _, .non => true | .non, .bl _ => true | .bl _, .non => true | .non, .str _ => true | .str _, .non => true
  | .int _, .int _ => true | .bl _, .bl _ => true | .str _, .str _ => true | .byt _, .byt _ => true
  | .int _, .str _ => true | .str _, .int _ => true | .bl _, .str _ => true | .str _, .bl _ => true
  | _, _ => false
def rEq : R2 := fun x y H Q => scal x y = true ∧ Q (.bl (decide (x = y))) H
def rNe : R2 := fun x y H Q => scal x y = true ∧ Q (.bl (!decide (x = y))) H

theorem dec_int {i j : Int} : decide (V.int i = V.int j) = (i == j) := by
  rw [Bool.eq_iff_iff]
  simp
theorem dec_bl {i j : Bool} : decide (V.bl i = V.bl j) = (i == j) := by
  rw [Bool.eq_iff_iff]
  simp
theorem dec_str {i j : Str} : decide (V.str i = V.str j) = (i == j) := by
  rw [Bool.eq_iff_iff]
  simp
theorem dec_byt {i j : Array UInt8} : decide (V.byt i = V.byt j) = (i.toList == j.toList) := by
  rw [Bool.eq_iff_iff]
  cases i
  cases j
  simp

section
variable {X : Cx} {a b c : Expr} {ta tb tc : TE} {pos : Pos}
theorem fin_bl {pins : List (Addr × Obj)} {σ : St} {H : Hp} {s : Shared} {Q : VK} {k k' : Bool} (I : Inv X pins σ H s) (q : Q (.bl k) H) (e : k = k') : EP X pins σ Q (.bool k') s := by
  subst e
  exact ⟨.bl k, H, I, rfl, q⟩
theorem op_eq : OpR X (compareOp .Eq) rEq := by
  intro pins s σ H x y v u Q I rx ry h
  obtain ⟨hs, q⟩ := h
  cases x with
  | non =>
    cases rx
    cases y with
    | non => cases ry; exact PySem.EqNone.eq_none_none (fin_bl I q (by simp))
    | bl j => cases ry; exact PySem.EqNone.eq_none_bool (fin_bl I q (by simp))
    | int j => obtain ⟨t', rfl⟩ := ry; exact PySem.EqNone.eq_none_int (fin_bl I q (by simp))
    | str j => obtain ⟨t', rfl⟩ := ry; exact PySem.EqNone.eq_none_str (fin_bl I q (by simp))
    | _ => exact absurd (show false = true from hs) Bool.false_ne_true
  | bl i =>
    cases rx
    cases y with
    | non => cases ry; exact PySem.EqNone.eq_bool_none (fin_bl I q (by simp))
    | bl j => cases ry; exact eq_bool (fin_bl I q dec_bl)
    | str j => obtain ⟨t', rfl⟩ := ry; exact PySem.EqMixed.eq_bool_str (fin_bl I q (by simp))
    | _ => exact absurd (show false = true from hs) Bool.false_ne_true
  | int i =>
    obtain ⟨t, rfl⟩ := rx
    cases y with
    | non => cases ry; exact PySem.EqNone.eq_int_none (fin_bl I q (by simp))
    | int j => obtain ⟨t', rfl⟩ := ry; exact eq_int (fin_bl I q dec_int)
    | str j => obtain ⟨t', rfl⟩ := ry; exact PySem.EqMixed.eq_int_str (fin_bl I q (by simp))
    | _ => exact absurd (show false = true from hs) Bool.false_ne_true
  | str i =>
    obtain ⟨t, rfl⟩ := rx
    cases y with
    | non => cases ry; exact PySem.EqNone.eq_str_none (fin_bl I q (by simp))
    | bl j => cases ry; exact PySem.EqMixed.eq_str_bool (fin_bl I q (by simp))
    | int j => obtain ⟨t', rfl⟩ := ry; exact PySem.EqMixed.eq_str_int (fin_bl I q (by simp))
    | str j => obtain ⟨t', rfl⟩ := ry; exact eq_str (fin_bl I q dec_str)
    | _ => exact absurd (show false = true from hs) Bool.false_ne_true
  | byt i =>
    obtain ⟨t, rfl⟩ := rx
    cases y with
    | byt j => obtain ⟨t', rfl⟩ := ry; exact PySem.W.eq_bytes (fin_bl I q dec_byt)
    | _ => exact absurd (show false = true from hs) Bool.false_ne_true
  | _ => cases y <;> exact absurd (show false = true from hs) Bool.false_ne_true
theorem op_ne : OpR X (compareOp .NotEq) rNe := by
  intro pins s σ H x y v u Q I rx ry h
  obtain ⟨hs, q⟩ := h
  cases x with
  | non =>
    cases rx
    cases y with
    | non => cases ry; exact PySem.EqNone.ne_none_none (fin_bl I q (by simp))
    | bl j => cases ry; exact PySem.EqNone.ne_none_bool (fin_bl I q (by simp))
    | int j => obtain ⟨t', rfl⟩ := ry; exact PySem.EqNone.ne_none_int (fin_bl I q (by simp))
    | str j => obtain ⟨t', rfl⟩ := ry; exact PySem.EqNone.ne_none_str (fin_bl I q (by simp))
    | _ => exact absurd (show false = true from hs) Bool.false_ne_true
  | bl i =>
    cases rx
    cases y with
    | non => cases ry; exact PySem.EqNone.ne_bool_none (fin_bl I q (by simp))
    | bl j => cases ry; exact ne_bool (fin_bl I q (congrArg not dec_bl))
    | str j => obtain ⟨t', rfl⟩ := ry; exact PySem.EqMixed.ne_bool_str (fin_bl I q (by simp))
    | _ => exact absurd (show false = true from hs) Bool.false_ne_true
  | int i =>
    obtain ⟨t, rfl⟩ := rx
    cases y with
    | non => cases ry; exact PySem.EqNone.ne_int_none (fin_bl I q (by simp))
    | int j => obtain ⟨t', rfl⟩ := ry; exact ne_int (fin_bl I q (congrArg not dec_int))
    | str j => obtain ⟨t', rfl⟩ := ry; exact PySem.EqMixed.ne_int_str (fin_bl I q (by simp))
    | _ => exact absurd (show false = true from hs) Bool.false_ne_true
  | str i =>
    obtain ⟨t, rfl⟩ := rx
    cases y with
    | non => cases ry; exact PySem.EqNone.ne_str_none (fin_bl I q (by simp))
    | bl j => cases ry; exact PySem.EqMixed.ne_str_bool (fin_bl I q (by simp))
    | int j => obtain ⟨t', rfl⟩ := ry; exact PySem.EqMixed.ne_str_int (fin_bl I q (by simp))
    | str j => obtain ⟨t', rfl⟩ := ry; exact ne_str (fin_bl I q (congrArg not dec_str))
    | _ => exact absurd (show false = true from hs) Bool.false_ne_true
  | byt i =>
    obtain ⟨t, rfl⟩ := rx
    cases y with
    | byt j => obtain ⟨t', rfl⟩ := ry; exact PySem.W.ne_bytes (fin_bl I q (congrArg not dec_byt))
    | _ => exact absurd (show false = true from hs) Bool.false_ne_true
  | _ => cases y <;> exact absurd (show false = true from hs) Bool.false_ne_true

theorem op_lt : OpR X (compareOp .Lt) (rI0 fun i j => .bl (decide (i < j))) := opB0 fun _ _ _ _ _ _ _ q => lt_int q
theorem op_gt : OpR X (compareOp .Gt) (rI0 fun i j => .bl (decide (j < i))) := opB0 fun _ _ _ _ _ _ _ q => gt_int q
theorem nomark (b : Expr) {op : CmpOp} (h : op ≠ .In := by decide) (h2 : op ≠ .NotIn := by decide) : behindInMarks op b = false := by
  have e1 : (op == CmpOp.In) = false := by cases op <;> first | rfl | exact absurd rfl h
  have e2 : (op == CmpOp.NotIn) = false := by cases op <;> first | rfl | exact absurd rfl h2
  cases b <;> simp [behindInMarks, e1, e2]
/-- a comparison as a value; hm: nomark b, or (for in, not in) by with_unfolding_all rfl -/
theorem pe_cmpR {op : CmpOp} {r : R2} (ho : OpR X (compareOp op) r) (ha : PE X a ta) (hb : PE X b tb) (hm : behindInMarks op b = false) : PE X (.Compare a [op] [b] pos) (tOp r ta tb) := by
  intro pins s σ H Q I h
  exact wpAny_Compare1 (binT ha hb I h fun v u s2 x y H2 I2 rx ry q => ho pins s2 σ H2 x y v u Q I2 rx ry q) hm
/-- a reading of a value as a test -/
def tTest (t : TE) : TT := fun σ H Q => t σ H fun x H' => ∃ k, x = .bl k ∧ Q k H'
theorem pt_cmpR {op : CmpOp} {r : R2} (ho : OpR X (compareOp op) r) (ha : PE X a ta) (hb : PE X b tb) (hm : behindInMarks op b = false) : PT X (.Compare a [op] [b] pos) (tTest (tOp r ta tb)) := by
  intro pins s σ H Q I h
  refine wpAny_isTrue_Compare1 (thn (ha pins s σ H _ I h) fun v s1 ⟨x, H1, I1, r1, q1⟩ => thn (hb pins s1 σ H1 _ I1 q1) fun u s2 ⟨y, H2, I2, r2, q2⟩ =>
    thn (ho pins s2 σ H2 x y v u _ I2 r1 r2 q2) fun c s3 ⟨z, H3, I3, r3, k, e, q3⟩ => ?_) hm
  subst e
  cases r3
  exact wpAny_truthy_bool ⟨H3, I3, q3⟩
theorem line63 : (sizeLine : Nat) < 2 ^ 63 := by rw [sizeLine_eq]; decide
theorem vals1 {x : V} {us : List Value} (r : Vals [x] us) : ∃ u, us = [u] ∧ RelV x u := by
  cases r with
  | cons r1 r2 => cases r2; exact ⟨_, rfl, r1⟩
theorem vals2 {x y : V} {us : List Value} (r : Vals [x, y] us) : ∃ u w', us = [u, w'] ∧ RelV x u ∧ RelV y w' := by
  cases r with
  | cons r1 r2 =>
    cases r2 with
    | cons r3 r4 => cases r4; exact ⟨_, _, rfl, r1, r3⟩
theorem call_min2 (hc : X.calm = true) : CallR X (.builtin "min") (fun xs H Q => ∃ i j, xs = [.int i, .int j] ∧ Q (.int (if j < i then j else i)) H) := by
  intro pins s σ H xs us Q I r h
  obtain ⟨i, j, rfl, q⟩ := h
  obtain ⟨u, w', rfl, ⟨t, rfl⟩, ⟨t', rfl⟩⟩ := vals2 r
  refine min_two_ints (I.ok.hd hc) fun h' tk k => ⟨_, H, I.kept k, ?_, q⟩
  by_cases hj : j < i
  · rw [if_pos hj, if_pos hj]; exact ⟨_, rfl⟩
  · rw [if_neg hj, if_neg hj]; exact ⟨_, rfl⟩
end
end L2

namespace L2
open PySem PySem.Spec PyProof.Rows

structure ObjM (h : Heap) (x dx C : Addr) (mA : Str → Option Value) : Prop where
  obj : h.get? x = some (PySem.W.instObj C dx)
  ns : h.Ns1 dx mA
  ne : dx ≠ x

theorem lookIn_ns {h : Heap} {dx : Addr} {mA : Str → Option Value} (n : h.Ns1 dx mA) : ∃ od, h.get? dx = some od ∧ ∀ name, PySem.W.lookIn name od = some (mA name) := by
  obtain ⟨o, es, ep, ho, hd, hk, _, hm⟩ := n
  refine ⟨o, ho, fun name => ?_⟩
  have e := hm name
  unfold nsFind findBy at e
  rw [← Array.find?_toList] at e
  unfold PySem.W.lookIn
  rw [hd]
  dsimp only
  split
  · rename_i y q
    rw [q] at e
    exact congrArg some e
  · rename_i q
    rw [q] at e
    have a : es.toList.any (·.refKey) = false := by
      rw [List.any_eq_false]
      intro y hy
      obtain ⟨z, t, hkey⟩ := hk y (Array.mem_toList_iff.mp hy)
      simp [DictEntry.refKey, hkey]
    have a' : ¬ es.toList.any (·.refKey) = true := by rw [a]; exact Bool.false_ne_true
    rw [if_neg a']
    exact congrArg some e

theorem ObjM.look {h : Heap} {x dx C : Addr} {mA : Str → Option Value} (I : ObjM h x dx C mA) : ∃ od, PySem.W.InstAt h x (PySem.W.instObj C dx) C (some od) ∧ ∀ name, PySem.W.lookIn name od = some (mA name) :=
  let ⟨od, ho, hl⟩ := lookIn_ns I.ns
  ⟨od, ⟨I.obj, rfl, rfl, ho⟩, hl⟩

section
variable {prog : Program} {w : World} {A : Around} {E : Value → Shared → Prop} {s : Shared} {K : PySem.W.Frag} {x dx C f : Addr} {mA : Str → Option Value} {name : Str} {v : Value}

theorem get_map {expr : Bool} {Q : Value → Shared → Prop} (X : K.In s.heap) (I : ObjM s.heap x dx C mA) (hg : PySem.W.plainGet K C name = true) (hh : PySem.W.hasDictIn K C = true)
    (ha : PySem.W.findIn K (.ref C) name = some none) (hv : mA name = some v) (hv' : PySem.W.handedIn v = true) (h : Q v { s with toks := s.toks + 1 }) :
    wpAny (model prog w) A (getAttr (.ref x) name expr) Q E s := by
  obtain ⟨od, J, hl⟩ := I.look
  exact PySem.W.get_value X J (PySem.W.plainGet_of hg).1 (PySem.W.findObj_own hh ha rfl (by rw [hl, hv])) hv' h

theorem get_meth {pl : Sem Bool} {Q : Value × List Value → Shared → Prop} (X : K.In s.heap) (I : ObjM s.heap x dx C mA) (hg : PySem.W.plainGet K C name = true)
    (hf : PySem.W.findIn K (.ref C) name = some (some (.ref f))) (ht : PySem.W.isFn K (.ref f) = true) (hv : mA name = none) (h : Q (.ref f, [.ref x]) s) :
    wpAny (model prog w) A (getMethod (.ref x) name pl) Q E s := by
  obtain ⟨od, J, hl⟩ := I.look
  exact PySem.W.method_fn X J (PySem.W.plainGet_of hg).1 (PySem.W.plainGet_of hg).2 hf (beq_iff_eq.mp ht) (by show (PySem.W.lookIn name od).map (·.isSome) = some false; rw [hl, hv]; rfl) h

theorem set_map {ns : List Str} {Q : Unit → Shared → Prop} (X : K.In s.heap) (I : ObjM s.heap x dx C mA)
    (hs : PySem.W.findIn K (.ref C) "__setattr__" = some (some (.builtin "object.__setattr__"))) (hp : PySem.W.plainOver K C = true) (ht : PySem.W.takerIn K C name = some none) (hh : PySem.W.hasDictIn K C = true)
    (hw : PySem.Within mA ns) (hsz : ns.length ≤ sizeLine)
    (h : ∀ h', ObjM h' x dx C (fun y => if y = name then some v else mA y) → Heap.SameBut dx s.heap h' → Q () { s with heap := h', toks := s.toks + 2 }) :
    wpAny (model prog w) A (setAttr (.ref x) name v) Q E s := by
  obtain ⟨od, J, hl⟩ := I.look
  refine PySem.W.set_plain X J hs (PySem.W.osa_open (s := { s with toks := s.toks + 1 }) (r := none) X J hp ht fun b => ?_)
  obtain ⟨cd, hc, hd'⟩ := PySem.W.any_some hh
  have hx : s.heap.get? x = some ⟨.ref C, some dx, .plain, #[]⟩ := I.obj
  refine wpAny_bind (wpAny_pure (wpAny_bind (wpAny_bind (wpAny_loadPart hx (wpAny_bind (PySem.W.Looks.here (s := { s with toks := s.toks + 1 }) (PySem.W.looks_clsIn X hc) ?_))))))
  rw [hd']
  refine wpAny_pure (a := some dx) (wpAny_bind (wpAny_pure (wpAny_bind ?_)))
  refine wpAny_nsSet1 (s := { s with toks := s.toks + 1 }) I.ns fun h' hn2 hs2 => ?_
  obtain ⟨oD, esD, epD, hoD, hdD, hcD⟩ := hn2.count (PySem.Within.cons name v hw)
  refine wpAny_bind (wpAny_lookBehind hoD (by rw [hdD]; exact pastItsLine_dict (Nat.le_trans hcD (by rw [List.length_cons]; omega))) ?_)
  exact wpAny_pure (h _ ⟨(hs2.2 _ (Ne.symm I.ne)).trans I.obj, hn2, I.ne⟩ hs2)

/-- C(..): the dict at the heap's end, the instance behind it; then its __init__ -/
theorem make_map {R : Result → Shared → Prop} {vs : List Value} {kw : List (Str × Value)} (X : K.In s.heap) (hm : PySem.W.makesIn K C = true)
    (hi : PySem.W.findIn K (.ref C) "__init__" = some (some (.ref f))) (hf : PySem.W.typeIn K (.ref f) = some (.type "function"))
    (h : codeAny (model prog w) (A.under (.builtin "type.__call__" ⟨.ref C :: vs, kw⟩)) (.call (.ref f) ⟨.ref (s.heap.objs.size + 1) :: vs, kw⟩) (PySem.W.InitBack (s.heap.objs.size + 1) R)
      { s with heap := (s.heap.push PySem.W.emptyDict).push (PySem.W.instObj C s.heap.objs.size) }) :
    codeAny (model prog w) A (.call (.ref C) ⟨vs, kw⟩) R s := by
  obtain ⟨hh, g, d, t, os⟩ := s
  exact PySem.W.make_core (PySem.W.makes_of X hm) (PySem.W.looks_findIn X hi) (fun self => PySem.W.bind_fn X self hf) (.inl rfl) h
end

def putF (f : Str) (v : V) : List (Str × V) → List (Str × V)
  | [] => [(f, v)]
  | (g, x) :: r => if g = f then (g, v) :: r else (g, x) :: putF f v r
theorem lookup_putF (f g : Str) (v : V) : ∀ fs : List (Str × V), (putF f v fs).lookup g = if g = f then some v else fs.lookup g
  | [] => by
    show List.lookup g [(f, v)] = _
    by_cases h : g = f
    · have hb : (g == f) = true := beq_iff_eq.mpr h
      simp only [List.lookup, hb, if_pos h]
    · have hb : (g == f) = false := beq_eq_false_iff_ne.mpr h
      simp only [List.lookup, hb, if_neg h]
  | (k, x) :: r => by
    have ih := lookup_putF f g v r
    rw [show putF f v ((k, x) :: r) = (if k = f then (k, v) :: r else (k, x) :: putF f v r) from rfl]
    by_cases hk : k = f
    · rw [if_pos hk]
      by_cases h : g = k
      · have hb : (g == k) = true := beq_iff_eq.mpr h
        simp only [List.lookup, hb, if_pos (h.trans hk)]
      · have hb : (g == k) = false := beq_eq_false_iff_ne.mpr h
        simp only [List.lookup, hb, if_neg (fun e : g = f => h (e.trans hk.symm))]
    · rw [if_neg hk]
      by_cases h : g = k
      · have hb : (g == k) = true := beq_iff_eq.mpr h
        simp only [List.lookup, hb, if_neg (fun e : g = f => hk (h.symm.trans e))]
      · have hb : (g == k) = false := beq_eq_false_iff_ne.mpr h
        simp only [List.lookup, hb]
        exact ih
theorem keys_putF (f : Str) (v : V) : ∀ fs : List (Str × V), f ∈ (putF f v fs).map (·.1) ∧ ∀ g, g ∈ fs.map (·.1) → g ∈ (putF f v fs).map (·.1)
  | [] => ⟨by simp [putF], fun g h => by simp at h⟩
  | (k, x) :: r => by
    obtain ⟨i1, i2⟩ := keys_putF f v r
    rw [show putF f v ((k, x) :: r) = (if k = f then (k, v) :: r else (k, x) :: putF f v r) from rfl]
    by_cases hk : k = f
    · rw [if_pos hk]
      subst hk
      exact ⟨by simp, fun g h => by simpa using h⟩
    · rw [if_neg hk]
      refine ⟨?_, fun g h => ?_⟩
      · rw [List.map_cons]
        exact List.mem_cons_of_mem _ i1
      · rw [List.map_cons] at h ⊢
        rcases List.mem_cons.mp h with e | e
        · exact List.mem_cons.mpr (.inl e)
        · exact List.mem_cons_of_mem _ (i2 g e)
theorem length_putF (f : Str) (v : V) : ∀ fs : List (Str × V), (putF f v fs).length ≤ fs.length + 1
  | [] => by simp [putF]
  | (k, x) :: r => by
    have ih := length_putF f v r
    rw [show putF f v ((k, x) :: r) = (if k = f then (k, v) :: r else (k, x) :: putF f v r) from rfl]
    by_cases hk : k = f
    · rw [if_pos hk, List.length_cons, List.length_cons]; omega
    · rw [if_neg hk, List.length_cons, List.length_cons]; omega

theorem RelO.some_of {v : V} {o : Option Value} (r : RelO (some v) o) : ∃ u, o = some u ∧ RelV v u := by
  cases o with
  | none => exact (show False from r).elim
  | some u => exact ⟨u, rfl, r⟩
theorem RelO.none_of {o : Option Value} (r : RelO none o) : o = none := by
  cases o with
  | none => rfl
  | some u => exact (show False from r).elim
theorem handed_of {v : V} {u : Value} (r : RelV v u) : PySem.W.handedIn u = true := by
  cases v with
  | non => cases (show u = Value.none from r); rfl
  | bl b => cases (show u = Value.bool b from r); rfl
  | int i => obtain ⟨t, e⟩ := (show ∃ t, u = Value.int i t from r); cases e; rfl
  | str x => obtain ⟨t, e⟩ := (show ∃ t, u = Value.str x t from r); cases e; rfl
  | byt b => obtain ⟨t, e⟩ := (show ∃ t, u = Value.bytes b t from r); cases e; rfl
  | flt b => obtain ⟨t, e⟩ := (show ∃ t, u = Value.float b t from r); cases e; rfl
  | ref a => cases (show u = Value.ref a from r); rfl
  | ty n => cases (show u = Value.type n from r); rfl

section
variable {P : Program} {w : World} {H H' : Hp} {h h' : Heap} {a C dx : Addr} {fs fs' : List (Str × V)}
theorem ins_get (hok : HOk P w H h) (e : H a = some (.ins C dx fs)) : ∃ mA, ObjM h a dx C mA ∧ (∀ f, RelO (fs.lookup f) (mA f)) ∧ PySem.Within mA (fs.map (·.1)) ∧ fs.length ≤ 1000 ∧ H dx = some (.own a) := by
  obtain ⟨d, z, ne, ob, mA, n, r, q⟩ := (show ObjOk P w H h a (.ins C dx fs) from hok a _ e)
  exact ⟨mA, ⟨ob, n, ne⟩, r, q, z, d⟩
end

structure Cls (K : PySem.W.Frag) (C : Addr) : Prop where
  pg : PySem.W.plainGet K C Str.empty = true
  hd : PySem.W.hasDictIn K C = true
  po : PySem.W.plainOver K C = true
  sa : PySem.W.findIn K (.ref C) "__setattr__" = some (some (.builtin "object.__setattr__"))
theorem Cls.get {K : PySem.W.Frag} {C : Addr} (c : Cls K C) (f : Str) : PySem.W.plainGet K C f = true := c.pg
/-- no class of it has the name -/
def NoAttr (K : PySem.W.Frag) (C : Addr) (f : Str) : Prop := PySem.W.findIn K (.ref C) f = some none
theorem NoAttr.taker {K : PySem.W.Frag} {C : Addr} {f : Str} (n : NoAttr K C f) : PySem.W.takerIn K C f = some none := by
  unfold PySem.W.takerIn
  rw [show PySem.W.findIn K (.ref C) f = some none from n]
  rfl
/-- a method: a plain def of the class or of one above it -/
structure Meth (K : PySem.W.Frag) (C : Addr) (m : Str) (f : Addr) : Prop where
  at_ : PySem.W.findIn K (.ref C) m = some (some (.ref f))
  fn : PySem.W.isFn K (.ref f) = true
  kp : PySem.W.keepIn K (.ref f) = true

section
variable {X : Cx} {pins : List (Addr × Obj)} {σ : St} {H : Hp} {s : Shared} {a C dx : Addr} {fs : List (Str × V)} {f : Str} {v : V} {A : Around} {E : Value → Shared → Prop}

theorem getattr_ok {b : Bool} {Q : Value → Shared → Prop} (I : Inv X pins σ H s) (e : H a = some (.ins C dx fs)) (c : Cls X.K C) (n : NoAttr X.K C f) (l : fs.lookup f = some v)
    (h : ∀ u s', Inv X pins σ H s' → RelV v u → Q u s') : wpAny (model X.prog X.w) A (getAttr (.ref a) f b) Q E s := by
  obtain ⟨mA, O, r, _, _, _⟩ := ins_get I.hok e
  obtain ⟨u, hu, ru⟩ := RelO.some_of (v := v) (o := mA f) (by rw [← l]; exact r f)
  exact get_map I.kIn O (c.get f) c.hd n hu (handed_of ru) (h u _ (I.tok _) ru)

theorem getmeth_ok {m : Str} {g : Addr} {pl : Sem Bool} {Q : Value × List Value → Shared → Prop} (I : Inv X pins σ H s) (e : H a = some (.ins C dx fs)) (c : Cls X.K C) (k : Meth X.K C m g) (l : fs.lookup m = none)
    (h : Q (.ref g, [.ref a]) s) : wpAny (model X.prog X.w) A (getMethod (.ref a) m pl) Q E s := by
  obtain ⟨mA, O, r, _, _, _⟩ := ins_get I.hok e
  have hn : mA m = none := RelO.none_of (by rw [← l]; exact r m)
  exact get_meth I.kIn O (c.get m) k.at_ k.fn hn h

theorem setattr_ok {y : V} {u : Value} {Q : Unit → Shared → Prop} (I : Inv X pins σ H s) (e : H a = some (.ins C dx fs)) (c : Cls X.K C) (n : NoAttr X.K C f) (hl : fs.length < 1000) (ry : RelV y u)
    (h : ∀ s', Inv X pins σ (upd H a (.ins C dx (putF f y fs))) s' → Q () s') : wpAny (model X.prog X.w) A (setAttr (.ref a) f u) Q E s := by
  obtain ⟨mA, O, r, wi, _, ho⟩ := ins_get I.hok e
  have hz : (fs.map (·.1)).length ≤ sizeLine := by rw [List.length_map, sizeLine_eq]; omega
  refine set_map I.kIn O c.sa c.po n.taker c.hd wi hz fun h' O' sb => h _ ?_
  have hd : ∃ o, h'.get? dx = some o := let ⟨o, _, _, e', _⟩ := O'.ns; ⟨o, e'⟩
  refine I.write (x := a) (e := dx) (by rw [e]; exact True.intro) (.inr ho) (fun b q hb z => (sb.2 b hb).trans z) hd ?_
  refine ⟨by rw [upd_ne O.ne]; exact ho, ?_, O.ne, O'.obj, _, O'.ns, fun g => ?_, fun g hg => ?_⟩
  · have := length_putF f y fs; omega
  · show RelO ((putF f y fs).lookup g) (if g = f then some u else mA g)
    rw [lookup_putF]
    by_cases q : g = f
    · rw [if_pos q, if_pos q]; exact ry
    · rw [if_neg q, if_neg q]; exact r g
  · by_cases q : g = f
    · rw [q]; exact (keys_putF f y fs).1
    · refine (keys_putF f y fs).2 g (wi g fun z => hg ?_)
      show (if g = f then some u else mA g) = none
      rw [if_neg q]; exact z

/-- a new instance, tracked, without attributes -/
theorem Inv.made (I : Inv X pins σ H s) : Inv X pins σ (upd (upd H s.heap.objs.size (.own (s.heap.objs.size + 1))) (s.heap.objs.size + 1) (.ins C s.heap.objs.size []))
    { s with heap := (s.heap.push PySem.W.emptyDict).push (PySem.W.instObj C s.heap.objs.size) } := by
  have e1 : (s.heap.push PySem.W.emptyDict).get? s.heap.objs.size = some PySem.W.emptyDict := Heap.get?_push_size s.heap rfl
  have e2 : ((s.heap.push PySem.W.emptyDict).push (PySem.W.instObj C s.heap.objs.size)).get? (s.heap.objs.size + 1) = some (PySem.W.instObj C s.heap.objs.size) := by
    have := Heap.get?_push_size (s.heap.push PySem.W.emptyDict) (o := PySem.W.instObj C s.heap.objs.size) rfl
    rwa [Heap.size_push] at this
  have e3 : (s.heap.push PySem.W.emptyDict).Ns s.heap.objs.size (fun _ => none) := ⟨PySem.W.emptyDict, #[], _, e1, rfl, (fun e he => absurd he (by simp)), fun _ => rfl⟩
  have I1 := I.laid (a := s.heap.objs.size) (o := .own (s.heap.objs.size + 1)) (h' := s.heap.push PySem.W.emptyDict) (t' := s.toks) (fun b u q => Heap.get?_push_of_some _ q) (Nat.le_refl _) ⟨_, e1⟩
  refine I1.laid (a := s.heap.objs.size + 1) (o := .ins C s.heap.objs.size []) (t' := s.toks) (fun b u q => Heap.get?_push_of_some _ q) (Nat.le_of_eq (Heap.size_push _ _)) ?_
  have ne : s.heap.objs.size ≠ s.heap.objs.size + 1 := Nat.ne_of_lt (Nat.lt_succ_self _)
  refine ⟨by rw [upd_ne ne, upd_same], Nat.zero_le _, ne, e2, fun _ => none, (Heap.Ns1.of_empty e3).at fun o q => Heap.get?_push_of_some _ q, fun _ => True.intro, fun y hy => absurd rfl hy⟩

/-- e.f where nothing but the object is asked: through attributeBase (super) and the last hold -/
theorem attr_of {prog : Program} {w : World} {env : Env} {e : Expr} {f : Str} {pos : Pos} {s : Shared} {Q : Value → Shared → Prop} (hb : attributeBase e f env (eval e env) = eval e env)
    (h : wpAny (model prog w) A (eval e env) (fun o s₁ => wpAny (model prog w) A (getAttr o f true) Q E s₁) E s) : wpAny (model prog w) A (eval (.Attribute e f pos) env) Q E s :=
  Attribute_any_ h (by rw [arm_eval_Attribute, hb])
end

/-- e.f, an attribute of the instance -/
def tFld (K : PySem.W.Frag) (ta : TE) (f : Str) : TE := fun σ H Q => ta σ H fun x H1 => ∃ a C dx fs v, x = .ref a ∧ H1 a = some (.ins C dx fs) ∧ Cls K C ∧ NoAttr K C f ∧ fs.lookup f = some v ∧ Q v H1
/-- e.f = value -/
def sFld (K : PySem.W.Frag) (ta tv : TE) (f : Str) : TS := fun D σ H => tv σ H fun y H1 => ta σ H1 fun x H2 => ∃ a C dx fs, x = .ref a ∧ H2 a = some (.ins C dx fs) ∧ Cls K C ∧ NoAttr K C f ∧ fs.length < 1000 ∧
  D.nx σ (upd H2 a (.ins C dx (putF f y fs)))
section
variable {X : Cx} {o e value : Expr} {f : Str} {pos pos' tpos : Pos} {ta tv : TE}
theorem pe_fld (he : PE X e ta) (hb : attributeBase e f X.env (eval e X.env) = eval e X.env) : PE X (.Attribute e f pos) (tFld X.K ta f) := by
  intro pins s σ H Q I h
  refine attr_of hb (thn (he pins s σ H _ I h) fun u s1 ⟨x, H1, I1, rx, a, C, dx, fs, v, ex, ea, c, n, l, q⟩ => ?_)
  subst ex
  obtain rfl : u = Value.ref a := rx
  exact getattr_ok I1 ea c n l fun u' s2 I2 ru => ⟨v, H1, I2, ru, q⟩
theorem ps_fld (ha : PE X o ta) (hv : PE X value tv) (hs : swapsWith value (some (.Attribute o f pos')) pos.line X.env = pure false) : PS X (.Assign [.Attribute o f pos'] value pos) (sFld X.K ta tv f) := by
  intro pins s σ H D I h
  refine plainObj_wpAny_Assign_Attribute (thn (hv pins s σ H _ I h) fun u s1 ⟨y, H1, I1, ry, q⟩ => thn (ha pins s1 σ H1 _ I1 q) fun ov s2 ⟨x, H2, I2, rx, a, C, dx, fs, ex, ea, c, n, l, q2⟩ => ?_) hs
  subst ex
  obtain rfl : ov = Value.ref a := rx
  exact setattr_ok I2 ea c n l ry fun s3 I3 => ⟨σ, _, I3, q2⟩
end

section
variable {X : Cx} {pins : List (Addr × Obj)} {σ : St} {H : Hp} {s : Shared} {A : Around} {E : Value → Shared → Prop} {Q : Value → Shared → Prop} {c : Value} {b : Bool}
/-- the type of a value, as the fragment's deciders take it; for an instance its class -/
inductive TyOf (K : PySem.W.Frag) (H : Hp) : V → Value → Prop where
  | non : TyOf K H .non (.type "NoneType")
  | bl (x : Bool) : TyOf K H (.bl x) (.type "bool")
  | int (i : Int) : TyOf K H (.int i) (.type "int")
  | str (x : Str) : TyOf K H (.str x) (.type "str")
  | flt (x : UInt64) : TyOf K H (.flt x) (.type "float")
  | lst {a : Addr} {xs : List V} (e : H a = some (.lst xs)) : TyOf K H (.ref a) (.type "list")
  | frz {a : Addr} {o : Obj} {xs : List V} (e : H a = some (.frz o (.lst xs))) : TyOf K H (.ref a) (.type "list")
  | tup {a : Addr} {xs : List V} (e : H a = some (.tup xs)) : TyOf K H (.ref a) (.type "tuple")
  | dK {a : Addr} {kvs : List (Key × V)} (e : H a = some (.dK kvs)) : TyOf K H (.ref a) (.type "dict")
  | dT {a : Addr} {kvs : List (List Key × V)} (e : H a = some (.dT kvs)) : TyOf K H (.ref a) (.type "dict")
  | ins {a C dx : Addr} {fs : List (Str × V)} (e : H a = some (.ins C dx fs)) (cl : Cls K C) (ha : PySem.W.findIn K (.ref C) "__class__" = some (some (.builtin "object.__class__")))
      (hn : PySem.W.specialIn K (.builtin "object.__class__") "__get__" = some (some (.builtin "getset_descriptor.__get__"))) (htk : PySem.W.takesIn K (.builtin "object.__class__") = some true)
      (hm : PySem.W.mroIn K C (.type "object") = some true) : TyOf K H (.ref a) (.ref C)
/-- isinstance(x, c) for one class c, a built-in or an own one: kitOne's answer -/
theorem isinst_ok {x : V} {u t : Value} (I : Inv X pins σ H s) (rx : RelV x u) (ty : TyOf X.K H x t) (e : PySem.W.kitOne X.K t c = some b) (h : ∀ tk, Q (.bool b) { s with toks := tk }) :
    wpAny (model X.prog X.w) A (call (.builtin "isinstance") [u, c]) Q E s := by
  cases ty with
  | non => cases (show u = Value.none from rx); exact PySem.W.kia_one PySem.W.kitx_none I.kIn True.intro e (fun z => nomatch z) h
  | bl y => cases (show u = Value.bool y from rx); exact PySem.W.kia_one PySem.W.kitx_bool I.kIn True.intro e (fun z => nomatch z) h
  | int i => obtain ⟨t, q⟩ := (show ∃ t, u = Value.int i t from rx); cases q; exact PySem.W.kia_one PySem.W.kitx_int I.kIn True.intro e (fun z => nomatch z) h
  | str y => obtain ⟨t, q⟩ := (show ∃ t, u = Value.str y t from rx); cases q; exact PySem.W.kia_one PySem.W.kitx_str I.kIn True.intro e (fun z => nomatch z) h
  | flt y => obtain ⟨t, q⟩ := (show ∃ t, u = Value.float y t from rx); cases q; exact PySem.W.kia_one PySem.W.kitx_float I.kIn True.intro e (fun z => nomatch z) h
  | @lst a xs ea =>
    cases (show u = Value.ref a from rx)
    obtain ⟨_, _, n, _, h1⟩ := (show ObjOk X.prog X.w H s.heap a (.lst xs) from I.hok a _ ea)
    exact PySem.W.kia_one PySem.W.kitx_list I.kIn ⟨_, h1, rfl⟩ e (fun z => nomatch z) h
  | @frz a ob xs ea =>
    cases (show u = Value.ref a from rx)
    obtain ⟨_, _, _, n, _, h1⟩ := (show ObjOk X.prog X.w H s.heap a (.frz ob (.lst xs)) from I.hok a _ ea)
    exact PySem.W.kia_one PySem.W.kitx_list I.kIn ⟨_, h1, rfl⟩ e (fun z => nomatch z) h
  | @tup a xs ea =>
    cases (show u = Value.ref a from rx)
    obtain ⟨_, _, _, p⟩ := (show ObjOk X.prog X.w H s.heap a (.tup xs) from I.hok a _ ea)
    obtain ⟨o, h1, h2, _⟩ := p
    exact PySem.W.kia_one PySem.W.kitx_tuple I.kIn ⟨o, h1, h2⟩ e (fun z => nomatch z) h
  | @dK a kvs ea =>
    cases (show u = Value.ref a from rx)
    obtain ⟨_, _, vs, _, p⟩ := (show ObjOk X.prog X.w H s.heap a (.dK kvs) from I.hok a _ ea)
    obtain ⟨o, es, ep, h1, h2, _⟩ := p
    exact PySem.W.kia_one PySem.W.kitx_dict I.kIn ⟨o, h1, h2.1⟩ e (fun z => nomatch z) h
  | @dT a kvs ea =>
    cases (show u = Value.ref a from rx)
    obtain ⟨_, _, xs, _, o, es, ep, h1, h2, _⟩ := (show ObjOk X.prog X.w H s.heap a (.dT kvs) from I.hok a _ ea)
    exact PySem.W.kia_one PySem.W.kitx_dict I.kIn ⟨o, h1, h2.1⟩ e (fun z => nomatch z) h
  | @ins a C dx fs ea cl ha hn htk hm =>
    cases (show u = Value.ref a from rx)
    obtain ⟨mA, O, _⟩ := ins_get I.hok ea
    obtain ⟨od, J, _⟩ := O.look
    exact PySem.W.kia_one (PySem.W.kitx_own (cl.get _) cl.hd ha hn htk hm) I.kIn J e (fun z => nomatch z) h
end
end L2

namespace L2
open PySem PySem.Spec PyProof.Rows

structure Room (k : Nat) (A : Around) : Prop where
  hd : A.handled = none
  dp : A.depth + 3 * k + 5 < recursionLimit
  un : A.units + 16 * k + 200 < cLine
theorem Room.mono {j k : Nat} {A : Around} (r : Room k A) (h : j ≤ k) : Room j A := ⟨r.hd, by have := r.dp; omega, by have := r.un; omega⟩
theorem Room.deeper {k : Nat} {A : Around} (r : Room (k + 1) A) (env : Env) : Room k (A.deeper env) :=
  ⟨r.hd, by have := r.dp; show A.depth + 1 + 3 * k + 5 < _; omega, by have := r.un; show A.units + 3 + 16 * k + 200 < _; omega⟩
theorem make_depth {A : Around} {C : Addr} {us : List Value} {kw : List (Str × Value)} : (A.under (.builtin "type.__call__" ⟨.ref C :: us, kw⟩)).depth = A.depth + 1 := by
  first | rfl | simp [Around.under, Code.weight, Code.isCreation, Code.isGuard, Code.isCaller, Code.frames, Code.isFrame, guardIds]
theorem make_units {A : Around} {C : Addr} {us : List Value} {kw : List (Str × Value)} : (A.under (.builtin "type.__call__" ⟨.ref C :: us, kw⟩)).units = A.units + 1 := by
  first | rfl | simp [Around.under, Code.cUnits, Code.frames, Code.isFrame]
theorem Room.make {k : Nat} {A : Around} (r : Room (k + 1) A) (C : Addr) (us : List Value) (kw : List (Str × Value)) : Room k (A.under (.builtin "type.__call__" ⟨.ref C :: us, kw⟩)) :=
  ⟨r.hd, by have := r.dp; rw [make_depth]; omega, by have := r.un; rw [make_units]; omega⟩
theorem Room.depth {k : Nat} {A : Around} (r : Room k A) : A.depth < recursionLimit := by have := r.dp; omega
theorem Room.units {k : Nat} {A : Around} (r : Room k A) : A.units + 64 < cLine := by have := r.un; omega
theorem Room.units0 {k : Nat} {A : Around} (r : Room k A) : A.units < cLine := by have := r.un; omega

def tNil : TA := fun _ H Q => Q [] H
def tCons (ta : TE) (tr : TA) : TA := fun σ H Q => ta σ H fun x H1 => tr σ H1 fun xs H2 => Q (x :: xs) H2
section
variable {X : Cx} {e : Expr} {es : List Expr} {te : TE} {t : TA} {pos : Pos}
theorem pa_nil : PA X [] tNil := fun _ _ _ _ H Q I h => Calls.spliced_nil ⟨[], H, I, .nil, h⟩
theorem pa_cons (ha : PE X e te) (hr : PA X es t) (hs : starEach (e :: es) X.env = (false, eval e X.env) :: starEach es X.env := by rfl) : PA X (e :: es) (tCons te t) := by
  intro pos pins s σ H Q I h
  rw [hs]
  show wpAny _ _ (spliced ((false, eval e X.env) :: backTo pos (starEach es X.env))) _ _ s
  refine Calls.spliced_cons (thn (ha pins s σ H _ I h) fun u s1 ⟨x, H1, I1, r1, q1⟩ => ?_)
  exact thn (hr pos pins s1 σ H1 _ I1 q1) fun us s2 ⟨xs, H2, I2, r2, q2⟩ => ⟨x :: xs, H2, I2, .cons r1 r2, q2⟩

end

/-- a def's promise: the bound arguments in the parameters' order, the heap, the wanted end, the wanted exception -/
abbrev Sp := List V → Hp → VK → XK → Prop
/-- how an exception lies behind a call (file 08 gives it): the callers' frames, abstract heap and state ahead of the call, the wish, the exception, the state -/
abbrev CXT := List Env → Hp → Shared → XK → Value → Shared → Prop

/-- the state at a call -/
structure Env0 (P : Program) (w : World) (K : PySem.W.Frag) (mg : Str → Option Value) (base : Heap) (A : Around) (outer : List Env) (s : Shared) (H : Hp) : Prop where
  frames : A.frames = some outer
  mod : Mod K mg base
  bs : ∀ b o, base.get? b = some o → s.heap.get? b = some o ∧ H b = none
  bsz : base.objs.size ≤ s.heap.objs.size
  funs : s.heap.FunFrames base outer
  frf : ∀ b ∈ frs outer, H b = none
  hok : HOk P w H s.heap
  bare : AllBare s.gens
/-- a call's end -/
def CE (outer : List Env) (P : Program) (w : World) (H : Hp) (s : Shared) (Q : VK) (u : Value) (s' : Shared) : Prop :=
  ∃ v H', s'.os = s.os ∧ AllBare s'.gens ∧ Un (frs outer) [] H H' s.heap s'.heap ∧ HOk P w H' s'.heap ∧ RelV v u ∧ Q v H'
def CR (CX : CXT) (outer : List Env) (P : Program) (w : World) (H : Hp) (s : Shared) (Q : VK) (E : XK) (r : Result) (s' : Shared) : Prop :=
  match r with
  | .ok (.ret u) => CE outer P w H s Q u s'
  | .ok _ => False
  | .error e => CX outer H s E e s'
structure FnOk (P : Program) (w : World) (K : PySem.W.Frag) (mg : Str → Option Value) (base : Heap) (CX : CXT) (k : Nat) (f : Addr) (fd : FuncData) (ps : List Str) (sp : Sp) : Prop where
  len : ∀ vs H Q E, sp vs H Q E → vs.length = ps.length
  run : ∀ (A : Around) (outer : List Env) (s : Shared) (H : Hp) (args : Args) (us : List Value) (vs : List V) (Q : VK) (E : XK), Room k A → Env0 P w K mg base A outer s H → BindsTo s fd args (ps.zip us) → Vals vs us → sp vs H Q E →
    codeAny (model P w) A (.call (.ref f) args) (CR CX outer P w H s Q E) s
theorem Env0.make {P : Program} {w : World} {K : PySem.W.Frag} {mg : Str → Option Value} {base : Heap} {A : Around} {outer : List Env} {s : Shared} {H : Hp} (e : Env0 P w K mg base A outer s H) (C : Addr) (us : List Value) (kw : List (Str × Value)) :
    Env0 P w K mg base (A.under (.builtin "type.__call__" ⟨.ref C :: us, kw⟩)) outer s H := ⟨by first | exact e.frames | (simpa [Around.under, Code.envs, Code.isFrame, pushEnvs] using e.frames), e.mod, e.bs, e.bsz, e.funs, e.frf, e.hok, e.bare⟩
section
variable {X : Cx} {pins : List (Addr × Obj)} {σ : St} {H : Hp} {s s' : Shared}
/-- from a body: what a callee wants -/
theorem Inv.env0 (I : Inv X pins σ H s) : Env0 X.prog X.w X.K X.mg X.base X.A X.stack s H :=
  ⟨I.ok.frames, I.ok.mod, I.bs, Nat.le_trans I.ok.bsz I.sz, I.stack, I.stkFree, I.hok, I.bare⟩
/-- behind a call -/
theorem Inv.after {Q : VK} {u : Value} (I : Inv X pins σ H s) (h : CE X.stack X.prog X.w H s Q u s') : EP X pins σ Q u s' := by
  obtain ⟨v, H', os, bare, un, hok, r, q⟩ := h
  obtain ⟨hh, g, d, t, os'⟩ := s'
  obtain rfl : os' = s.os := os
  exact ⟨v, H', I.call (h' := hh) (g' := g) (d' := d) (t' := t) (ch := []) un hok bare (fun b z => absurd z (by simp)), r, q⟩
end

/-- f(..): the written arguments, then the defaults dvs; E: what is wanted of an exception -/
def tCall (sp : Sp) (dvs : List V) (E : XK) (t : TA) : TE := fun σ H Q => t σ H fun vs H1 => sp (vs ++ dvs) H1 Q E
/-- o.m(..) of an instance of the class at C -/
def tMeth (C : Addr) (m : Str) (sp : Sp) (dvs : List V) (E : XK) (ta : TE) (t : TA) : TE := fun σ H Q => ta σ H fun x H1 => ∃ a dx fs, x = .ref a ∧ H1 a = some (.ins C dx fs) ∧ fs.lookup m = none ∧
  t σ H1 fun vs H2 => sp (x :: (vs ++ dvs)) H2 Q E
/-- C(..): a new instance and its dict, then __init__ -/
def tMake (C : Addr) (sp : Sp) (dvs : List V) (E : XK) (t : TA) : TE := fun σ H Q => t σ H fun vs H1 => ∀ x dx, H1 x = none → H1 dx = none → dx ≠ x →
  sp (.ref x :: (vs ++ dvs)) (upd (upd H1 dx (.own x)) x (.ins C dx [])) (fun v H2 => v = .non ∧ Q (.ref x) H2) E

/-- how the parameters are bound: us the positional arguments, kw the keywords' values by name, ds the defaults that fill up -/
def Binds (K : PySem.W.Frag) (fd : FuncData) (ps : List Str) (ds : List Value) : Prop :=
  ∀ (s : Shared) (us : List Value), K.In s.heap → (us ++ ds).length = ps.length → BindsTo s fd ⟨us, []⟩ (ps.zip (us ++ ds))
/-- every parameter is given -/
theorem Binds.all {K : PySem.W.Frag} {fd : FuncData} {ps : List Str} (h : ∀ us : List Value, us.length = ps.length → bindArgs fd ⟨us, []⟩ = pure (ps.zip us)) : Binds K fd ps [] := fun s us _ hl => by
  rw [List.append_nil] at hl ⊢
  exact .of_eq (h us hl)

/-- an exception of a callee reaches what this body wants of exceptions -/
def Passes (CX : CXT) (X : Cx) (E : XK) : Prop := ∀ (pins : List (Addr × Obj)) (σ : St) (H : Hp) (s : Shared) (e : Value) (s' : Shared), Inv X pins σ H s → CX X.stack H s E e s' → X.xe e s'

section
variable {X : Cx} {CX : CXT} {k : Nat} {f C : Addr} {fd : FuncData} {ps : List Str} {sp : Sp} {dvs : List V} {ds : List Value} {E : XK} {x m : Str} {p pos apos : Pos} {e o : Expr} {es : List Expr} {ta : TE} {t : TA}

/-- the callee runs -/
theorem run_fn {pins : List (Addr × Obj)} {σ : St} {H : Hp} {s : Shared} {Q : VK} {us : List Value} {vs : List V} (F : FnOk X.prog X.w X.K X.mg X.base CX k f fd ps sp) (hr : Room k X.A) (hb : Binds X.K fd ps ds) (hd : Vals dvs ds) (hx : Passes CX X E)
    (I : Inv X pins σ H s) (r : Vals vs us) (h : sp (vs ++ dvs) H Q E) : wpAny (model X.prog X.w) X.A (call (.ref f) us) (EP X pins σ Q) X.xe s := by
  have r2 : Vals (vs ++ dvs) (us ++ ds) := r.append hd
  have hl : (us ++ ds).length = ps.length := by rw [← r2.length]; exact F.len _ _ _ _ h
  refine wpAny_call (codeAny_mono (F.run X.A X.stack s H ⟨us, []⟩ (us ++ ds) (vs ++ dvs) Q E hr I.env0 (hb s us I.kIn hl) r2 h) fun r s' hq => ?_)
  cases r with
  | error e => exact hx pins σ H s e s' I hq
  | ok fl =>
    cases fl with
    | ret u => exact I.after hq
    | next => exact False.elim hq
    | brk => exact False.elim hq
    | cont => exact False.elim hq

theorem pe_call (F : FnOk X.prog X.w X.K X.mg X.base CX k f fd ps sp) (hr : Room k X.A) (hg : Gl X x) (hm : X.mg x = some (.ref f)) (hk : PySem.W.keepIn X.K (.ref f) = true) (hb : Binds X.K fd ps ds) (hd : Vals dvs ds) (hx : Passes CX X E)
    (ha : PA X (e :: es) t) (hdb : (x == ("__debug__" : Str)) = false := by decide) (he : starEach (e :: es) X.env = (false, eval e X.env) :: starEach es X.env := by rfl) (hpl : (backTo pos (starEach es X.env)).any (·.1) = false := by rfl) :
    PE X (.Call (.Name x p) (e :: es) [] pos) (tCall sp dvs E t) := by
  intro pins s σ H Q I h
  refine wpAny_Call_Name_kw (ld_glob I hg hm ?_ hdb)
  refine PySem.W.callWith_K (h₀ := X.base) I.ok.mod.kin hk (thn (ha pos pins s σ H _ I h) fun us s1 ⟨vs, H1, I1, r, q⟩ => ⟨I1.kIn, ?_⟩) he hpl
  exact run_fn F hr hb hd hx I1 r q
/-- o.m(e, ..) -/
theorem pe_meth {pl : Sem Bool} (he : PE X o ta) (c : Cls X.K C) (hm : Meth X.K C m f) (F : FnOk X.prog X.w X.K X.mg X.base CX k f fd ps sp) (hr : Room k X.A) (hb : Binds X.K fd ps ds) (hd : Vals dvs ds) (hx : Passes CX X E) (ha : PA X (e :: es) t)
    (hst : starEach (e :: es) X.env = (false, eval e X.env) :: starEach es X.env := by rfl) (hpl : (backTo pos (starEach es X.env)).any (·.1) = false := by rfl)
    (ht : eval (.Call (.Attribute o m apos) (e :: es) [] pos) X.env = (do
      let ov ← eval o X.env
      standAt apos.atName
      let (f, first) ← holding [ov] (getMethod ov m pl)
      callWith pos f first (backTo pos (starEach (e :: es) X.env)) (backToKw pos (keywordEach [] X.env))) := by rfl) :
    PE X (.Call (.Attribute o m apos) (e :: es) [] pos) (tMeth C m sp dvs E ta t) := by
  intro pins s σ H Q I h
  refine PySem.W.methodCall_KW (pl := pl) (thn (he pins s σ H _ I h) fun u s1 ⟨x, H1, I1, rx, a, dx, fs, ex, ea, l, q⟩ => ?_) ht
  subst ex
  obtain rfl : u = Value.ref a := rx
  refine getmeth_ok I1 ea c hm l ?_
  refine PySem.W.callWith_K (first := [.ref a]) (h₀ := X.base) I.ok.mod.kin hm.kp (thn (ha pos pins s1 σ H1 _ I1 q) fun us s2 ⟨vs, H2, I2, r, q2⟩ => ⟨I2.kIn, ?_⟩) hst hpl
  exact run_fn (us := .ref a :: us) (vs := .ref a :: vs) F hr hb hd hx I2 (.cons rfl r) q2
/-- o.m() -/
theorem pe_meth0 {pl : Sem Bool} (he : PE X o ta) (c : Cls X.K C) (hm : Meth X.K C m f) (F : FnOk X.prog X.w X.K X.mg X.base CX k f fd ps sp) (hr : Room k X.A) (hb : Binds X.K fd ps ds) (hd : Vals dvs ds) (hx : Passes CX X E)
    (ht : eval (.Call (.Attribute o m apos) [] [] pos) X.env = (do
      let ov ← eval o X.env
      standAt apos.atName
      let (f, first) ← holding [ov] (getMethod ov m pl)
      callWith pos f first (backTo pos (starEach [] X.env)) (backToKw pos (keywordEach [] X.env))) := by rfl) :
    PE X (.Call (.Attribute o m apos) [] [] pos) (tMeth C m sp dvs E ta tNil) := by
  intro pins s σ H Q I h
  refine PySem.W.methodCall_KW (pl := pl) (thn (he pins s σ H _ I h) fun u s1 ⟨x, H1, I1, rx, a, dx, fs, ex, ea, l, q⟩ => ?_) ht
  subst ex
  obtain rfl : u = Value.ref a := rx
  refine getmeth_ok I1 ea c hm l ?_
  exact PySem.W.callWith_K0 (first := [.ref a]) I1.kIn hm.kp (run_fn (us := [.ref a]) (vs := [.ref a]) F hr hb hd hx I1 (.cons rfl .nil) q)

/-- what a class must have to be made -/
structure Mk (K : PySem.W.Frag) (C f : Addr) : Prop where
  makes : PySem.W.makesIn K C = true
  init : PySem.W.findIn K (.ref C) "__init__" = some (some (.ref f))
  fn : PySem.W.isFn K (.ref f) = true
  kp : PySem.W.keepIn K (.ref C) = true

theorem run_make {pins : List (Addr × Obj)} {σ : St} {H : Hp} {s : Shared} {Q : VK} {us : List Value} {vs : List V} (M : Mk X.K C f) (F : FnOk X.prog X.w X.K X.mg X.base CX k f fd ps sp) (hr : Room (k + 1) X.A) (hb : Binds X.K fd ps ds) (hd : Vals dvs ds)
    (hx : Passes CX X E) (I : Inv X pins σ H s) (r : Vals vs us)
    (h : ∀ x dx, H x = none → H dx = none → dx ≠ x → sp (.ref x :: (vs ++ dvs)) (upd (upd H dx (.own x)) x (.ins C dx [])) (fun v H2 => v = .non ∧ Q (.ref x) H2) E) :
    wpAny (model X.prog X.w) X.A (call (.ref C) us) (EP X pins σ Q) X.xe s := by
  have hq := h (s.heap.objs.size + 1) s.heap.objs.size (I.hok.fresh (Nat.le_succ _)) (I.hok.fresh (Nat.le_refl _)) (Nat.ne_of_lt (Nat.lt_succ_self _))
  have I2 := Inv.made (C := C) I
  have r2 : Vals (V.ref (s.heap.objs.size + 1) :: (vs ++ dvs)) (Value.ref (s.heap.objs.size + 1) :: (us ++ ds)) := .cons rfl (r.append hd)
  have hl : (Value.ref (s.heap.objs.size + 1) :: us ++ ds).length = ps.length := by
    have e := r2.length
    rw [F.len _ _ _ _ hq] at e
    exact e.symm
  refine wpAny_call (make_map (f := f) I.kIn M.makes M.init (beq_iff_eq.mp M.fn) (codeAny_mono (F.run _ X.stack _ _ ⟨Value.ref (s.heap.objs.size + 1) :: us, []⟩ (Value.ref (s.heap.objs.size + 1) :: (us ++ ds)) _ _ E (hr.make C us [])
    (I2.env0.make C us []) (hb _ (Value.ref (s.heap.objs.size + 1) :: us) I2.kIn hl) r2 hq) fun r s' hq' => ?_))
  cases r with
  | error e => exact hx pins σ _ _ e s' I2 hq'
  | ok fl =>
    cases fl with
    | ret u =>
      obtain ⟨v, H', I3, rv, ev, q3⟩ := I2.after hq'
      subst ev
      exact ⟨rv, ⟨V.ref (s.heap.objs.size + 1), H', I3, rfl, q3⟩⟩
    | next => exact False.elim hq'
    | brk => exact False.elim hq'
    | cont => exact False.elim hq'
theorem pe_make (M : Mk X.K C f) (F : FnOk X.prog X.w X.K X.mg X.base CX k f fd ps sp) (hr : Room (k + 1) X.A) (hg : Gl X x) (hm : X.mg x = some (.ref C)) (hb : Binds X.K fd ps ds) (hd : Vals dvs ds) (hx : Passes CX X E)
    (ha : PA X (e :: es) t) (hdb : (x == ("__debug__" : Str)) = false := by decide) (he : starEach (e :: es) X.env = (false, eval e X.env) :: starEach es X.env := by rfl) (hpl : (backTo pos (starEach es X.env)).any (·.1) = false := by rfl) :
    PE X (.Call (.Name x p) (e :: es) [] pos) (tMake C sp dvs E t) := by
  intro pins s σ H Q I h
  refine wpAny_Call_Name_kw (ld_glob I hg hm ?_ hdb)
  refine PySem.W.callWith_K (h₀ := X.base) I.ok.mod.kin M.kp (thn (ha pos pins s σ H _ I h) fun us s1 ⟨vs, H1, I1, r, q⟩ => ⟨I1.kIn, ?_⟩) he hpl
  exact run_make M F hr hb hd hx I1 r q
end

section
variable {X : Cx} {CX : CXT} {k : Nat} {f C : Addr} {fd : FuncData} {ps ks : List Str} {sp : Sp} {E : XK} {x m : Str} {p pos apos kpos : Pos} {e o : Expr} {es : List Expr} {kws : List Keyword} {te ta : TE} {t tk : TA} {nm : Option Str}
variable {g : List Value → List Value → List Value} {gV : List V → List V → List V}
end

/-- names: the parameters first -/
structure FnScope (N P : List Str) (sc : Scope) : Prop where
  kind : sc.kind = .function
  co : sc.isCoroutine = false
  gen : sc.isGenerator = false
  nd : N.Nodup
  pre : N.take P.length = P
  par : ∀ x ∈ P, sc.names.lookup x = some .local ∨ sc.names.lookup x = some .cell
  nofree : ∀ y ∈ sc.names, y.2 ≠ .free

theorem bindL_out {kindOf : Str → Option NameKind} {x : Str} : ∀ {binds : List (Str × Value)} {m : Str → Option Value}, (∀ v, (x, v) ∉ binds) → bindL kindOf binds m x = m x
  | [], _, _ => rfl
  | (n, v) :: r, m, h => by
    unfold bindL
    rw [bindL_out fun w hw => h w (List.mem_cons_of_mem _ hw)]
    split
    · have : x ≠ n := by rintro rfl; exact h v List.mem_cons_self
      simp [this]
    · rfl
theorem bindC_out {kindOf : Str → Option NameKind} {x : Str} : ∀ {binds : List (Str × Value)} {m : Str → Option Value}, (∀ v, (x, v) ∉ binds) → bindC kindOf binds m x = m x
  | [], _, _ => rfl
  | (n, v) :: r, m, h => by
    unfold bindC
    rw [bindC_out fun w hw => h w (List.mem_cons_of_mem _ hw)]
    split
    · rfl
    · have : x ≠ n := by rintro rfl; exact h v List.mem_cons_self
      simp [this]
theorem bindL_get {kindOf : Str → Option NameKind} {x : Str} {v : Value} : ∀ {P : List Str} {vs : List Value} {i : Nat} {m : Str → Option Value}, P.Nodup → P[i]? = some x → vs[i]? = some v → kindOf x = some .local →
    bindL kindOf (P.zip vs) m x = some v
  | [], _, _, _, _, h, _, _ => by simp at h
  | _ :: _, [], _, _, _, _, h, _ => by simp at h
  | p :: P, w :: vs, 0, m, nd, h1, h2, hk => by
    simp at h1 h2; subst h1; subst h2
    show bindL kindOf ((p, w) :: P.zip vs) m p = _
    unfold bindL
    rw [bindL_out fun v hv => (List.nodup_cons.mp nd).1 (List.of_mem_zip hv).1, if_pos hk]
    simp
  | p :: P, w :: vs, i + 1, m, nd, h1, h2, hk => by
    show bindL kindOf ((p, w) :: P.zip vs) m x = _
    unfold bindL
    exact bindL_get (i := i) (List.nodup_cons.mp nd).2 (by simpa using h1) (by simpa using h2) hk
theorem bindC_get {kindOf : Str → Option NameKind} {x : Str} {v : Value} : ∀ {P : List Str} {vs : List Value} {i : Nat} {m : Str → Option Value}, P.Nodup → P[i]? = some x → vs[i]? = some v → kindOf x ≠ some .local →
    bindC kindOf (P.zip vs) m x = some v
  | [], _, _, _, _, h, _, _ => by simp at h
  | _ :: _, [], _, _, _, _, h, _ => by simp at h
  | p :: P, w :: vs, 0, m, nd, h1, h2, hk => by
    simp at h1 h2; subst h1; subst h2
    show bindC kindOf ((p, w) :: P.zip vs) m p = _
    unfold bindC
    rw [bindC_out fun v hv => (List.nodup_cons.mp nd).1 (List.of_mem_zip hv).1, if_neg hk]
    simp
  | p :: P, w :: vs, i + 1, m, nd, h1, h2, hk => by
    show bindC kindOf ((p, w) :: P.zip vs) m x = _
    unfold bindC
    exact bindC_get (i := i) (List.nodup_cons.mp nd).2 (by simpa using h1) (by simpa using h2) hk

/-- the names' values at the entry -/
def start (N : List Str) (vs : List V) : St := vs.map some ++ List.replicate (N.length - vs.length) none

/-- the context of a def's body, at its entry; an exception leaves the frame, then lies as CX says -/
def cxOf (CX : CXT) (P : Program) (w : World) (K : PySem.W.Frag) (mg : Str → Option Value) (base : Heap) (N : List Str) (qual : Str) (scope : Scope) (f : Addr) (cd : Value) (A : Around) (outer : List Env) (s : Shared) (H : Hp) (E : XK) : Cx where
  prog := P
  w := w
  K := K
  mg := mg
  base := base
  A := A.deeper (envOfC qual scope s.heap.objs.size f cd)
  N := N
  s₀ := s
  H₀ := H
  env := envOfC qual scope s.heap.objs.size f cd
  outer := outer
  stack := envOfC qual scope s.heap.objs.size f cd :: outer
  ex := []
  calm := true
  fn := fun _ => true
  pn := []
  xe := fun e s' => wpAny (model P w) (A.deeper (envOfC qual scope s.heap.objs.size f cd)) (leaving (envOfC qual scope s.heap.objs.size f cd) e) (fun _ s'' => CX outer H s E e s'') (fun e' s'' => CX outer H s E e' s'') s'

theorem cell_has {sc : Scope} {n : Nat} {x : Str} (h : sc.names.lookup x = some .cell) : ∃ c, (cellsFrom n sc.names []).lookup x = some c := by
  have q := PySem.W.cellsFrom_some sc.names n [] (.inl h)
  exact Option.isSome_iff_exists.mp q

theorem inv_start {CX : CXT} {P : Program} {w : World} {K : PySem.W.Frag} {mg : Str → Option Value} {base : Heap} {N ps : List Str} {qual : Str} {scope : Scope} {f : Addr} {cd : Value} {A : Around} {outer : List Env} {s s1 : Shared} {H : Hp} {E : XK} {us : List Value} {vs : List V}
    (S : FnScope N ps scope) (hd : A.handled = none) (e0 : Env0 P w K mg base A outer s H) (hl : vs.length = ps.length) (r : Vals vs us)
    (x : InCallC s s.heap.objs.size (bindL (envOfC qual scope s.heap.objs.size f cd).kindOf (ps.zip us) fun _ => none) (cellsFrom (s.heap.objs.size + 1) scope.names []) (bindC (envOfC qual scope s.heap.objs.size f cd).kindOf (ps.zip us) fun _ => none) s1) :
    Inv (cxOf CX P w K mg base N qual scope f cd A outer s H E) [] (start N vs) H s1 := by
  have hpl : ps.length ≤ N.length := by have := congrArg List.length S.pre; rw [List.length_take] at this; omega
  obtain ⟨h1, tk, rfl, hk⟩ := x.done
  have noA : ∀ b : Addr, b ∉ (cxOf CX P w K mg base N qual scope f cd A outer s H E).ex := fun b z => absurd (show b ∈ ([] : List Addr) from z) (by simp)
  refine ⟨⟨e0.mod, S.kind, rfl, rfl, Nat.le_refl _, fun y z c h1 h2 => ?_, fun y hy => ?_, fun y c _ h => ?_, fun _ => hd, Around.frames_deeper e0.frames, .inr ⟨rfl, rfl⟩, fun b z => absurd z (noA b), e0.bs, e0.bsz, fun b _ _ => noA b, fun b z => absurd z (noA b), e0.funs, e0.frf⟩,
    rfl, e0.bare, Un.kept hk, ⟨_, x.toInCall.ns, fun i y v h1 h2 h3 => ?_⟩, fun y c h => ⟨_, x.cell y c h⟩, e0.hok.fresh (Nat.le_refl _), fun y c h => ?_, fun p hp => absurd (show p ∈ ([] : List (Addr × Obj)) from hp) (by simp), e0.hok.kept hk, ?_⟩
  · exact name_of_addr x.apart (PySem.mem_of_lookup h1) (PySem.mem_of_lookup h2)
  · have hy : scope.names.lookup y = some .cell ∨ scope.names.lookup y = some .free := hy
    rcases hy with hy | hy
    · exact cell_has hy
    · exact absurd rfl (S.nofree _ (PySem.mem_of_lookup hy))
  · exact Nat.le_of_lt (x.above y c (PySem.mem_of_lookup h))
  · have hi : i < vs.length := by
      unfold start at h2
      by_cases hi : i < vs.length
      · exact hi
      · rw [List.getElem?_append_right (by simpa using hi)] at h2
        rw [List.getElem?_replicate] at h2
        split at h2 <;> cases h2
    have ha : vs[i]? = some v := by
      unfold start at h2
      rw [List.getElem?_append_left (by simpa using hi), List.getElem?_map] at h2
      cases e : vs[i]? with
      | none => rw [e] at h2; cases h2
      | some a => rw [e] at h2; cases h2; rfl
    obtain ⟨u, hu, rv⟩ := r.get ha
    have hp : ps[i]? = some y := by
      rw [← S.pre, List.getElem?_take_of_lt (by omega)]; exact h1
    have ndP : ps.Nodup := by rw [← S.pre]; exact S.nd.sublist (List.take_sublist _ _)
    refine ⟨u, rv, ?_⟩
    rcases S.par y (List.mem_of_getElem? hp) with k | k
    · exact .inl ⟨k, bindL_get ndP hp hu k⟩
    · obtain ⟨c, e⟩ := cell_has (n := s.heap.objs.size + 1) k
      refine .inr ⟨.inl k, c, e, ?_⟩
      have q := x.cell y c e
      rw [bindC_get ndP hp hu (by show scope.names.lookup y ≠ _; rw [k]; decide)] at q
      exact q
  · exact e0.hok.fresh (Nat.le_of_lt (x.above y c (PySem.mem_of_lookup h)))
  · unfold start
    show _ = N.length
    rw [List.length_append, List.length_map, List.length_replicate]
    omega

/-- THE RULE: a def (or a method) of the text, by its body. The body's reading t is chosen for each entry; it is run at the parameters' values -/
theorem fn_of {CX : CXT} {P : Program} {w : World} {K : PySem.W.Frag} {mg : Str → Option Value} {base : Heap} {k : Nat} {f : Addr} {name qual : Str} {params : Arguments} {body : List Stmt} {scope : Scope} {dV kV doc pm cdv ct oc : Value} {an od : Option Addr}
    {osl : Array (Option Value)} {N ps : List Str} {sp : Sp} (lk : K.lookup f = some ⟨oc, od, .func (PySem.W.fnOf name qual params body scope dV kV doc pm an cdv ct), osl⟩) (hcd : PySem.W.codeIn K cdv qual = true) (S : FnScope N ps scope)
    (len : ∀ vs H Q E, sp vs H Q E → vs.length = ps.length)
    (hbody : ∀ (A : Around) (outer : List Env) (s : Shared) (H : Hp) (vs : List V) (Q : VK) (E : XK), Room k (A.deeper (envOfC qual scope s.heap.objs.size f cdv)) → sp vs H Q E →
      ∃ t, PSs (cxOf CX P w K mg base N qual scope f cdv A outer s H E) body t ∧ t { nx := fun _ H' => Q .non H', rt := Q } (start N vs) H) :
    FnOk P w K mg base CX (k + 1) f (PySem.W.fnOf name qual params body scope dV kV doc pm an cdv ct) ps sp := by
  refine ⟨len, fun A outer s H args us vs Q E hr e0 hb r hsp => ?_⟩
  have hl := len _ _ _ _ hsp
  have KX : K.In s.heap := e0.mod.kin.keeps fun b o e => (e0.bs b o e).1
  have lim : s.heap.NoLimit := e0.mod.nolimit.keeps fun b o e => (e0.bs b o e).1
  have hkind : ∀ y ∈ ps.zip us, scope.names.lookup y.1 = some .local ∨ (scope.names.lookup y.1 = some .cell ∧ ((cellsFrom (s.heap.objs.size + 1) scope.names []).lookup y.1).isSome = true) := fun ⟨n, v⟩ hy => by
    rcases S.par n (List.of_mem_zip hy).1 with q | q
    · exact .inl q
    · exact .inr ⟨q, PySem.W.cellsFrom_some _ _ _ (.inl q)⟩
  refine codeAny_call_function hr.depth (KX _ _ lk) rfl S.co S.gen rfl (PySem.W.codeRec_of KX hcd) (hb _ _ _ _ ?_)
  refine wpAny_newFunctionEnv_cells S.kind hkind fun env he s1 x => ?_
  subst he
  refine ⟨lim.keeps x.toInCall.keep, codeAny_func ?_⟩
  obtain ⟨t, ht, hq⟩ := hbody A outer s H vs Q E (hr.deeper _) hsp
  have I : Inv (cxOf CX P w K mg base N qual scope f cdv A outer s H E) [] (start N vs) H s1 := inv_start S hr.hd e0 hl r x
  refine wpAny_mono (ht [] s1 (start N vs) H _ I hq) (fun fl s' hs => ?_) fun e s' hs => hs
  have fin : ∀ {σ' : St} {H' : Hp} {v : V} {u : Value}, Inv (cxOf CX P w K mg base N qual scope f cdv A outer s H E) [] σ' H' s' → RelV v u → Q v H' → CE outer P w H s Q u s' :=
    fun {σ' H' v u} J rv q => ⟨v, H', J.os, J.bare, J.base, J.hok, rv, q⟩
  cases fl with
  | ret u =>
    obtain ⟨v, σ', H', J, rv, q⟩ := hs
    exact fin J rv q
  | next =>
    obtain ⟨σ', H', J, q⟩ := hs
    exact fin (v := V.non) (u := Value.none) J rfl q
  | brk =>
    obtain ⟨_, _, _, q⟩ := hs
    exact False.elim q
  | cont =>
    obtain ⟨_, _, _, q⟩ := hs
    exact False.elim q
end L2

namespace L2
open PySem PySem.Spec PyProof.Rows
section
variable {X : Cx} {x : Str} {p pos : Pos} {e : Expr} {es : List Expr} {t : TA} {id T : String} {r : List V → Hp → VK → Prop}

def tCB (r : List V → Hp → VK → Prop) (t : TA) : TE := fun σ H Q => t σ H fun vs H1 => r vs H1 Q
/-- f(e, ..), f a built-in function -/
theorem pe_callB (hc : CallR X (.builtin id) r) (hg : Gl X x) (hm : X.mg x = none) (hv : bootBuiltins x = some (.builtin id)) (ha : PA X (e :: es) t) (hn : x ≠ "__name__" := by decide) (hdb : (x == ("__debug__" : Str)) = false := by decide)
    (he : starEach (e :: es) X.env = (false, eval e X.env) :: starEach es X.env := by rfl) (hpl : (backTo pos (starEach es X.env)).any (·.1) = false := by rfl) : PE X (.Call (.Name x p) (e :: es) [] pos) (tCB r t) := by
  intro pins s σ H Q I h
  refine wpAny_Call_Name_kw (ld_blt I hg hm hv ?_ hn hdb)
  exact PyProof.Rows.callWith_builtin1 (thn (ha pos pins s σ H _ I h) fun us s1 ⟨vs, H1, I1, r1, q1⟩ => hc pins s1 σ H1 vs us Q I1 r1 q1) he hpl
/-- T(e, ..), T a built-in type -/
theorem pe_callTy (hc : CallR X (.type T) r) (hg : Gl X x) (hm : X.mg x = none) (hv : bootBuiltins x = some (.type T)) (ha : PA X (e :: es) t) (hn : x ≠ "__name__" := by decide) (hdb : (x == ("__debug__" : Str)) = false := by decide)
    (he : starEach (e :: es) X.env = (false, eval e X.env) :: starEach es X.env := by rfl) (hpl : (backTo pos (starEach es X.env)).any (·.1) = false := by rfl) : PE X (.Call (.Name x p) (e :: es) [] pos) (tCB r t) := by
  intro pins s σ H Q I h
  refine wpAny_Call_Name_kw (ld_blt I hg hm hv ?_ hn hdb)
  exact PyProof.Rows.callWith_type1 (thn (ha pos pins s σ H _ I h) fun us s1 ⟨vs, H1, I1, r1, q1⟩ => hc pins s1 σ H1 vs us Q I1 r1 q1) he hpl
end
end L2

namespace HT
open PySem PyProof.Rows

section
open PySem.SeqAt
open PySem.AutoSeq1 (wpAny_loadPart')
open PySem.MeetsSeq PySem.MeetsSeq2 PySem.MeetsSeq3

end

section
variable {prog : Program} {w : World} {A : Around} {E : Value → Shared → Prop} {s : Shared}

/-- a slice's bound as a place among n (d where it is left out) -/
def sIx (n d : Nat) : Option Int → Nat
  | none => d
  | some v => if v < 0 then (v + (n : Int)).toNat else min v.toNat n
theorem sIx_nat (n d k : Nat) : sIx n d (some (k : Int)) = min k n := by
  show (if (k : Int) < 0 then ((k : Int) + (n : Int)).toNat else min (k : Int).toNat n) = min k n
  rw [if_neg (by omega), Int.toNat_natCast]
end
end HT

namespace L2
open PySem PySem.Spec PyProof.Rows

abbrev TO := St → Hp → (Option Int → Hp → Prop) → Prop
/-- a slice's part (left out, or an int) -/
def PO (X : Cx) (e : Option Expr) (t : TO) : Prop :=
  ∀ (pins : List (Addr × Obj)) (s : Shared) (σ : St) (H : Hp) (Q : Option Int → Hp → Prop), Inv X pins σ H s → t σ H Q →
    wpAny (model X.prog X.w) X.A (evalPart e X.env) (fun u s' => ∃ o H', Inv X pins σ H' s' ∧ IsPart u o ∧ Q o H') X.xe s
def tNoPart : TO := fun _ H Q => Q none H
def tPart (t : TE) : TO := fun σ H Q => t σ H fun x H1 => ∃ i, x = .int i ∧ Q (some i) H1

theorem intsAre_of {ns : List Int} : ∀ {us : List Value}, Vals (ns.map V.int) us → IntsAre us ns := by
  induction ns with
  | nil => intro us r; rw [List.map_nil] at r; cases r; exact .nil
  | cons n ns ih =>
    intro us r
    rw [List.map_cons] at r
    cases r with
    | cons r1 r2 =>
      obtain ⟨t, e⟩ := r1
      subst e
      exact .cons n t (ih r2)

section
variable {X : Cx} {e : Expr} {te : TE} {lo hi : Option Expr} {tl th : TO} {pos p2 : Pos}

theorem po_none : PO X none tNoPart := by
  intro pins s σ H Q I h
  rw [evalPart_none]
  exact wpAny_pure ⟨none, H, I, .none, h⟩
theorem po_some (h : PE X e te) : PO X (some e) (tPart te) := by
  intro pins s σ H Q I hw
  rw [evalPart_some]
  refine thn (h pins s σ H _ I hw) fun u s1 ⟨x, H1, I1, r1, q1⟩ => ?_
  obtain ⟨i, rfl, q⟩ := q1
  obtain ⟨t, rfl⟩ := r1
  exact ⟨some i, H1, I1, .int i t, q⟩

/-- what a slice of a value is, by values: the slice object stands at sl -/
def SlR (X : Cx) (r : V → Option Int → Option Int → Hp → VK → Prop) : Prop :=
  ∀ (pins : List (Addr × Obj)) (s : Shared) (σ : St) (H : Hp) (x : V) (v vl vu : Value) (lo hi : Option Int) (sl : Addr) (Q : VK), Inv X pins σ H s → RelV x v → s.heap.IsSliceOf sl vl vu .none → IsPart vl lo → IsPart vu hi → r x lo hi H Q →
    ∃ T id, typeLookup (.type T) "__getitem__" = pure (some (.builtin id)) ∧ s.TypeIs v T ∧ wpAny (model X.prog X.w) X.A (getItem v (.ref sl)) (EP X pins σ Q) X.xe s
def tSl (r : V → Option Int → Option Int → Hp → VK → Prop) (te : TE) (tl th : TO) : TE := fun σ H Q => te σ H fun x H1 => tl σ H1 fun l H2 => th σ H2 fun u H3 => r x l u H3 Q
/-- a[lo:hi], any a -/
theorem pe_slice {r : V → Option Int → Option Int → Hp → VK → Prop} (hr : SlR X r) (he : PE X e te) (hl : PO X lo tl) (hu : PO X hi th) : PE X (.Subscript e (.Slice lo hi none p2) pos) (tSl r te tl th) := by
  intro pins s σ H Q I h
  refine Subscript_ (thn (he pins s σ H _ I h) fun v s1 ⟨x, H1, I1, r1, q1⟩ => ?_)
  refine wpAny_Slice (thn (hl pins s1 σ H1 _ I1 q1) fun vl s2 ⟨l, H2, I2, pl, q2⟩ => thn (hu pins s2 σ H2 _ I2 q2) fun vu s3 ⟨u, H3, I3, pu, q3⟩ => ?_)
  rw [evalPart_none]
  refine wpAny_pure ?_
  have I4 : Inv X pins σ H3 { s3 with heap := s3.heap.push { cls := .type "slice", data := .fields #[vl, vu, .none] } } := I3.kept (t' := s3.toks) fun b ob q => Heap.get?_push_of_some _ q
  obtain ⟨T, id, hT, ht, hg⟩ := hr pins { s3 with heap := s3.heap.push { cls := .type "slice", data := .fields #[vl, vu, .none] } } σ H3 x v vl vu l u s3.heap.objs.size Q I4 r1 (Heap.IsSliceOf.new ..) pl pu q3
  show wpAny (model X.prog X.w) X.A (subscriptTail e (.Slice lo hi none p2) v (.ref s3.heap.objs.size)) (EP X pins σ Q) X.xe { s3 with heap := s3.heap.push { cls := .type "slice", data := .fields #[vl, vu, .none] } }
  exact tail_any (ops := [.ref s3.heap.objs.size, v]) ht hT hg (by with_unfolding_all rfl)

/-- the items of xs[lo:hi] -/
def cutV (xs : List V) (lo hi : Option Int) : List V := (xs.drop (HT.sIx xs.length 0 lo)).take (HT.sIx xs.length xs.length hi - HT.sIx xs.length 0 lo)
theorem cutV_length (xs : List V) (lo hi : Option Int) : (cutV xs lo hi).length ≤ xs.length := by
  unfold cutV
  rw [List.length_take, List.length_drop]
  omega
end
end L2

namespace L2
open PySem PySem.Spec PyProof.Rows

/-- the place that an index of any sign means -/
def ixN (n : Nat) (i : Int) : Option Nat := if 0 ≤ i then (if i < n then some i.toNat else none) else if -(n : Int) ≤ i then some (i + n).toNat else none
def atI {α : Type} (xs : List α) (i : Int) : Option α := (ixN xs.length i).bind fun j => xs[j]?
theorem ixN_seq {n : Nat} {i : Int} {j : Nat} (h : ixN n i = some j) : seqIndex? i n = some j ∧ j < n ∧ -(n : Int) ≤ i ∧ i < n := by
  unfold ixN at h
  by_cases h0 : 0 ≤ i
  · rw [if_pos h0] at h
    by_cases h1 : i < n
    · rw [if_pos h1] at h
      have e : i.toNat = j := Option.some.inj h
      exact ⟨by rw [seqIndex_of h0 h1, e], by omega, by omega, h1⟩
    · rw [if_neg h1] at h; cases h
  · rw [if_neg h0] at h
    by_cases h1 : -(n : Int) ≤ i
    · rw [if_pos h1] at h
      have e : (i + n).toNat = j := Option.some.inj h
      exact ⟨by rw [seqIndex_neg (by omega) h1, e], by omega, h1, by omega⟩
    · rw [if_neg h1] at h; cases h
theorem atI_get {α : Type} {xs : List α} {i : Int} {v : α} (h : atI xs i = some v) : ∃ j, seqIndex? i xs.length = some j ∧ xs[j]? = some v ∧ j < xs.length ∧ -(xs.length : Int) ≤ i ∧ i < xs.length := by
  unfold atI at h
  cases e : ixN xs.length i with
  | none => rw [e] at h; cases h
  | some j =>
    rw [e] at h
    obtain ⟨h1, h2, h3, h4⟩ := ixN_seq e
    exact ⟨j, h1, h, h2, h3, h4⟩
theorem atI_nat {α : Type} {xs : List α} {j : Nat} {v : α} (h : xs[j]? = some v) : atI xs (j : Int) = some v := by
  have hj : j < xs.length := (List.getElem?_eq_some_iff.mp h).1
  have e : ixN xs.length (j : Int) = some j := by
    unfold ixN
    rw [if_pos (by omega), if_pos (by omega)]; simp
  unfold atI; rw [e]; exact h
/-- what stands as an index of a plain subscript -/
def PlainIx (b : Expr) : Prop := ∀ o i, subscripted b false o i = operate [o, i] (getItem o i)
/-- a subscript by values -/
def IxR (X : Cx) (r : R2) : Prop :=
  ∀ (value slice : Expr) (pins : List (Addr × Obj)) (s : Shared) (σ : St) (H : Hp) (x y : V) (v u : Value) (Q : VK), Inv X pins σ H s → RelV x v → RelV y u → r x y H Q →
    subscripted slice false v u = operate [v, u] (getItem v u) → wpAny (model X.prog X.w) X.A (subscriptTail value slice v u) (EP X pins σ Q) X.xe s
/-- a call of a builtin's method by values: the receiver, the arguments -/
def MtR (X : Cx) (id : String) (r : V → List V → Hp → VK → Prop) : Prop :=
  ∀ (pins : List (Addr × Obj)) (s : Shared) (σ : St) (H : Hp) (x : V) (xs : List V) (v : Value) (us : List Value) (Q : VK), Inv X pins σ H s → RelV x v → Vals xs us → r x xs H Q →
    wpAny (model X.prog X.w) X.A (call (.builtin id) (v :: us)) (EP X pins σ Q) X.xe s
section
variable {X : Cx} {a b : Expr} {ta tb : TE} {pos : Pos}
theorem IxR.or {r r' : R2} (h : IxR X r) (h' : IxR X r') : IxR X (fun x y H Q => r x y H Q ∨ r' x y H Q) := by
  intro value slice pins s σ H x y v u Q I rx ry q hs
  rcases q with q | q
  · exact h value slice pins s σ H x y v u Q I rx ry q hs
  · exact h' value slice pins s σ H x y v u Q I rx ry q hs
/-- a[b] -/
theorem pe_ix {r : R2} (hr : IxR X r) (ha : PE X a ta) (hb : PE X b tb) (hs : PlainIx b) : PE X (.Subscript a b pos) (tOp r ta tb) := by
  intro pins s σ H Q I h
  exact Subscript_ (binT ha hb I h fun v u s2 x y H2 I2 rx ry q => hr a b pins s2 σ H2 x y v u Q I2 rx ry q (hs _ _))

def rIxL (K : PySem.W.Frag) : R2 := fun x y H Q => ∃ p xs i v, x = .ref p ∧ y = .int i ∧ SqL K H p xs ∧ atI xs i = some v ∧ Q v H
def rIxT (K : PySem.W.Frag) : R2 := fun x y H Q => ∃ p xs i v, x = .ref p ∧ y = .int i ∧ SqT K H p xs ∧ atI xs i = some v ∧ Q v H
def rIxS : R2 := fun x y H Q => ∃ z i c, x = .str z ∧ y = .int i ∧ z.length ≤ sizeLine ∧ atI z.cps.toList i = some c ∧ Q (.str ⟨#[c]⟩) H
theorem ix_list : IxR X (rIxL X.K) := by
  intro value slice pins s σ H x y v u Q I rx ry h hs
  obtain ⟨p, xs, i, z, rfl, rfl, hq, he, q⟩ := h
  cases rx
  obtain ⟨t, rfl⟩ := ry
  obtain ⟨its, r, pl, hz⟩ := I.list hq
  obtain ⟨j, h1, h2, h3, h4, h5⟩ := atI_get he
  obtain ⟨w, ew, rw'⟩ := r.get h2
  have hl := r.length
  have hn := line63
  have fin : EP X pins σ Q w s := ⟨z, H, I, rw', q⟩
  by_cases h0 : 0 ≤ i
  · have hj : i.toNat = j := by
      rw [seqIndex_of h0 h5] at h1
      exact Option.some.inj h1
    exact item_listR pl.isList h0 (by omega) (by rw [hj]; simpa using ew) fin hs
  · have hj : (i + (its.toArray.size : Int)).toNat = j := by
      rw [seqIndex_neg (by omega) h4] at h1
      rw [List.size_toArray, ← hl]
      exact Option.some.inj h1
    exact subscriptTail_builtinR (x := w) pl.isList.typeIs slot_list_getitem.lookup
      (wpAny_getItem_list_neg (Q := fun r s' => r = w ∧ EP X pins σ Q r s') pl.isList (by omega) (by rw [List.size_toArray] <;> omega) (by omega) (by rw [hj]; simpa using ew) ⟨rfl, fin⟩) hs
theorem ix_tup : IxR X (rIxT X.K) := by
  intro value slice pins s σ H x y v u Q I rx ry h hs
  obtain ⟨p, xs, i, z, rfl, rfl, hq, he, q⟩ := h
  cases rx
  obtain ⟨t, rfl⟩ := ry
  obtain ⟨its, r, pl, hz⟩ := I.tuple hq
  obtain ⟨j, h1, h2, h3, h4, h5⟩ := atI_get he
  obtain ⟨w, ew, rw'⟩ := r.get h2
  have hl := r.length
  have hn := line63
  have fin : EP X pins σ Q w s := ⟨z, H, I, rw', q⟩
  exact subscriptTail_builtinR (x := w) pl.typeIs slot_tuple_getitem.lookup
    (getItem_tuple (j := j) (Q := fun r s' => r = w ∧ EP X pins σ Q r s') pl (by omega) (by omega) (by rw [List.size_toArray, ← hl]; exact h1) (by simpa using ew) ⟨rfl, fin⟩) hs
theorem ix_str : IxR X rIxS := by
  intro value slice pins s σ H x y v u Q I rx ry h hs
  obtain ⟨z, i, c, rfl, rfl, hz, he, q⟩ := h
  obtain ⟨t, rfl⟩ := rx
  obtain ⟨t', rfl⟩ := ry
  obtain ⟨j, h1, h2, h3, h4, h5⟩ := atI_get he
  have hl : z.cps.toList.length = z.length := by simp [Str.length]
  rw [hl] at h1 h4 h5
  have hn := line63
  exact tail_any (typeIs_str s z t) slot_str_getitem.lookup (getItem_str (c := c) (by
    have e1 : decide (i < -(2 ^ 63 : Int)) = false := decide_eq_false (by omega)
    have e2 : decide (i ≥ 2 ^ 63) = false := decide_eq_false (by omega)
    rw [e1, e2, Bool.or_false]) (by rw [h1]; simpa using h2) ⟨.str ⟨#[c]⟩, H, I.tok _, ⟨_, rfl⟩, q⟩) hs
/-- list, tuple or str -/
def rIx (K : PySem.W.Frag) : R2 := fun x y H Q => rIxL K x y H Q ∨ rIxT K x y H Q ∨ rIxS x y H Q
theorem ix_seq : IxR X (rIx X.K) := ix_list.or (ix_tup.or ix_str)

/-- the list's object behind a store -/
theorem mapSeq_set (its : List Value) (n j : Nat) (u : Value) : Obj.mapSeq (·.setIfInBounds j u) { cls := .type "list", data := .seq its.toArray n } = { cls := .type "list", data := .seq (its.set j u).toArray n } := by
  simp [Obj.mapSeq]
theorem Inv.lst {pins : List (Addr × Obj)} {σ : St} {H : Hp} {s : Shared} {p : Addr} {xs : List V} (I : Inv X pins σ H s) (h : H p = some (.lst xs)) :
    ∃ (its : List Value) (n : Nat), Vals xs its ∧ s.heap.get? p = some { cls := .type "list", data := .seq its.toArray n } ∧ xs.length ≤ sizeLine := by
  obtain ⟨z, its, n, r, e⟩ := I.hok p _ h
  exact ⟨its, n, r, e, z⟩
/-- the list at p is written by an update of its object -/
theorem Inv.lstUpd {pins : List (Addr × Obj)} {σ : St} {H : Hp} {s : Shared} {p : Addr} {xs ys : List V} {its its' : List Value} {n n' : Nat} {f : Obj → Obj} (I : Inv X pins σ H s) (h : H p = some (.lst xs))
    (ho : s.heap.get? p = some { cls := .type "list", data := .seq its.toArray n }) (hf : f { cls := .type "list", data := .seq its.toArray n } = { cls := .type "list", data := .seq its'.toArray n' }) (r : Vals ys its') (hz : ys.length ≤ sizeLine) (t : Nat) :
    Inv X pins σ (upd H p (.lst ys)) { s with heap := s.heap.update p f, toks := t } := by
  have e : (s.heap.update p f).get? p = some { cls := .type "list", data := .seq its'.toArray n' } := by
    rw [Heap.get?_update_self f ho (by rw [hf] <;> rfl), hf]
  refine I.write (x := p) (e := p) (by rw [h]; trivial) (.inl rfl) (fun b u hb q => (Heap.get?_update_other _ _ (Ne.symm hb)).trans q) ⟨_, e⟩ ?_
  exact ⟨hz, its', n', r, e⟩
def rSetL : V → V → V → Hp → (Hp → Prop) → Prop := fun o i v H Q => ∃ p xs k j, o = .ref p ∧ i = .int k ∧ H p = some (.lst xs) ∧ ixN xs.length k = some j ∧ Q (upd H p (.lst (xs.set j v)))
theorem set_list : PSet X rSetL := by
  intro pins s σ H o i v ov iv u Q I ro ri rv h
  obtain ⟨p, xs, k, j, rfl, rfl, hp, hj, q⟩ := h
  cases ro
  obtain ⟨t, rfl⟩ := ri
  obtain ⟨its, n, r, ho, hz⟩ := I.lst hp
  obtain ⟨h1, h2, h3, h4⟩ := ixN_seq hj
  have hl := r.length
  have hn := line63
  have I' : Inv X pins σ (upd H p (.lst (xs.set j v))) { s with heap := s.heap.update p (Obj.mapSeq (·.setIfInBounds j u)) } :=
    I.lstUpd hp ho (mapSeq_set its n j u) (r.set rv j) (by rw [List.length_set]; exact hz) s.toks
  by_cases h0 : 0 ≤ k
  · have hk : k.toNat = j := by
      rw [seqIndex_of h0 h4] at h1
      exact Option.some.inj h1
    exact PySem.W.ki_setAt ho h0 (by omega) (by rw [List.size_toArray, ← hl]; exact h4) (by rw [hk]; exact ⟨_, I', q⟩)
  · have hk : (k + (its.toArray.size : Int)).toNat = j := by
      rw [seqIndex_neg (by omega) h3] at h1
      rw [List.size_toArray, ← hl]
      exact Option.some.inj h1
    exact PySem.W.ki_setBack ho (by omega) (by rw [List.size_toArray, ← hl]; exact h3) (by omega) (by rw [hk]; exact ⟨_, I', q⟩)

theorem slice_bounds (lo hi : Option Int) (n : Nat) : (sliceBounds lo hi none n).1 = ((HT.sIx n 0 lo : Nat) : Int) ∧ (sliceBounds lo hi none n).2.1 = ((HT.sIx n n hi : Nat) : Int) ∧ (sliceBounds lo hi none n).2.2 = 1 := by
  refine ⟨?_, ?_, rfl⟩
  · cases lo with
    | none => simp [sliceBounds, HT.sIx]
    | some i =>
      simp only [sliceBounds, HT.sIx, Option.getD_none, show (1 : Int) > 0 by decide, if_true]
      by_cases h : i < 0
      · simp only [h, if_true] <;> omega
      · simp only [h, if_false] <;> omega
  · cases hi with
    | none => simp [sliceBounds, HT.sIx]
    | some i =>
      simp only [sliceBounds, HT.sIx, Option.getD_none, show (1 : Int) > 0 by decide, if_true]
      by_cases h : i < 0
      · simp only [h, if_true] <;> omega
      · simp only [h, if_false] <;> omega
theorem slicePick_cut (its : List Value) (lo hi : Option Int) : slicePick its.toArray lo hi none = ((its.drop (HT.sIx its.length 0 lo)).take (HT.sIx its.length its.length hi - HT.sIx its.length 0 lo)).toArray := by
  obtain ⟨h1, h2, h3⟩ := slice_bounds lo hi its.toArray.size
  unfold slicePick
  rw [h1, h2, h3]
  simp only [sliceRange_one, pick_run, List.size_toArray] <;> rfl
/-- xs[lo:hi] of a list: a new list -/
def rSlL (K : PySem.W.Frag) : V → Option Int → Option Int → Hp → VK → Prop := fun x lo hi H Q => ∃ a xs, x = .ref a ∧ SqL K H a xs ∧ ∀ p, H p = none → Q (.ref p) (upd H p (.lst (cutV xs lo hi)))
theorem sl_list : SlR X (rSlL X.K) := by
  intro pins s σ H x v vl vu lo hi sl Q I rx hs pl pu h
  obtain ⟨a, xs, rfl, hx, q⟩ := h
  cases rx
  obtain ⟨its, r, ht, hz⟩ := I.list hx
  have hlen := r.length
  refine ⟨"list", _, slot_list_getitem.lookup, ht.isList.typeIs, ?_⟩
  refine wpAny_getItem_list_slice ht.isList hs pl pu .none (by simp) ?_ (by rw [List.size_toArray] <;> omega)
  rw [slicePick_cut, ← hlen]
  refine ⟨.ref s.heap.objs.size, _, I.laid (t' := s.toks) (o := .lst (cutV xs lo hi)) (fun b ob q => Heap.get?_push_of_some _ q) (Nat.le_refl _) ?_, rfl, q _ (I.hok.fresh (Nat.le_refl _))⟩
  exact ⟨Nat.le_trans (cutV_length xs lo hi) hz, _, 0, (r.drop (HT.sIx xs.length 0 lo)).take (HT.sIx xs.length xs.length hi - HT.sIx xs.length 0 lo), Heap.get?_push_size _ rfl⟩

def flatV : V → Bool
  | .non => true
  | .bl _ => true
  | .int _ => true
  | .str _ => true
  | _ => false
/-- == of flat values -/
def eqV : V → V → Bool
  | .non, .non => true
  | .bl a, .bl b => a == b
  | .bl a, .int b => (if a then 1 else 0) == b
  | .int a, .bl b => a == (if b then 1 else 0)
  | .int a, .int b => a == b
  | .str a, .str b => a == b
  | _, _ => false
theorem eqAt_V {A : Around} {s : Shared} {y x : V} {u v : Value} (ry : RelV y u) (rx : RelV x v) (fy : flatV y = true) (fx : flatV x = true) : SeqAt.EqAt A s u v (eqV y x) := by
  cases y with
  | non =>
    cases ry
    cases x with
    | non => cases rx; exact SeqAt.EqAt.same _
    | bl b => cases rx; exact SeqAt.EqAt.none_bool b
    | int b => obtain ⟨t, rfl⟩ := rx; exact SeqAt.EqAt.none_int b t
    | str b => obtain ⟨t, rfl⟩ := rx; exact SeqAt.EqAt.none_str b t
    | _ => exact absurd (show false = true from fx) Bool.false_ne_true
  | bl a =>
    cases ry
    cases x with
    | non => cases rx; exact SeqAt.EqAt.bool_none a
    | bl b => cases rx; exact SeqAt.EqAt.bool_bool a b
    | int b => obtain ⟨t, rfl⟩ := rx; exact SeqAt.EqAt.bool_int a b t
    | str b => obtain ⟨t, rfl⟩ := rx; exact SeqAt.EqAt.bool_str a b t
    | _ => exact absurd (show false = true from fx) Bool.false_ne_true
  | int a =>
    obtain ⟨t', rfl⟩ := ry
    cases x with
    | non => cases rx; exact SeqAt.EqAt.int_none a t'
    | bl b => cases rx; exact SeqAt.EqAt.int_bool a t' b
    | int b => obtain ⟨t, rfl⟩ := rx; exact SeqAt.EqAt.int_int a t' b t
    | str b => obtain ⟨t, rfl⟩ := rx; exact SeqAt.EqAt.int_str a t' b t
    | _ => exact absurd (show false = true from fx) Bool.false_ne_true
  | str a =>
    obtain ⟨t', rfl⟩ := ry
    cases x with
    | non => cases rx; exact SeqAt.EqAt.str_none a t'
    | bl b => cases rx; exact SeqAt.EqAt.str_bool a t' b
    | int b => obtain ⟨t, rfl⟩ := rx; exact SeqAt.EqAt.str_int a t' b t
    | str b => obtain ⟨t, rfl⟩ := rx; exact SeqAt.EqAt.str_str a t' b t
    | _ => exact absurd (show false = true from fx) Bool.false_ne_true
  | _ => exact absurd (show false = true from fy) Bool.false_ne_true
theorem call_len_seq : CallR X (.builtin "len") (fun xs H Q => ∃ p ys, xs = [.ref p] ∧ (SqL X.K H p ys ∨ SqT X.K H p ys) ∧ Q (.int ys.length) H) := by
  intro pins s σ H xs us Q I r h
  obtain ⟨p, ys, rfl, hq, q⟩ := h
  obtain ⟨u, rfl, rx⟩ := vals1 r
  cases rx
  have hn := line63
  rcases hq with hq | hq
  · obtain ⟨its, r', pl, hz⟩ := I.list hq
    have hlen := r'.length
    exact Calls.call_len_list pl.isList (by simp only [List.size_toArray] <;> omega) ⟨.int ys.length, H, I.tok _, ⟨s.toks + 1, by rw [List.size_toArray, hlen]⟩, q⟩
  · obtain ⟨its, r', pl, hz⟩ := I.tuple hq
    have hlen := r'.length
    exact len_tuple pl (by simp only [List.size_toArray] <;> omega) ⟨.int ys.length, H, I.tok _, ⟨s.toks + 1, by rw [List.size_toArray, hlen]⟩, q⟩
theorem call_list_of : CallR X (.type "list") (fun xs H Q => ∃ p ys, xs = [.ref p] ∧ (SqL X.K H p ys ∨ SqT X.K H p ys) ∧ ∀ l, H l = none → Q (.ref l) (upd H l (.lst ys))) := by
  intro pins s σ H xs us Q I r h
  obtain ⟨p, ys, rfl, hq, q⟩ := h
  obtain ⟨u, rfl, rx⟩ := vals1 r
  cases rx
  have fin : ∀ (its : List Value), Vals ys its → ys.length ≤ sizeLine → ∀ (h' : Heap) (c' : Nat), (∀ b o', s.heap.get? b = some o' → h'.get? b = some o') →
      h'.get? s.heap.objs.size = some { cls := .type "list", dict := none, data := .seq its.toArray c', slots := #[] } → EP X pins σ Q (.ref s.heap.objs.size) { s with heap := h' } := fun its r' hz h' c' kp e =>
    ⟨.ref s.heap.objs.size, _, I.laid (t' := s.toks) kp (Nat.le_refl _) (show ObjOk X.prog X.w _ h' _ (.lst ys) from ⟨hz, its, c', r', e⟩), rfl, q _ (I.hok.fresh (Nat.le_refl _))⟩
  rcases hq with hq | hq
  · obtain ⟨its, r', pl, hz⟩ := I.list hq
    have hlen := r'.length
    obtain ⟨o, ho, hc, n, hd⟩ := pl.isList
    exact call_list_seq p (.inl rfl) ho hc hd (fun h' c' kp e => fin its r' hz h' c' kp e) (by simp only [List.size_toArray] <;> omega)
  · obtain ⟨its, r', pl, hz⟩ := I.tuple hq
    have hlen := r'.length
    obtain ⟨o, ho, hc, n, hd⟩ := pl
    exact call_list_seq p (.inr rfl) ho hc hd (fun h' c' kp e => fin its r' hz h' c' kp e) (by simp only [List.size_toArray] <;> omega)
/-- the value is of that builtin type -/
def tyV (K : PySem.W.Frag) (T : String) (x : V) (H : Hp) : Prop := match x with
  | .str _ => T = "str"
  | .int _ => T = "int"
  | .ref p => (T = "list" ∧ ∃ xs, SqL K H p xs) ∨ (T = "tuple" ∧ ∃ o, K.lookup p = some o ∧ o.cls = .type "tuple" ∧ o.dict = none) ∨
      (T = "dict" ∧ ((∃ kvs, H p = some (.dK kvs)) ∨ ∃ kvs, H p = some (.dT kvs))) ∨ (T = "set" ∧ ∃ S n, H p = some (.set S n))
  | _ => False
theorem tyV_is {pins : List (Addr × Obj)} {σ : St} {H : Hp} {s : Shared} {T : String} {x : V} {v : Value} (I : Inv X pins σ H s) (r : RelV x v) (ty : tyV X.K T x H) :
    s.TypeIs v T ∧ ∀ a, v = .ref a → ∃ ob, s.heap.get? a = some ob ∧ ob.dict = none := by
  cases x with
  | str z =>
    obtain ⟨t, rfl⟩ := r
    cases (show T = "str" from ty)
    exact ⟨typeIs_str s z t, fun _ e => nomatch e⟩
  | int i =>
    obtain ⟨t, rfl⟩ := r
    cases (show T = "int" from ty)
    exact ⟨typeIs_int s i t, fun _ e => nomatch e⟩
  | ref p =>
    cases r
    rcases ty with ⟨rfl, xs, hq⟩ | ⟨rfl, o, hk, hc, hd⟩ | ⟨rfl, hk⟩ | ⟨rfl, S, n, hk⟩
    · obtain ⟨its, _, pl, _⟩ := I.list hq
      refine ⟨pl.isList.typeIs, fun a e => ?_⟩
      cases e
      obtain ⟨o, n, e, c, hd, _⟩ := pl
      exact ⟨o, e, hd⟩
    · refine ⟨⟨o, I.kIn p o hk, hc⟩, fun a e => ?_⟩
      cases e
      exact ⟨o, I.kIn _ o hk, hd⟩
    · have z : ∃ o, s.heap.get? p = some o ∧ o.ExactDict := by
        rcases hk with ⟨kvs, hk⟩ | ⟨kvs, hk⟩
        · obtain ⟨_, _, _, _, o, _, _, e, ex, _⟩ := I.hok p _ hk
          exact ⟨o, e, ex⟩
        · obtain ⟨_, _, _, _, o, _, _, e, ex, _⟩ := I.hok p _ hk
          exact ⟨o, e, ex⟩
      obtain ⟨o, e, ex⟩ := z
      refine ⟨⟨o, e, ex.1⟩, fun a e2 => ?_⟩
      cases e2
      exact ⟨o, e, ex.2.1⟩
    · obtain ⟨o, _, _, _, e, ex, _⟩ := I.hok p _ hk
      refine ⟨⟨o, e, ex.1⟩, fun a e2 => ?_⟩
      cases e2
      exact ⟨o, e, ex.2.1⟩
  | _ => exact False.elim ty
def tBM (K : PySem.W.Frag) (T : String) (r : V → List V → Hp → VK → Prop) (to : TE) (t : TA) : TE := fun σ H Q => to σ H fun x H1 => tyV K T x H1 ∧ t σ H1 fun xs H2 => r x xs H2 Q
variable {o e : Expr} {es : List Expr} {to : TE} {t : TA} {name : Str} {apos cpos : Pos} {T id : String} {r : V → List V → Hp → VK → Prop}
theorem pe_bm (pa : PlainAttrs T) (slot : Slot T name id) (hty : typeOf (.builtin id) = pure (.type "method_descriptor")) (hm : MtR X id r) (ho : PE X o to) (ha : PA X (e :: es) t)
    (hbase : attributeBase o name X.env (eval o X.env) = eval o X.env := by rfl)
    (hfew : ((backTo cpos (starEach (e :: es) X.env)).all (fun x => !x.1) && (backToKw cpos (keywordEach [] X.env)).all (fun x => x.1.isSome)
      && decide ((e :: es).length + ([] : List Keyword).length + (if ([] : List Keyword).isEmpty then 0 else 1) < 30)) = true := by rfl)
    (hline : (apos.endLine == cpos.line) = true := by rfl) (hs : starEach (e :: es) X.env = (false, eval e X.env) :: starEach es X.env := by rfl) (hplain : (backTo cpos (starEach es X.env)).any (·.1) = false := by rfl) :
    PE X (.Call (.Attribute o name apos) (e :: es) [] cpos) (tBM X.K T r to t) := by
  intro pins s σ H Q I h
  refine wpAny_Call_method_late hbase hfew hline rfl (thn (ho pins s σ H _ I h) fun v s1 ⟨x, H1, I1, r1, ty, q1⟩ => ?_)
  obtain ⟨h1, h2⟩ := tyV_is I1 r1 ty
  refine ⟨T, id, pa, slot, hty, h1, h2, ?_⟩
  have hA := ha cpos pins s1 σ H1 _ I1 q1
  rw [hs] at hA ⊢
  refine Calls.callWith_builtin (by show (false || (backTo cpos (starEach es X.env)).any (·.1)) = false; rw [hplain] <;> rfl) (Calls.evalArgs_plain ?_)
  exact thn hA fun us s2 ⟨vs, H2, I2, r2, q2⟩ => hm pins s2 σ H2 x vs v us Q I2 r1 r2 q2
/- xs.append(e), list.index on a module's tuple .. are MtR facts of 06m -/
end
end L2

namespace L2
open PySem PySem.Spec PyProof.Rows

def MtM (X : Cx) (id : String) (r : V → List V → Hp → VK → Prop) : Prop :=
  ∀ (pins : List (Addr × Obj)) (s : Shared) (σ : St) (H : Hp) (x : V) (xs : List V) (v : Value) (us : List Value) (Q : VK), Inv X pins σ H s → RelV x v → Vals xs us → r x xs H Q →
    wpAny (model X.prog X.w) X.A (call (.builtin id) (v :: us)) (EP X pins σ Q) X.xe s

theorem Vals.one : ∀ {x : V} {us : List Value}, Vals [x] us → ∃ u, us = [u] ∧ RelV x u
  | _, _, .cons r .nil => ⟨_, rfl, r⟩
section
variable {X : Cx} {pins : List (Addr × Obj)} {σ : St} {H : Hp} {s : Shared} {l b : Addr} {xs ys zs : List V}

theorem Inv.lset {its its' : List Value} {n : Nat} {f : Array Value → Array Value} {t' : Nat} (I : Inv X pins σ H s) (hH : H l = some (.lst xs))
    (e : s.heap.get? l = some { cls := .type "list", data := .seq its.toArray n }) (hf : f its.toArray = its'.toArray) (hv : Vals ys its') (hz : ys.length ≤ sizeLine) :
    Inv X pins σ (upd H l (.lst ys)) { s with heap := s.heap.update l (Obj.mapSeq f), toks := t' } := by
  have q := PySem.IsL.update e f
  rw [hf] at q
  refine I.write (x := l) (e := l) (by rw [hH]; exact trivial) (.inl rfl) (fun b' u hb hu => (Heap.get?_update_other s.heap (Obj.mapSeq f) (Ne.symm hb)).trans hu) ⟨_, q⟩ ?_
  exact ⟨hz, its', _, hv, q⟩
theorem Inv.lnew {its : List Value} {t' : Nat} (I : Inv X pins σ H s) (hv : Vals ys its) (hz : ys.length ≤ sizeLine) :
    Inv X pins σ (upd H s.heap.objs.size (.lst ys)) { s with heap := s.heap.push { cls := .type "list", data := .seq its.toArray }, toks := t' } :=
  I.laid (fun _ _ q => Heap.get?_push_of_some _ q) (Nat.le_refl _) ⟨hz, its, 0, hv, Heap.get?_push_size _ rfl⟩
theorem Inv.fresh (I : Inv X pins σ H s) : H s.heap.objs.size = none := I.hok.fresh (Nat.le_refl _)
theorem Inv.lstM (I : Inv X pins σ H s) (hH : H l = some (.lst xs)) : xs.length ≤ sizeLine ∧ ∃ (its : List Value) (n : Nat), Vals xs its ∧ xs.length = its.length ∧ s.heap.get? l = some { cls := .type "list", data := .seq its.toArray n } := by
  obtain ⟨z, its, n, r, e⟩ := I.hok l _ hH
  exact ⟨z, its, n, r, r.length, e⟩

end

section
variable {X : Cx}

def rAppend : V → List V → Hp → VK → Prop := fun x vs H Q => ∃ l xs y, x = .ref l ∧ vs = [y] ∧ H l = some (.lst xs) ∧ xs.length < sizeLine ∧ Q .non (upd H l (.lst (xs ++ [y])))
theorem mt_append : MtM X "list.append" rAppend := by
  intro pins s σ H x vs v us Q I rx rv h
  obtain ⟨l, xs, y, rfl, rfl, hH, hz, q⟩ := h
  cases rx
  obtain ⟨u, rfl, ru⟩ := rv.one
  obtain ⟨z, its, n, r, hl, e⟩ := I.lstM hH
  refine call_meets F.slot_list_append ⟨_, e, rfl⟩ F.entry_list_append (F.args_list_append_2 _ _) (PySem.list_append l its.toArray n u (by rw [List.size_toArray]; omega)) ⟨e, ?_⟩
  refine ⟨.non, _, I.lset (its' := its ++ [u]) hH e (by simp) (r.append (.cons ru .nil)) ?_, rfl, q⟩
  rw [List.length_append, List.length_singleton]
  omega

def rCat : R2 := fun x y H Q => ∃ l b xs zs, x = .ref l ∧ y = .ref b ∧ H l = some (.lst xs) ∧ H b = some (.lst zs) ∧ xs.length + zs.length ≤ sizeLine ∧ ∀ p, H p = none → Q (.ref p) (upd H p (.lst (xs ++ zs)))
theorem op_cat : OpR X (binaryOp .Add) rCat := by
  intro pins s σ H x y v u Q I rx ry h
  obtain ⟨l, b, xs, zs, rfl, rfl, hH, hB, hz, q⟩ := h
  cases rx
  cases ry
  obtain ⟨z, its, n, r, hl, e⟩ := I.lstM hH
  obtain ⟨z2, its2, n2, r2, hl2, e2⟩ := I.lstM hB
  refine PySem.P.add_list e e2 ?_ (by rw [List.size_toArray, List.size_toArray]; omega)
  have ea : its.toArray ++ its2.toArray = (its ++ its2).toArray := by simp
  rw [ea]
  exact ⟨.ref _, _, I.lnew (t' := s.toks) (r.append r2) (by rw [List.length_append]; omega), rfl, q _ I.fresh⟩
end

section
variable {prog : Program} {w : World} {A : Around} {E : Value → Shared → Prop} {s : Shared}
end

section
variable {X : Cx}
end
end L2

namespace Att
open PySem PySem.W PySem.Calls PyProof.Rows

theorem ints_of_wellAll {P : Params} {h : Heap} : ∀ (ns : List Int) (vs : List Value), WellAll P h vs (ns.map WData.int) → IntsAre vs ns := by
  intro ns
  induction ns with
  | nil =>
    intro vs w
    rw [List.map_nil] at w
    cases w
    exact .nil
  | cons n ns ih =>
    intro vs w
    rw [List.map_cons] at w
    cases w with
    | cons a b =>
      cases a
      exact .cons _ _ (ih _ b)

theorem script_of {l : OpenLaw} {n : Nat} (hn : l.most = some n) {P : Params} {h : Heap} {args : List WData} {vals : List Value}
    (hpre : l.row.toRowW.claim.pre args = true) (hwl : WellAll P h vals args) :
    ∃ a vs ns, vals = [Value.ref a] ∧ args = [WData.list (ns.map WData.int)] ∧ h.get? a = some { cls := .type "list", data := .seq vs.toArray } ∧ IntsAre vs ns ∧ ns.length ≤ n := by
  have hsh : WShape.hasAll [] args [.list .int] = true := (pre_splitW hpre).1
  have hc : l.pre.holds [] { args := args } = true := (pre_splitW hpre).2
  obtain ⟨d, r, rfl, h1, h2⟩ := hasAllW_cons hsh
  obtain rfl := hasAllW_nil h2
  obtain ⟨xs, rfl, h3⟩ := hasW_list h1
  obtain ⟨ns, rfl⟩ := items_int h3
  have hlen : ns.length ≤ n := by
    unfold OpenLaw.pre at hc
    have h4 : (WTm.not (.lt (.lit (.int (n : Int))) (.len (.arg 0)))).holds [] { args := [.list (ns.map .int)] } = true := by
      have h4 := (holds_andW hc).1
      rw [hn] at h4
      exact h4
    have h5 := condW_of h4 (w_not (w_lt w_lit (w_len_list (w_arg rfl))))
    rw [List.length_map] at h5
    refine Nat.le_of_not_lt fun q => ?_
    have q' : (n : Int) < ((ns.length : Nat) : Int) := by omega
    first
      | (rw [decide_eq_true q'] at h5; exact absurd h5 (by decide))
      | (simp at h5; omega)
  cases hwl with
  | cons w1 w2 =>
    cases w2
    cases w1 with
    | list ho hall => exact ⟨_, _, ns, rfl, rfl, ho, ints_of_wellAll ns _ hall, hlen⟩

theorem post_true (l : OpenLaw) (args : List WData) : l.row.toRowW.claim.post args (.bool true) args = true :=
  postW_of (r := l.row.toRowW) (X := (true == true))
    (show WShape.has [] (.bool true) .bool = true by first | rfl | decide | simp [WShape.has, WShape.arms, WShape.armsAll])
    (show (WTm.eq .res (.lit (.bool true))).value [] { args := args, res := some (.bool true), after := args } = some (.bool (true == true)) from w_eq_bool (w_res rfl) w_lit) rfl

/-- the same from a codeAny of the CALL (for a layer whose function contracts speak of calls) -/
theorem attach_call {l : OpenLaw} {n : Nat} {q : Program} {loose : List Str} {XP : (Str → Option Value) → Heap → Prop} {YP : World → Heap → Prop} {d : DefRec}
    (hn : l.most = some n) (hdf : d.params.defaults = [])
    (call : ∀ (w : World) (s₀ s₁ : Shared) (mg mb : Str → Option Value) (fa : Addr) (o : Obj) (pm cd doc : Value) (a : Addr) (vs : List Value) (ns : List Int),
      Ground q loose [] XP w s₀ mg mb s₁.heap → YP w s₁.heap →
      s₁.heap.get? fa = some o → o.data = .func (docDef d.name d.params d.body d.scope pm cd doc) → s₁.heap.CodeRec cd d.name → mg d.name = some (.ref fa) →
      s₁.heap.get? a = some { cls := .type "list", data := .seq vs.toArray } → IntsAre vs ns → ns.length ≤ n → s₁.gens = #[] →
      codeAny (model l.prog w) callerA (.call (.ref fa) ⟨[.ref a], []⟩) (fun r s' => r = .ok (.ret (.bool true)) ∧ OldK s₁.heap s'.heap ∧ s'.os = s₁.os ∧ AllBare s'.gens) s₁) :
    WalkO q loose XP YP l.row.toRowW d [] (fun f vs => PySem.call f vs) := by
  intro w s₀ s₁ mg mb G Y fa o pm cd doc dV kV ho hd hcd hD hmg hg args vals as hpre hlay hrd hwl hlo
  obtain rfl : dV = .none := Dflts.none hD hdf
  obtain rfl : kV = .none := Dflts.noKw hD
  obtain ⟨a, vs, ns, rfl, rfl, hobj, hints, hlen⟩ := script_of hn hpre hwl
  refine enter_call (codeAny_mono (call w s₀ s₁ mg mb fa o pm cd doc a vs ns G Y ho (fd_plain hd) hcd hmg hobj hints hlen hg) fun r s' hq => ?_)
  obtain ⟨rfl, h2, h3, h4⟩ := hq
  exact ⟨.inl ⟨.bool true, .bool true, [], rfl, fun _ => rfl, .bool true, post_true l _, fun _ => ⟨List.Pairwise.nil, fun _ hm => (nomatch hm)⟩⟩, h2, h3, h4⟩

section
variable {prog : Program} {w : World} {A : Around} {E : Value → Shared → Prop} {s : Shared} {K : Frag}

end
end Att

namespace L2
open PySem PySem.Spec PyProof.Rows

theorem vals_ints : ∀ {vs : List Value} {ns : List Int}, IntsAre vs ns → Vals (ns.map V.int) vs
  | _, _, .nil => .nil
  | _, _, .cons n t h => .cons ⟨t, rfl⟩ (vals_ints h)

/-- nothing is tracked but the script, known to the object (or it is an object of the module) -/
def Only (H : Hp) : Prop := ∀ b, H b = none ∨ ∃ o xs, H b = some (.frz o (.lst xs))

/-- THE HEAD: the law's promise, at the heap behind the top. F, the promise of the law's def, may use that base is part of the heap (so K.In base, base.Ns mainGlobals mg stand in Mod) -/
theorem law_call {P : Program} {w : World} {K : PySem.W.Frag} {mg mb : Str → Option Value} {CX : CXT} {k : Nat} {fa a : Addr} {fd : FuncData} {x : Str} {sp : Sp} {s₁ : Shared} {vs : List Value} {ns : List Int}
    (KX : K.In s₁.heap) (hns : s₁.heap.Ns mainGlobals mg) (hb : s₁.heap.Ns builtinsNs mb) (hbb : ∀ x : Str, x ≠ "__name__" → mb x = bootBuiltins x) (hlim : s₁.heap.NoLimit) (hg : s₁.gens = #[])
    (ha : s₁.heap.get? a = some { cls := .type "list", data := .seq vs.toArray }) (hi : IntsAre vs ns) (hl : ns.length ≤ sizeLine) (hr : Room k callerA)
    (F : ∀ base : Heap, K.In base → base.Ns mainGlobals mg → FnOk P w K mg base CX k fa fd [x] sp) (hbind : ∀ (s : Shared) (u : Value), BindsTo s fd ⟨[u], []⟩ [(x, u)])
    (hsp : ∀ H : Hp, Only H → SqL K H a (ns.map V.int) → sp [.ref a] H (fun v _ => v = .bl true) fun _ _ _ => False)
    (hCX : ∀ H e s', CX [] H s₁ (fun _ _ _ => False) e s' → False) :
    codeAny (model P w) callerA (.call (.ref fa) ⟨[.ref a], []⟩) (fun r s' => r = .ok (.ret (.bool true)) ∧ OldK s₁.heap s'.heap ∧ s'.os = s₁.os ∧ AllBare s'.gens) s₁ := by
  have rv := vals_ints hi
  have lenV := hi.length
  -- from an abstract heap in which nothing but the script may be tracked
  have core : ∀ H : Hp, Only H → SqL K H a (ns.map V.int) → HOk P w H s₁.heap → (∀ b, H b ≠ none → b = a) → (H a ≠ none → K.lookup a = none) →
      codeAny (model P w) callerA (.call (.ref fa) ⟨[.ref a], []⟩) (fun r s' => r = .ok (.ret (.bool true)) ∧ OldK s₁.heap s'.heap ∧ s'.os = s₁.os ∧ AllBare s'.gens) s₁ := by
    intro H hO hS hok hA hK
    have base_of : ∀ {b : Addr} {o : Obj}, s₁.heap.get? b = some o → H b = none → (hidT s₁.heap H).get? b = some o := fun e n => hidT_get e n
    have noA : ∀ {b : Addr} {o : Obj} {es : Array DictEntry} {ep : Nat}, s₁.heap.get? b = some o → o.data = .dict es ep → H b = none := fun {b o es ep} e d => by
      cases q : H b with
      | none => rfl
      | some u =>
        have e' : b = a := hA b (by rw [q]; simp)
        subst e'
        rw [ha] at e; cases e
        have d' : Data.seq vs.toArray _ = Data.dict es ep := d
        cases d'
    have nsK : ∀ {b : Addr} {m : Str → Option Value}, s₁.heap.Ns b m → (hidT s₁.heap H).Ns b m := fun {b m} ⟨o, es, ep, e, d, r⟩ => ⟨o, es, ep, base_of e (noA e d), d, r⟩
    have hKb : K.In (hidT s₁.heap H) := fun b o e => base_of (KX b o e) (by
      cases q : H b with
      | none => rfl
      | some u =>
        have e' : b = a := hA b (by rw [q]; simp)
        subst e'
        rw [hK (by rw [q]; simp)] at e; cases e)
    have hM : Mod K mg (hidT s₁.heap H) := ⟨hKb, nsK hns, ⟨mb, nsK hb, hbb⟩, let ⟨mc, h1, h2⟩ := hlim; ⟨mc, nsK h1, h2⟩⟩
    have e0 : Env0 P w K mg (hidT s₁.heap H) callerA [] s₁ H := ⟨rfl, hM, fun b o e => of_hidT e, Nat.le_of_eq (hidT_size _ _), trivial, fun b hb => absurd (show b ∈ ([] : List Addr) from hb) (by simp), hok, .of_eq hg⟩
    refine codeAny_mono ((F _ hKb (nsK hns)).run callerA [] s₁ H ⟨[.ref a], []⟩ [.ref a] [.ref a] _ _ hr e0 (hbind s₁ (.ref a)) (.cons rfl .nil) (hsp H hO hS)) fun r s' h => ?_
    cases r with
    | error e => exact (hCX H e s' h).elim
    | ok fl =>
      cases fl with
      | next => exact False.elim h
      | brk => exact False.elim h
      | cont => exact False.elim h
      | ret u =>
        obtain ⟨v, H', os, bare, un, hok', r', q⟩ := h
        have q' : v = .bl true := q
        subst q'
        obtain rfl : u = Value.bool true := r'
        refine ⟨rfl, OldK.of_keep fun b o e => ?_, os, bare⟩
        cases q : H b with
        | none => exact un.keep b o e q (by intro z; exact absurd (show b ∈ ([] : List Addr) from z) (by simp)) (by simp)
        | some u =>
          rcases hO b with z | ⟨ob, xs, z⟩
          · rw [q] at z; cases z
          · have z2 := un.frzs b ob _ z
            obtain ⟨e1, _⟩ := hok b _ z
            obtain ⟨e2, _⟩ := hok' b _ z2
            rw [e] at e1; cases e1
            exact e2
  cases hk : K.lookup a with
  | some o =>
    -- the script is one of the module's own objects
    have e := KX a o hk
    rw [ha] at e
    cases e
    refine core (fun _ => none) (fun _ => .inl rfl) (.inr ⟨_, vs.toArray, _, hk, rfl, rfl, rfl, by rw [List.size_toArray, lenV]; exact hl, by simpa using rv⟩) (fun b u z => by have z' : (none : Option HO) = some u := z; cases z') (fun b z => absurd rfl z) fun z => absurd rfl z
  | none =>
    refine core (fun b => if b = a then some (.frz { cls := .type "list", data := .seq vs.toArray } (.lst (ns.map V.int))) else none) (fun b => ?_) (.inl (.inr ⟨{ cls := .type "list", data := .seq vs.toArray }, if_pos rfl⟩)) (fun b u z => ?_) (fun b z => ?_) fun _ => hk
    · by_cases hb : b = a
      · exact .inr ⟨_, _, if_pos hb⟩
      · exact .inl (if_neg hb)
    · by_cases hb : b = a
      · have z' := (if_pos hb).symm.trans z
        cases z'
        subst hb
        exact ⟨ha, by rw [List.length_map]; exact hl, vs, _, rv, ha⟩
      · have z' := (if_neg hb).symm.trans z
        cases z'
    · by_cases hb : b = a
      · exact hb
      · exact absurd (if_neg hb) z
end L2

namespace L2
open PySem PySem.Spec PyProof.Rows

abbrev KOf {K : PySem.W.Frag} {h : Heap} (_ : K.In h) : PySem.W.Frag := K

/-- the goal that k_head leaves (case hc), from the law's promise. F gives the function object fd (K's own) once, then the promise over every base -/
theorem walk_of {l : PySem.W.OpenLaw} {n k : Nat} {q : Program} {loose : List Str} {XP : (Str → Option Value) → Heap → Prop} {YP : World → Heap → Prop} {d : DefRec} {K : Params → PySem.W.Frag} {CX : World → CXT} {sp : World → Sp} {x : Str}
    (hn : l.most = some n) (hn2 : n ≤ sizeLine) (hdf : d.params.defaults = []) (hr : Room k callerA)
    (hY : ∀ (w : World) (h : Heap), YP w h → (K w.params).In h)
    (F : ∀ (w : World) (mg : Str → Option Value) (fa : Addr) (h : Heap), (K w.params).In h → h.Ns mainGlobals mg → mg d.name = some (.ref fa) →
      ∃ fd : FuncData, (∀ (s : Shared) (u : Value), BindsTo s fd ⟨[u], []⟩ [(x, u)]) ∧
        ∀ base : Heap, (K w.params).In base → base.Ns mainGlobals mg → FnOk l.prog w (K w.params) mg base (CX w) k fa fd [x] (sp w))
    (hsp : ∀ (w : World) (H : Hp) (a : Addr) (ns : List Int), ns.length ≤ n → Only H → SqL (K w.params) H a (ns.map V.int) → sp w [.ref a] H (fun v _ => v = .bl true) fun _ _ _ => False)
    (hCX : ∀ (w : World) (H : Hp) (s : Shared) (e : Value) (s' : Shared), CX w [] H s (fun _ _ _ => False) e s' → False) :
    PySem.W.WalkO q loose XP YP l.row.toRowW d [] (fun f vs => PySem.call f vs) := by
  refine Att.attach_call hn hdf fun w s₀ s₁ mg mb fa o pm cd doc a vs ns G Y ho hd hcd hmg hobj hints hlen hg => ?_
  have KX := hY w _ Y
  obtain ⟨fd, hb, hF⟩ := F w mg fa _ KX G.T.g hmg
  exact law_call KX G.T.g G.T.b G.T.builtins G.T.nolimit hg hobj hints (Nat.le_trans hlen hn2) hr hF hb (fun H hO hS => hsp w H a ns hlen hO hS) fun H e s' => hCX w H s₁ e s'
end L2

/- THE LAST THEOREM (shape; LID, My.* are yours):
   My.Adr: a structure of the addresses that your layer names (classes, functions); My.Txt K t: a structure (Prop) of the equations over K;
   My.txt_mk : {K} {implicit addresses ..} (e1 : nsIn K mainGlobals "law" = some (some (.ref f))) (e2 : K.lookup f = some ⟨oc, od, .func (fnOf "law" "law" params body scope dV kV doc pm an cdv ct), sl⟩) (e3 : codeIn K cdv "law" = true) .. : ∃ t, My.Txt K t

set_option maxRecDepth 100000 in
set_option maxHeartbeats 0 in
theorem PySem.Challenge.cw_LID_holds : PySem.Challenge.rw_LID.Holds := by
  w_on; o_law; k_head; (case hw => w_witness2)
  k_fill
  refine L2.walk_of (l := PySem.Challenge.rw_LID) (n := 63) (k := 40) (x := "script") (CX := fun w => ..) (sp := fun _ => My.sp_law) rfl (by decide) rfl ⟨rfl, by decide, by decide⟩ (fun w h Y => PySem.W.kIn_of Y) ?F ?S ?C
  case F =>
    intro w mg fa h KX G hmg
    have T : ∃ t, My.Txt (L2.KOf KX) t := by
      dsimp only [L2.KOf]                          -- K must stand as «<heap const> w.params» for k_is
      refine' My.txt_mk ?e1 ?e2 ?e3 ..
      (case e1 => PySem.W.k_is)                    -- in the order: a name -> its address -> its object -> its parts
      (case e2 => PySem.W.k_is)
      ..
    obtain ⟨t, T⟩ := T
    have e0 := hmg.symm.trans (PySem.W.mg_of KX G T.law)
    cases e0                                       -- fa is the law's own address
    exact ⟨_, fun s u => .of_eq rfl, fun base kb nb => My.law_fn T kb nb⟩     -- if «.of_eq rfl» comes too early: refine' ⟨_, ?b, fun base kb nb => My.law_fn T kb nb⟩; exact fun s u => .of_eq rfl
  case S => exact fun w H a ns hl hO hS => ..
  case C => exact ..
(the tactic k_is has no namespace: write k_is) -/

namespace L2
open PySem PySem.Spec PyProof.Rows

/-- the j-th statement of a class's body -/
def inClass (s : Stmt) (j : Nat) : Stmt := match s with
  | .ClassDef _ _ _ body _ _ _ _ _ _ _ => body.getD j (.Pass ⟨0, 0, 0, 0⟩)
  | _ => .Pass ⟨0, 0, 0, 0⟩
def defArgs (s : Stmt) : Arguments := match s with
  | .FunctionDef _ a _ _ _ _ _ _ _ _ => a
  | _ => { posonlyargs := [], args := [], vararg := none, kwonlyargs := [], kw_defaults := [], kwarg := none, defaults := [] }
def defBody (s : Stmt) : List Stmt := match s with
  | .FunctionDef _ _ b _ _ _ _ _ _ _ => b
  | _ => []
def defScope (s : Stmt) : Scope := match s with
  | .FunctionDef _ _ _ _ _ _ sc _ _ _ => sc
  | _ => { kind := .function, names := [], isGenerator := false, isCoroutine := false }

abbrev CX0 : CXT := fun _ _ _ _ _ _ => False
abbrev E0 : XK := fun _ _ _ => False
theorem pass0 {X : Cx} : Passes CX0 X E0 := fun _ _ _ _ _ _ _ h => h.elim

structure Fun (K : PySem.W.Frag) (x qual : Str) (st : Stmt) (f : Addr) (fd : FuncData) : Prop where
  ex : ∃ (oc : Value) (od : Option Addr) (kV doc pm : Value) (an : Option Addr) (cdv ct : Value) (osl : Array (Option Value)),
    fd = PySem.W.fnOf x qual (defArgs st) (defBody st) (defScope st) .none kV doc pm an cdv ct ∧ K.lookup f = some ⟨oc, od, .func fd, osl⟩ ∧ PySem.W.codeIn K cdv qual = true
  kp : PySem.W.keepIn K (.ref f) = true
section
variable {P : Program} {w : World} {K : PySem.W.Frag} {mg : Str → Option Value} {base : Heap}
/-- THE RULE for a def: its body as a term of rules, and the reading of that term -/
theorem Fun.ok {x qual : Str} {st : Stmt} {f : Addr} {fd : FuncData} {N ps : List Str} {k : Nat} {sp : Sp} (F : Fun K x qual st f fd) (S : FnScope N ps (defScope st)) (len : ∀ vs H Q E, sp vs H Q E → vs.length = ps.length)
    (hbody : ∀ (cdv : Value) (A : Around) (outer : List Env) (s : Shared) (H : Hp) (vs : List V) (Q : VK) (E : XK), Room k (A.deeper (envOfC qual (defScope st) s.heap.objs.size f cdv)) → sp vs H Q E →
      ∃ t, PSs (cxOf CX0 P w K mg base N qual (defScope st) f cdv A outer s H E).nox (defBody st) t ∧ t { nx := fun _ H' => Q .non H', rt := Q } (start N vs) H) : FnOk P w K mg base CX0 (k + 1) f fd ps sp := by
  obtain ⟨oc, od, kV, doc, pm, an, cdv, ct, osl, rfl, lk, hcd⟩ := F.ex
  refine fn_of lk hcd S len fun A outer s H vs Q E hr hsp => ?_
  obtain ⟨t, h, q⟩ := hbody cdv A outer s H vs Q E hr hsp
  exact ⟨t, h.nox, q⟩
/-- how its arguments bind (no defaults): h is «fun _ _ _ _ _ _ us hl => match us, hl with | [_, _], _ => rfl», one _ a parameter -/
theorem Fun.binds {x qual : Str} {st : Stmt} {f : Addr} {fd : FuncData} {ps : List Str} (F : Fun K x qual st f fd)
    (h : ∀ (kV doc pm : Value) (an : Option Addr) (cdv ct : Value) (us : List Value), us.length = ps.length → bindArgs (PySem.W.fnOf x qual (defArgs st) (defBody st) (defScope st) .none kV doc pm an cdv ct) ⟨us, []⟩ = pure (ps.zip us)) : Binds K fd ps [] := by
  obtain ⟨oc, od, kV, doc, pm, an, cdv, ct, osl, rfl, lk, hcd⟩ := F.ex
  exact .all (h kV doc pm an cdv ct)
theorem fun_mk {x qual : Str} {st : Stmt} {f : Addr} {oc : Value} {od an : Option Addr} {osl : Array (Option Value)} {kV doc pm cdv ct : Value} (l : K.lookup f = some ⟨oc, od, .func (PySem.W.fnOf x qual (defArgs st) (defBody st) (defScope st) .none kV doc pm an cdv ct), osl⟩)
    (c : PySem.W.codeIn K cdv qual = true) (k : PySem.W.keepIn K (.ref f) = true) : Fun K x qual st f (PySem.W.fnOf x qual (defArgs st) (defBody st) (defScope st) .none kV doc pm an cdv ct) := ⟨⟨oc, od, kV, doc, pm, an, cdv, ct, osl, rfl, l, c⟩, k⟩
end
theorem small1000 {n : Nat} (h : n ≤ 1000) : n < sizeLine := Nat.lt_of_le_of_lt h (by decide)

section
variable {X : Cx}
theorem pv (i : Nat) {x : Str} {pos : Pos} (hN : X.N[i]? = some x := by rfl) (hv : Vis X.env.scope x := by first | exact Or.inl rfl | exact Or.inr (Or.inl rfl) | exact Or.inr (Or.inr rfl)) (hd : (x == ("__debug__" : Str)) = false := by decide)
    (hcd : (x == ("__classdict__" : Str)) = false := by decide) : PE X (.Name x pos) (tVar i) := pe_var hN hv hd hcd
end

theorem iteF {A B : Prop} (h : B) : if false = true then A else B := by
  rw [if_neg Bool.false_ne_true]
  exact h
theorem iteT {A B : Prop} (h : A) : if true = true then A else B := by
  rw [if_pos rfl]
  exact h
theorem ite2 {c A B : Prop} [Decidable c] (h1 : c → A) (h2 : ¬ c → B) : if c then A else B := by
  by_cases h : c
  · rw [if_pos h]
    exact h1 h
  · rw [if_neg h]
    exact h2 h
/-- all that was tracked is as it was -/
def Same (H H' : Hp) : Prop := ∀ b o, H b = some o → H' b = some o
theorem Same.refl (H : Hp) : Same H H := fun _ _ h => h
theorem Same.trans {H H1 H2 : Hp} (a : Same H H1) (b : Same H1 H2) : Same H H2 := fun c o h => b c o (a c o h)
theorem Same.free {H H' : Hp} (e : Same H H') {l : Addr} (h : H' l = Option.none) : H l = Option.none := by
  cases q : H l with
  | none => rfl
  | some o =>
    rw [e l o q] at h
    cases h
theorem Same.seq {K : PySem.W.Frag} {H H' : Hp} {a : Addr} {xs : List V} (e : Same H H') (h : SqL K H a xs) : SqL K H' a xs := by
  rcases h with (h | ⟨o, h⟩) | h
  · exact .inl (.inl (e _ _ h))
  · exact .inl (.inr ⟨o, e _ _ h⟩)
  · exact .inr h

end L2

set_option Elab.async false
set_option linter.all false
set_option maxRecDepth 100000
set_option maxHeartbeats 4000000
namespace L2
open PySem PySem.Spec PyProof.Rows

section
variable {prog : Program} {w : World} {A : Around} {E : Value → Shared → Prop} {R : Result → Shared → Prop} {s : Shared}
theorem compLoop_any {elt target iter : Expr} {ifs : List Expr} {scope : Scope} {pos : Pos} {it acc : Value} {env : Env} (I : Nat → Shared → Prop)
    (turn : ∀ n s, I n s → wpAny (model prog w) A (pyNext it) (fun r s1 => match r with
      | none => R (.ok .next) s1
      | some v => wpAny (model prog w) A (letOwnedTupleGo target it v) (fun _ s1' => wpAny (model prog w) A (assign target env v) (fun _ s2 =>
          wpAny (model prog w) A (forIn ifs true fun c r => if r = true then do let ok ← isTrue c env (eval c env); pure (ForInStep.yield ok) else pure (ForInStep.yield r)) (fun ok s3 =>
            if ok = true then wpAny (model prog w) A (eval elt env) (fun x s4 =>
              wpAny (model prog w) A (call (.builtin "list.append") [acc, x]) (fun _ s5 => ∃ m, m < n ∧ I m s5) (fun _ _ => False) s4) (fun _ _ => False) s3
            else ∃ m, m < n ∧ I m s3) (fun _ _ => False) s2) (fun _ _ => False) s1') (fun _ _ => False) s1) (fun _ _ => False) s)
    (n : Nat) (h : I n s) :
    codeAny (model prog w) A (.compLoop (.ListComp elt [⟨target, iter, ifs, 0⟩] scope pos) 0 it acc env) R s := by
  refine codeAny_loop rfl I (fun n s hI => ?_) n h
  show wpAny _ A ((compTurn (.ListComp elt [⟨target, iter, ifs, 0⟩] scope pos) 0 it acc env).onRaise (fun x => do noteFrame x env; theTreesLotGoes x)) _ _ s
  refine wpAny_noted ?_
  rw [compTurn_list]
  refine wpAny_bind (wpAny_standAt (wpAny_bind (wpAny_mono (turn n s hI) (fun r s1 h1 => ?_) fun _ _ h' => h'.elim)))
  cases r with
  | none => exact wpAny_pure h1
  | some v =>
    refine wpAny_bind (wpAny_mono h1 (fun _ s1' h1' => ?_) fun _ _ h' => h'.elim)
    refine wpAny_bind (wpAny_mono h1' (fun _ s2 h2 => wpAny_bind (wpAny_mono h2 (fun ok s3 h3 => ?_) fun _ _ h' => h'.elim)) fun _ _ h' => h'.elim)
    cases ok with
    | false => exact wpAny_pure ⟨rfl, h3⟩
    | true =>
      exact wpAny_bind (wpAny_bind (wpAny_mono h3 (fun x s4 h4 => wpAny_bind (wpAny_mono h4 (fun _ s5 h5 => wpAny_pure (wpAny_pure ⟨rfl, h5⟩)) fun _ _ h' => h'.elim)) fun _ _ h' => h'.elim))
end

def clOf (cells : List (Str × Addr)) : List (Str × NameKind) → List (Str × Addr) → List (Str × Addr)
  | [], acc => acc
  | (n, k) :: r, acc => if k == .free then clOf cells r ((n, (cells.lookup n).getD 0) :: acc) else clOf cells r acc
theorem closureFor_clOf {scope : Scope} {env : Env} (h : ∀ y ∈ scope.names, y.2 = .free → ∃ c, env.cells.lookup y.1 = some c) : closureFor scope env = pure (clOf env.cells scope.names []) := by
  simp only [closureFor]
  generalize ([] : List (Str × Addr)) = acc
  revert h
  generalize scope.names = l
  intro h
  induction l generalizing acc with
  | nil => rfl
  | cons x r ih =>
    obtain ⟨n, k⟩ := x
    have hr := ih (acc := acc) fun y hy => h y (List.mem_cons_of_mem _ hy)
    cases e : (k == NameKind.free) with
    | false =>
      simp only [List.forIn_cons, clOf, e, Bool.false_eq_true, if_false]
      exact hr
    | true =>
      obtain ⟨c, hc⟩ := h (n, k) List.mem_cons_self (by simpa using e)
      have hr' := ih (acc := (n, c) :: acc) fun y hy => h y (List.mem_cons_of_mem _ hy)
      have hc' : env.cells.lookup n = some c := hc
      simp only [List.forIn_cons, clOf, e, if_true, cellOf, hc', Option.getD_some]
      exact hr'
theorem clOf_get {cells : List (Str × Addr)} : ∀ (l : List (Str × NameKind)) (acc : List (Str × Addr)) {x : Str} {c : Addr}, (∀ y ∈ l, y.2 = .free → ∃ c, cells.lookup y.1 = some c) → (clOf cells l acc).lookup x = some c → acc.lookup x = some c ∨ cells.lookup x = some c
  | [], acc, x, c, _, h => .inl h
  | (n, k) :: r, acc, x, c, hy, h => by
    have hr : ∀ y ∈ r, y.2 = .free → ∃ c, cells.lookup y.1 = some c := fun y m => hy y (List.mem_cons_of_mem _ m)
    unfold clOf at h
    cases e : (k == NameKind.free) with
    | false =>
      rw [e] at h
      exact clOf_get r acc hr h
    | true =>
      rw [e] at h
      rcases clOf_get r _ hr h with q | q
      · rw [List.lookup_cons] at q
        obtain ⟨c', hc'⟩ := hy (n, k) List.mem_cons_self (by simpa using e)
        have hc'' : cells.lookup n = some c' := hc'
        cases en : (x == n) with
        | true =>
          rw [en] at q
          have : x = n := by simpa using en
          subst this
          rw [hc''] at q
          exact .inr (hc''.trans q)
        | false =>
          rw [en] at q
          exact .inl q
      · exact .inr q
theorem clOf_has {cells : List (Str × Addr)} : ∀ (l : List (Str × NameKind)) (acc : List (Str × Addr)) {x : Str}, ((x, NameKind.free) ∈ l ∨ (acc.lookup x).isSome = true) → ((clOf cells l acc).lookup x).isSome = true
  | [], acc, x, h => by
    rcases h with h | h
    · cases h
    · exact h
  | (n, k) :: r, acc, x, h => by
    unfold clOf
    cases e : (k == NameKind.free) with
    | false =>
      simp only [Bool.false_eq_true, if_false]
      refine clOf_has r acc ?_
      rcases h with h | h
      · rcases List.mem_cons.mp h with h | h
        · injection h with h1 h2
          subst h2
          simp at e
        · exact .inl h
      · exact .inr h
    | true =>
      simp only [if_true]
      refine clOf_has r _ ?_
      cases en : (x == n) with
      | true => exact .inr (by rw [List.lookup_cons, en]; rfl)
      | false =>
        rcases h with h | h
        · rcases List.mem_cons.mp h with h | h
          · injection h with h1 h2
            subst h1
            simp at en
          · exact .inl h
        · exact .inr (by rw [List.lookup_cons, en]; exact h)
theorem mem_of_lookup {β : Type} : ∀ {l : List (Str × β)} {x : Str} {b : β}, l.lookup x = some b → (x, b) ∈ l
  | [], _, _, h => by simp at h
  | (n, k) :: r, x, b, h => by
    rw [List.lookup_cons] at h
    cases en : (x == n) with
    | true =>
      rw [en] at h
      have : x = n := by simpa using en
      subst this
      have h' : k = b := Option.some.inj h
      subst h'
      exact List.mem_cons_self
    | false =>
      rw [en] at h
      exact List.mem_cons_of_mem _ (mem_of_lookup h)

/-- a kind looked up that is free: what relabel makes of it -/
theorem relabel_free {env : Env} : ∀ {names : List (Str × NameKind)} {x : Str}, names.lookup x = some .free →
    (names.map fun (n, k) => if (k == NameKind.free && env.scope.kind == .function && env.kindOf n == some .cell) then (n, NameKind.cell) else (n, k)).lookup x = some .cell ∨
    (names.map fun (n, k) => if (k == NameKind.free && env.scope.kind == .function && env.kindOf n == some .cell) then (n, NameKind.cell) else (n, k)).lookup x = some .free
  | [], _, h => by simp at h
  | (n, k) :: r, x, h => by
    have ih := @relabel_free env r x
    cases hx : x == n with
    | true =>
      simp only [List.lookup_cons, hx] at h
      cases h
      by_cases hc : (NameKind.free == NameKind.free && env.scope.kind == .function && env.kindOf n == some .cell) = true
      · left
        show List.lookup x ((if (NameKind.free == NameKind.free && env.scope.kind == .function && env.kindOf n == some .cell) = true then (n, NameKind.cell) else (n, NameKind.free)) :: _) = _
        rw [if_pos hc]
        simp only [List.lookup_cons, hx]
      · right
        show List.lookup x ((if (NameKind.free == NameKind.free && env.scope.kind == .function && env.kindOf n == some .cell) = true then (n, NameKind.cell) else (n, NameKind.free)) :: _) = _
        rw [if_neg hc]
        simp only [List.lookup_cons, hx]
    | false =>
      simp only [List.lookup_cons, hx] at h
      have q := ih h
      by_cases hc : (k == NameKind.free && env.scope.kind == .function && env.kindOf n == some .cell) = true
      · show List.lookup x ((if (k == NameKind.free && env.scope.kind == .function && env.kindOf n == some .cell) = true then (n, NameKind.cell) else (n, k)) :: _) = _ ∨ List.lookup x ((if (k == NameKind.free && env.scope.kind == .function && env.kindOf n == some .cell) = true then (n, NameKind.cell) else (n, k)) :: _) = _
        rw [if_pos hc]; simp only [List.lookup_cons, hx]; exact q
      · show List.lookup x ((if (k == NameKind.free && env.scope.kind == .function && env.kindOf n == some .cell) = true then (n, NameKind.cell) else (n, k)) :: _) = _ ∨ List.lookup x ((if (k == NameKind.free && env.scope.kind == .function && env.kindOf n == some .cell) = true then (n, NameKind.cell) else (n, k)) :: _) = _
        rw [if_neg hc]; simp only [List.lookup_cons, hx]; exact q
/-- a kind behind relabel that is a cell's or free was free (no cell of its own) -/
theorem relabel_back {env : Env} : ∀ {names : List (Str × NameKind)} {x : Str} {k' : NameKind}, (∀ y ∈ names, y.2 ≠ .cell) →
    (names.map fun (n, k) => if (k == NameKind.free && env.scope.kind == .function && env.kindOf n == some .cell) then (n, NameKind.cell) else (n, k)).lookup x = some k' → (k' = .cell ∨ k' = .free) → (x, NameKind.free) ∈ names
  | [], _, _, _, h, _ => by simp at h
  | (n, k) :: r, x, k', hn, h, hk => by
    have ih := @relabel_back env r x k' (fun y hy => hn y (List.mem_cons_of_mem _ hy))
    have hnk : k ≠ .cell := hn (n, k) List.mem_cons_self
    replace h : List.lookup x ((if (k == NameKind.free && env.scope.kind == .function && env.kindOf n == some .cell) = true then (n, NameKind.cell) else (n, k)) :: (r.map fun (n, k) => if (k == NameKind.free && env.scope.kind == .function && env.kindOf n == some .cell) then (n, NameKind.cell) else (n, k))) = some k' := h
    by_cases hc : (k == NameKind.free && env.scope.kind == .function && env.kindOf n == some .cell) = true
    · rw [if_pos hc] at h
      have hkf : k = .free := by
        have := (Bool.and_eq_true_iff.mp (Bool.and_eq_true_iff.mp hc).1).1
        simpa using this
      cases hx : x == n with
      | true =>
        have : x = n := by simpa using hx
        subst this
        rw [hkf]
        exact List.mem_cons_self
      | false =>
        simp only [List.lookup_cons, hx] at h
        exact List.mem_cons_of_mem _ (ih h hk)
    · rw [if_neg hc] at h
      cases hx : x == n with
      | true =>
        have : x = n := by simpa using hx
        subst this
        simp only [List.lookup_cons, hx] at h
        cases h
        rcases hk with z | z
        · exact absurd z hnk
        · rw [z]
          exact List.mem_cons_self
      | false =>
        simp only [List.lookup_cons, hx] at h
        exact List.mem_cons_of_mem _ (ih h hk)

def compCx (X : Cx) (scope : Scope) (C : Addr) (s0 : Shared) (H0 : Hp) (fp : List Addr) (Nc : List Str) : Cx where
  prog := X.prog
  w := X.w
  K := X.K
  mg := X.mg
  base := X.base
  A := X.A
  N := Nc
  s₀ := s0
  H₀ := H0
  env := compEnvC scope (clOf X.env.cells scope.names []) C X.env
  outer := X.stack
  stack := X.stack
  ex := fp
  fn := fun _ => false
  calm := true
  pn := []
  xe := fun _ _ => False
/-- what the names of a comprehension must be, by those of the def around it -/
def compOk (sc out : Scope) : Bool :=
  (match sc.kind with | .function => true | _ => false) && sc.names.all fun y => match y.2 with
    | .cell => false
    | .free => (match out.names.lookup y.1 with | some .cell => true | some .free => true | _ => false)
    | .local => (match sc.names.lookup y.1 with | some .local => true | _ => false)
    | _ => true
/-- the block's names: none: its own; some i: the i-th of the def around it -/
def ixOk (sc : Scope) (N : List Str) : List Str → List (Option Nat) → Bool
  | [], [] => true
  | _ :: xs, none :: r => ixOk sc N xs r
  | x :: xs, some i :: r => (match N[i]? with | some y => decide (y = x) | none => false) && (match sc.names.lookup x with | some .free => true | _ => false) && ixOk sc N xs r
  | _, _ => false
def cSt (σ : St) : List (Option Nat) → St
  | [] => []
  | none :: r => none :: cSt σ r
  | some i :: r => (match σ[i]? with | some v => v | none => none) :: cSt σ r
theorem ixOk_len {sc : Scope} {N : List Str} : ∀ {xs : List Str} {ix : List (Option Nat)}, ixOk sc N xs ix = true → ix.length = xs.length
  | [], [], _ => rfl
  | [], _ :: _, h => by cases h
  | _ :: _, [], h => by cases h
  | _ :: xs, none :: r, h => by
    have h' : ixOk sc N xs r = true := h
    simp [ixOk_len h']
  | x :: xs, some i :: r, h => by
    have h' : ((match N[i]? with | some y => decide (y = x) | none => false) && (match sc.names.lookup x with | some .free => true | _ => false) && ixOk sc N xs r) = true := h
    simp [ixOk_len (Bool.and_eq_true_iff.mp h').2]
theorem cSt_len {σ : St} : ∀ (ix : List (Option Nat)), (cSt σ ix).length = ix.length
  | [] => rfl
  | none :: r => by simp [cSt, cSt_len r]
  | some i :: r => by simp [cSt, cSt_len r]
theorem cSt_get {sc : Scope} {N : List Str} {σ : St} : ∀ {xs : List Str} {ix : List (Option Nat)} {j : Nat} {x : Str} {v : V}, ixOk sc N xs ix = true → xs[j]? = some x → (cSt σ ix)[j]? = some (some v) →
    ∃ i : Nat, N[i]? = some x ∧ σ[i]? = some (some v) ∧ sc.names.lookup x = some .free
  | [], _, j, x, v, _, h, _ => by simp at h
  | _ :: _, [], j, x, v, h, _, _ => by cases h
  | _ :: xs, none :: r, 0, x, v, _, _, e => by simp [cSt] at e
  | _ :: xs, none :: r, j + 1, x, v, h, h1, e => by
    have h' : ixOk sc N xs r = true := h
    exact cSt_get (j := j) h' (by simpa using h1) (by simpa [cSt] using e)
  | y :: xs, some i :: r, 0, x, v, h, h1, e => by
    have h' : ((match N[i]? with | some z => decide (z = y) | none => false) && (match sc.names.lookup y with | some .free => true | _ => false) && ixOk sc N xs r) = true := h
    have h1' : y = x := by simpa using h1
    subst h1'
    obtain ⟨h2, _⟩ := Bool.and_eq_true_iff.mp h'
    obtain ⟨h3, h4⟩ := Bool.and_eq_true_iff.mp h2
    refine ⟨i, ?_, ?_, ?_⟩
    · cases q : N[i]? with
      | none => rw [q] at h3; cases h3
      | some z => rw [q] at h3; simp at h3; rw [h3]
    · cases q : σ[i]? with
      | none => simp [cSt, q] at e
      | some z => simp [cSt, q] at e; rw [e]
    · cases q : sc.names.lookup y with
      | none => rw [q] at h4; cases h4
      | some k => rw [q] at h4; cases k <;> first | rfl | cases h4
  | y :: xs, some i :: r, j + 1, x, v, h, h1, e => by
    have h' : ((match N[i]? with | some z => decide (z = y) | none => false) && (match sc.names.lookup y with | some .free => true | _ => false) && ixOk sc N xs r) = true := h
    exact cSt_get (j := j) (Bool.and_eq_true_iff.mp h').2 (by simpa using h1) (by simpa [cSt] using e)

/-- the tests of a comprehension -/
def PIfs (X : Cx) (ifs : List Expr) (t : TT) : Prop :=
  ∀ (pins : List (Addr × Obj)) (s : Shared) (σ : St) (H : Hp) (Q : Bool → Hp → Prop), Inv X pins σ H s → t σ H Q →
    wpAny (model X.prog X.w) X.A (forIn ifs true fun c r => if r = true then do let ok ← isTrue c X.env (eval c X.env); pure (ForInStep.yield ok) else pure (ForInStep.yield r)) (TP X pins σ Q) X.xe s
def tYes : TT := fun _ H Q => Q true H
theorem pifs_nil {X : Cx} : PIfs X [] tYes := fun _ _ _ H _ I h => wpAny_tests_nil ⟨H, I, h⟩
theorem pifs_one {X : Cx} {c : Expr} {t : TT} (h : PT X c t) : PIfs X [c] t := fun pins s σ H Q I q => wpAny_tests_one (h pins s σ H Q I q)

/-- what is known of the names stays known -/
def Agree (σ σ' : St) : Prop := σ'.length = σ.length ∧ ∀ (j : Nat) v, σ[j]? = some (some v) → σ'[j]? = some (some v)
theorem Agree.one (o o' : Option V) (σ : St) (h : o = none) : Agree (o :: σ) (o' :: σ) := ⟨rfl, fun j v e => by
  cases j with
  | zero => subst h; simp at e
  | succ j => simpa using e⟩
def CompW (J : It) (D : Addr) (g : TG) (tt : TT) (te : TE) (σ0 : St) (H0 : Hp) (Q : VK) : Prop :=
  ∃ W : Nat → Nat → List V → Hp → Prop, (∃ m, W 0 m [] H0) ∧ ∀ i m ys H2, W i m ys H2 → H2 D = some (.lst ys) ∧
    ((J.stop i H2 ∧ Q (.ref D) H2) ∨ (J.go i H2 ∧ ys.length < sizeLine ∧ ∃ (N : V → Hp → Prop) (N' : Hp → Prop),
      (∀ y H6, N y H6 → H6 D = some (.lst ys) ∧ ∃ m', m' < m ∧ W (i + 1) m' (ys ++ [y]) (upd H6 D (.lst (ys ++ [y])))) ∧ (∀ H5, N' H5 → ∃ m', m' < m ∧ W (i + 1) m' ys H5) ∧
      ∀ x H3, J.yld i H2 x H3 → g x σ0 H3 fun σ4 H4 => Agree σ0 σ4 ∧ tt σ4 H4 fun b H5 => if b = true then te σ4 H5 N else N' H5))
def tComp (ix : List (Option Nat)) (wi : TI) (g : TG) (tt : TT) (te : TE) : TE := fun σ H Q => wi σ H fun J H1 => ∀ D, H1 D = none → CompW J D g tt te (cSt σ ix) (upd H1 D (.lst [])) Q

section
variable {X : Cx} {tg iter elt : Expr} {ifs : List Expr} {scope : Scope} {pos : Pos} {pins : List (Addr × Obj)} {σ : St} {H : Hp} {s : Shared}
theorem compOk_kind (ok : compOk scope X.env.scope = true) : scope.kind = .function := by
  have h := (Bool.and_eq_true_iff.mp ok).1
  cases e : scope.kind <;> rw [e] at h <;> first | rfl | cases h
theorem compOk_all (ok : compOk scope X.env.scope = true) : ∀ y ∈ scope.names, (match y.2 with
    | .cell => false
    | .free => (match X.env.scope.names.lookup y.1 with | some .cell => true | some .free => true | _ => false)
    | .local => (match scope.names.lookup y.1 with | some .local => true | _ => false)
    | _ => true) = true := List.all_eq_true.mp (Bool.and_eq_true_iff.mp ok).2
theorem compOk_cell (ok : compOk scope X.env.scope = true) : ∀ y ∈ scope.names, y.2 ≠ .cell := fun y hy e => by
  have h := compOk_all ok y hy
  rw [e] at h
  cases h
theorem compOk_local (ok : compOk scope X.env.scope = true) : ∀ y ∈ scope.names, y.2 = .local → scope.names.lookup y.1 = some .local := fun y hy e => by
  have h := compOk_all ok y hy
  rw [e] at h
  dsimp only at h
  cases q : scope.names.lookup y.1 with
  | none => rw [q] at h; cases h
  | some k => rw [q] at h; cases k <;> first | rfl | cases h
theorem compOk_free (ok : compOk scope X.env.scope = true) : ∀ y ∈ scope.names, y.2 = .free → X.env.kindOf y.1 = some .cell ∨ X.env.kindOf y.1 = some .free := fun y hy e => by
  have h := compOk_all ok y hy
  rw [e] at h
  dsimp only at h
  show X.env.scope.names.lookup y.1 = _ ∨ X.env.scope.names.lookup y.1 = _
  cases q : X.env.scope.names.lookup y.1 with
  | none => rw [q] at h; cases h
  | some k => rw [q] at h; cases k <;> first | exact .inl rfl | exact .inr rfl | cases h
theorem comp_cells (I : Inv X pins σ H s) (ok : compOk scope X.env.scope = true) : ∀ y ∈ scope.names, y.2 = .free → ∃ c, X.env.cells.lookup y.1 = some c := fun y hy e => I.ok.has y.1 (compOk_free ok y hy e)
theorem comp_cl (I : Inv X pins σ H s) (ok : compOk scope X.env.scope = true) {x : Str} {c : Addr} (h : (clOf X.env.cells scope.names []).lookup x = some c) : X.env.cells.lookup x = some c := by
  rcases clOf_get _ _ (comp_cells I ok) h with q | q
  · simp at q
  · exact q

/-- the block's entry -/
theorem comp_inv {C : Addr} {fp : List Addr} {Nc : List Str} {ix : List (Option Nat)} {h1 : Heap} {tk : Nat} {m : Str → Option Value} (I : Inv X pins σ H s) (hc : X.calm = true) (ok : compOk scope X.env.scope = true) (hix : ixOk scope X.N Nc ix = true)
    (hfp : ∀ b ∈ fp, FpOk X pins H b ∧ b < s.heap.objs.size) (hC : C = s.heap.objs.size) (hns : h1.Ns C m) (hk : ∀ b o, s.heap.get? b = some o → h1.get? b = some o) :
    Inv (compCx X scope C s H fp Nc) [] (cSt σ ix) H { s with heap := h1, toks := tk } := by
  have lt : ∀ b o, s.heap.get? b = some o → b ≠ C := fun b o e => by rw [hC]; exact Nat.ne_of_lt (Heap.lt_size e)
  have nfs : ∀ b ∈ fp, b ∉ frs X.stack := fun b hb z => by
    obtain ⟨f1, f2, f3, _⟩ := (hfp b hb).1
    rcases List.mem_cons.mp (I.stkSub b z) with q | q
    · exact f2 q
    · exact f3 q
  refine ⟨⟨I.ok.mod, (compOk_kind (X := X) (scope := scope) ok), I.ok.glob, I.ok.blt, Nat.le_of_eq hC.symm, fun x y c e1 e2 => I.ok.inj x y c (comp_cl I ok e1) (comp_cl I ok e2), fun x hx => ?_, (fun _ _ z => nomatch z), fun _ => I.ok.hd hc, I.ok.frames, .inl rfl, fun b hb => ⟨?_, fun x c e => ?_⟩, I.bs, Nat.le_trans I.ok.bsz I.sz, fun b o e hb => ?_, nfs, I.stack, I.stkFree⟩,
    rfl, I.bare, Un.kept hk, ⟨m, hns, fun i x v e1 e2 e3 => ?_⟩, fun x c e => ?_, ?_, fun x c e => I.freeC x c (comp_cl I ok e), (fun p hp => by cases hp), I.hok.kept hk, ?_⟩
  · -- has
    have hmem : (x, NameKind.free) ∈ scope.names := by
      rcases hx with hx | hx
      · exact relabel_back (env := X.env) (compOk_cell ok) hx (.inl rfl)
      · exact relabel_back (env := X.env) (compOk_cell ok) hx (.inr rfl)
    have q := clOf_has (cells := X.env.cells) scope.names [] (x := x) (.inl hmem)
    exact Option.isSome_iff_exists.mp q
  · rw [show (compCx X scope C s H fp Nc).env.locals = C from rfl, hC]
    exact Nat.ne_of_lt (hfp b hb).2
  · exact (hfp b hb).1.2.2.2.2.1 x c (comp_cl I ok e)
  · obtain ⟨_, _, _, f4, _⟩ := (hfp b hb).1
    rcases f4 with z | z
    · exact I.ok.noex b o e z
    · exact absurd (Nat.lt_of_lt_of_le (Heap.lt_size e) (Nat.le_trans I.ok.bsz z)) (Nat.lt_irrefl _)
  · obtain ⟨j, n1, n2, n3⟩ := cSt_get hix e1 e2
    have hmem : (x, NameKind.free) ∈ scope.names := mem_of_lookup n3
    have hkind := compOk_free ok (x, .free) hmem rfl
    obtain ⟨mX, _, hl⟩ := I.loc
    have hvis : Vis X.env.scope x := .inr hkind
    obtain ⟨u, r, l⟩ := hl j x v n1 n2 hvis
    refine ⟨u, r, ?_⟩
    rcases l with ⟨k1, _⟩ | ⟨_, c, e, z⟩
    · rcases hkind with q | q
      · rw [q] at k1; cases k1
      · rw [q] at k1; cases k1
    · refine .inr ⟨relabel_free n3, c, ?_, ?_⟩
      · have q := clOf_has (cells := X.env.cells) scope.names [] (x := x) (.inl hmem)
        obtain ⟨c', hc'⟩ := Option.isSome_iff_exists.mp q
        have := comp_cl I ok hc'
        rw [e] at this
        cases this
        exact hc'
      · obtain ⟨o, ho, hd⟩ := z
        exact ⟨o, hk c o ho, hd⟩
  · obtain ⟨v, o, ho, hd⟩ := I.cell x c (comp_cl I ok e)
    exact ⟨v, o, hk c o ho, hd⟩
  · rw [show (compCx X scope C s H fp Nc).env.locals = C from rfl, hC]
    exact I.hok.fresh (Nat.le_refl _)
  · rw [cSt_len, ixOk_len hix]
    rfl

theorem comp_run {g : TG} {tt : TT} {te : TE} {Nc : List Str} {ix : List (Option Nat)} {it : Addr} {fp : List Addr} {tn : Nat → Heap → Prop} {J : It} {Q : VK} {E : Value → Shared → Prop} {RR : Value → Addr → Result → Shared → Prop}
    (I : Inv X pins σ H s) (hc : X.calm = true) (ok : compOk scope X.env.scope = true) (hix : ixOk scope X.N Nc ix = true)
    (hg : ∀ C s0 H0 fp, PG (compCx X scope C s0 H0 fp Nc) tg g) (ht : ∀ C s0 H0 fp, PIfs (compCx X scope C s0 H0 fp Nc) ifs tt) (he : ∀ C s0 H0 fp, PE (compCx X scope C s0 H0 fp Nc) elt te)
    (T : Turn X.prog X.w X.K tg J fp it tn) (t0 : tn 0 s.heap) (f0 : ∀ b ∈ fp, FpOk X pins H b)
    (h : ∀ D, H D = none → CompW J D g tt te (cSt σ ix) (upd H D (.lst [])) Q)
    (hRR : ∀ D C s' H' m, Inv X pins σ H' s' → s'.heap.Ns C m → H' C = none → X.s₀.heap.objs.size ≤ C → C ≠ X.env.locals → (∀ x c, X.env.cells.lookup x = some c → c ≠ C) → (∀ p ∈ X.pn ++ pins, p.1 ≠ C) → Q (.ref D) H' → RR (.ref D) C (.ok .next) s') :
    wpAny (model X.prog X.w) X.A (newList []) (fun acc s3 => wpAny (model X.prog X.w) X.A (newFunctionEnv scope X.env.globals (clOf X.env.cells scope.names []) [] X.env.qual none .none (some X.env)) (fun cenv s4 =>
      codeAny (model X.prog X.w) X.A (.compStart (.ListComp elt [⟨tg, iter, ifs, 0⟩] scope pos) 0 (.ref it) acc { cenv with scope := relabel scope X.env }) (RR acc cenv.locals) s4) E s3) E s := by
  have hD : H s.heap.objs.size = none := I.fresh
  obtain ⟨W, ⟨m0, w0⟩, turn⟩ := h _ hD
  refine wpAny_newList ?_
  have I0 := I.lnew (its := []) (ys := []) (t' := s.toks) .nil (Nat.zero_le _)
  have hold : ∀ b o, s.heap.get? b = some o → (s.heap.push { cls := .type "list", data := .seq ([] : List Value).toArray }).get? b = some o := fun b o e => Heap.get?_push_of_some _ e
  have f0' : ∀ b ∈ fp, FpOk X pins (upd H s.heap.objs.size (.lst [])) b ∧ b < (s.heap.push { cls := .type "list", data := .seq ([] : List Value).toArray }).objs.size := fun b hb => by
    obtain ⟨o, ho, _⟩ := T.obj _ _ t0 b hb
    have hlt := Heap.lt_size ho
    refine ⟨⟨?_, (f0 b hb).2⟩, Heap.lt_size (hold b o ho)⟩
    rw [upd_ne (Nat.ne_of_lt hlt)]
    exact (f0 b hb).1
  have t0' : tn 0 (s.heap.push { cls := .type "list", data := .seq ([] : List Value).toArray }) := T.keep _ _ _ t0 fun b hb o e => hold b o e
  clear f0 t0 I
  generalize hs0 : ({ s with heap := s.heap.push { cls := .type "list", data := .seq ([] : List Value).toArray }, toks := s.toks } : Shared) = s0 at I0
  have es0 : s0.heap = s.heap.push { cls := .type "list", data := .seq ([] : List Value).toArray } := by rw [← hs0]
  rw [← es0] at f0' t0'
  generalize s.heap.objs.size = D at *
  generalize upd H D (.lst []) = H0 at *
  refine wpAny_newFunctionEnv (compOk_cell ok) (by intro y hy; simp at hy) (fun h1 hns1 hsb1 => ?_) (compOk_kind ok)
  generalize hCe : s0.heap.objs.size = C at hns1 hsb1
  have hk1 : ∀ b o, s0.heap.get? b = some o → h1.get? b = some o := fun b o e => hsb1.extBut b o (by rw [← hCe]; exact Nat.ne_of_lt (Heap.lt_size e)) (Heap.get?_push_of_some _ e)
  have IC := comp_inv (C := C) (fp := fp) (Nc := Nc) (ix := ix) (h1 := h1) (tk := s0.toks + ([] : List (Str × Value)).length) I0 hc ok hix f0' hCe.symm hns1 hk1
  have t1 : tn 0 h1 := T.keep _ _ _ t0' fun b hb o e => hk1 b o e
  have fpx : ∀ {H' : Hp} {pl : List (Addr × Obj)}, (∀ p ∈ pl, p.1 ∉ fp) → (∀ b ∈ fp, H' b = none) → ∀ b ∈ fp, FpOk (compCx X scope C s0 H0 fp Nc) pl H' b := fun {H' pl} hpl hn b hb =>
    ⟨hn b hb, (IC.ok.exf b hb).1, IC.ok.exfs b hb, .inl hb, (IC.ok.exf b hb).2, fun p hp e => hpl p (by simpa [compCx] using hp) (e ▸ hb)⟩
  have loop : ∀ s1 : Shared, s1 = { s0 with heap := h1, toks := s0.toks + ([] : List (Str × Value)).length } →
      codeAny (model X.prog X.w) X.A (.compLoop (.ListComp elt [⟨tg, iter, ifs, 0⟩] scope pos) 0 (.ref it) (.ref D) (compCx X scope C s0 H0 fp Nc).env) (RR (.ref D) C) s1 := by
    rintro s1 rfl
    refine compLoop_any (fun n s' => ∃ i ys H', Inv (compCx X scope C s0 H0 fp Nc) [] (cSt σ ix) H' s' ∧ tn i s'.heap ∧ (∀ b ∈ fp, H' b = none) ∧ W i n ys H') ?_ m0 ⟨0, [], _, IC, t1, fun b hb => (f0' b hb).1.1, w0⟩
    rintro n s3 ⟨i, ys, H3, I3, st3, fr3, w3⟩
    obtain ⟨hD3, alt⟩ := turn i n ys H3 w3
    rcases alt with ⟨stop, qn⟩ | ⟨go, hlen, N, N', hN, hN', step⟩
    · refine thn (T.done (compCx X scope C s0 H0 fp Nc) rfl rfl rfl rfl i [] s3 _ H3 (fun _ _ => False) I3 (fpx (fun p hp => by cases hp) fr3) st3 stop) fun r s4 ⟨hr, I4⟩ => ?_
      subst hr
      have J4 : Inv X pins σ H3 s4 := I0.call' (s' := s4) (ch := fp) I4.os I4.base I4.hok I4.bare fun b hb => ⟨(f0' b hb).1.2.2.2.1, (f0' b hb).1.2.1, (f0' b hb).1.2.2.2.2.1, (f0' b hb).1.2.2.2.2.2⟩
      obtain ⟨m4, hn4, _⟩ := I4.loc
      exact hRR D C s4 H3 m4 J4 hn4 I4.free (by rw [← hCe]; exact I0.sz) (by rw [← hCe]; exact (Nat.ne_of_lt I0.lt).symm)
        (fun x c e z => by
          obtain ⟨_, o, ho, _⟩ := I0.cell x c e
          have := Heap.lt_size ho
          rw [z, ← hCe] at this
          exact Nat.lt_irrefl _ this)
        (fun p hp z => by
          have := Heap.lt_size (I0.pin p hp).1
          rw [z, ← hCe] at this
          exact Nat.lt_irrefl _ this) qn
    · refine thn (T.item (compCx X scope C s0 H0 fp Nc) rfl rfl rfl rfl i [] s3 _ H3 (fun _ _ => False) I3 (fpx (fun p hp => by cases hp) fr3) st3 go) fun r s4 ⟨u, hr, h4⟩ => ?_
      subst hr
      refine thn h4 fun _ s5 ⟨x, H5, I5, r5, y5, st5, fr5⟩ => ?_
      have I5' := I5.pinned (fpx (fun p hp => by cases hp) fr5) (T.obj _ _ st5)
      refine thn (hg C s0 H0 fp _ s5 _ H5 x u _ I5' r5 (step x H5 y5)) fun _ s6 ⟨σ6, H6, I6, hag, q6⟩ => ?_
      refine thn (ht C s0 H0 fp _ s6 σ6 H6 _ I6 q6) fun ok7 s7 ⟨H7, I7, q7⟩ => ?_
      have again : ∀ {H8 : Hp} {s8 : Shared} {zs : List V} {m' : Nat}, Inv (compCx X scope C s0 H0 fp Nc) ([] ++ pinsAt fp s5.heap) σ6 H8 s8 → m' < n → W (i + 1) m' zs H8 →
          ∃ m, m < n ∧ ∃ i ys H', Inv (compCx X scope C s0 H0 fp Nc) [] (cSt σ ix) H' s8 ∧ tn i s8.heap ∧ (∀ b ∈ fp, H' b = none) ∧ W i m ys H' := fun {H8 s8 zs m'} I8 hm w8 => by
        refine ⟨m', hm, i + 1, zs, H8, I8.unpinned.weak hag.1.symm hag.2, T.keep _ _ _ st5 fun b hb o e => (I8.pin (b, o) (List.mem_append_right _ (List.mem_append_right _ (mem_pinsAt hb e)))).1, fun b hb => ?_, w8⟩
        obtain ⟨o, e, d⟩ := T.obj _ _ st5 b hb
        exact (I8.pin (b, o) (List.mem_append_right _ (List.mem_append_right _ (mem_pinsAt hb e)))).2.1
      cases ok7 with
      | false =>
        rw [if_neg Bool.false_ne_true] at q7 ⊢
        obtain ⟨m', hm, w7⟩ := hN' _ q7
        exact again I7 hm w7
      | true =>
        rw [if_pos rfl] at q7 ⊢
        refine thn (he C s0 H0 fp _ s7 σ6 H7 _ I7 q7) fun y s8 ⟨yv, H8, I8, r8, q8⟩ => ?_
        obtain ⟨hD8, m', hm, w8⟩ := hN _ _ q8
        refine thn (mt_append (X := compCx X scope C s0 H0 fp Nc) _ s8 σ6 H8 (.ref D) [yv] (.ref D) [y] (fun v H9 => v = .non ∧ H9 = upd H8 D (.lst (ys ++ [yv]))) I8 rfl (.cons r8 .nil) ⟨D, ys, yv, rfl, rfl, hD8, hlen, rfl, rfl⟩) fun _ s9 ⟨v9, H9, I9, _, _, e9⟩ => ?_
        subst e9
        exact again I9 hm w8
  exact codeAny_compStart_list (loop _ rfl) (T.self X.A 0 _ _ _ t1 (loop _ rfl))

/-- [e for t in it if c] as a value -/
theorem pe_comp {wi : TI} {g : TG} {tt : TT} {te : TE} (Nc : List Str) (ix : List (Option Nat)) (hc : X.calm = true) (ok : compOk scope X.env.scope = true) (hix : ixOk scope X.N Nc ix = true)
    (hi : PI X tg iter wi) (hg : ∀ C s0 H0 fp, PG (compCx X scope C s0 H0 fp Nc) tg g) (ht : ∀ C s0 H0 fp, PIfs (compCx X scope C s0 H0 fp Nc) ifs tt) (he : ∀ C s0 H0 fp, PE (compCx X scope C s0 H0 fp Nc) elt te)
    (hs : ∀ x, foldedSetIterable iter X.env x = pure x := by intro _; rfl) : PE X (.ListComp elt [⟨tg, iter, ifs, 0⟩] scope pos) (tComp ix wi g tt te) := by
  intro pins s σ H Q I h
  rw [eval_ListComp]
  refine wpAny_comprehension_free (use := none) rfl hs (closureFor_clOf (comp_cells I ok)) (compOk_kind ok) (compOk_local ok) (thn (hi pins s σ H _ I h) fun xv s1 h1 => thn h1 fun itv s2 h2 => ?_)
  obtain ⟨it, fp, tn, J, H2, rfl, I2, T, st2, f2, q2⟩ := h2
  exact comp_run (RR := fun acc C => compPost (model X.prog X.w) X.A X.xe none (EP X pins σ Q) acc C) I2 hc ok hix hg ht he T st2 f2 q2
    (fun D C s' H' m J' hn hC h1 h2 h3 h4 q => ⟨m, hn, fun h' hs' => ⟨.ref D, H', J'.turned (t' := s'.toks) (fun b o nb e => hs'.extBut b o nb e) hC h2 (.inr h1) h3 h4, rfl, q⟩⟩)
/-- x = [e for t in it if c], x a plain local: the value is stored ahead of the block's end -/
theorem ps_setC {wi : TI} {g : TG} {tt : TT} {te : TE} {i : Nat} {y : Str} {py spos : Pos} (hN : X.N.Nodup) (hy : X.N[i]? = some y) (hx : Loc X.env.scope y) (Nc : List Str) (ix : List (Option Nat)) (hc : X.calm = true) (ok : compOk scope X.env.scope = true) (hix : ixOk scope X.N Nc ix = true)
    (hi : PI X tg iter wi) (hg : ∀ C s0 H0 fp, PG (compCx X scope C s0 H0 fp Nc) tg g) (ht : ∀ C s0 H0 fp, PIfs (compCx X scope C s0 H0 fp Nc) ifs tt) (he : ∀ C s0 H0 fp, PE (compCx X scope C s0 H0 fp Nc) elt te)
    (hs : ∀ x, foldedSetIterable iter X.env x = pure x := by intro _; rfl)
    (hsw : swapsWith (.ListComp elt [⟨tg, iter, ifs, 0⟩] scope pos) (some (.Name y py)) spos.line X.env = pure true := by rfl) (hf : X.fn y = true ∨ X.env.scope.names.lookup y = some .local := by first | exact .inl rfl | exact .inr rfl | assumption) :
    PS X (.Assign [.Name y py] (.ListComp elt [⟨tg, iter, ifs, 0⟩] scope pos) spos) (tAsg (tComp ix wi g tt te) (gName i)) := by
  intro pins s σ H Dn I h
  rw [exec_Assign_Name_used _ _ _ _ hsw]
  refine wpAny_bind (wpAny_standAt (wpAny_bind ?_))
  show wpAny _ X.A (do let _ ← comprehension (.ListComp elt [⟨tg, iter, ifs, 0⟩] scope pos) scope X.env _ (newList []) false (eval iter X.env) (some (assign (.Name y py) X.env))) _ _ s
  refine wpAny_bind (wpAny_mono (wpAny_comprehension_free (use := some (assign (.Name y py) X.env)) (Q := fun _ s' => SP X pins Dn .next s') rfl hs (closureFor_clOf (comp_cells I ok)) (compOk_kind ok) (compOk_local ok)
    (thn (hi pins s σ H _ I h) fun xv s1 h1 => thn h1 fun itv s2 h2 => ?_)) (fun _ s' hq => wpAny_pure (wpAny_pure hq)) fun _ _ e => e)
  obtain ⟨it, fp, tn, J, H2, rfl, I2, T, st2, f2, q2⟩ := h2
  refine comp_run (RR := fun acc C => compPost (model X.prog X.w) X.A X.xe (some (assign (.Name y py) X.env)) (fun _ s' => SP X pins Dn .next s') acc C) I2 hc ok hix hg ht he T st2 f2 q2
    (fun D C s' H' m J' hn hC h1 h2 h3 h4 q => ?_)
  show wpAny _ X.A (assign (.Name y py) X.env (.ref D)) _ _ _
  refine wpAny_assign_Name (store_ok2 J' hN hy hx (v := .ref D) rfl (fun s'' J'' ⟨a, hsb, ha⟩ => ⟨m, hn.sameBut hsb ?_, fun h' hs' => ⟨_, H', J''.turned (t' := s''.toks) (fun b o nb e => hs'.extBut b o nb e) hC h2 (.inr h1) h3 h4, q⟩⟩) hf)
  rcases ha with ha | ha
  · rw [ha]
    exact h2
  · exact (h3 _ _ ha).symm
end

/-- all but D is as it was -/
def Keep (D : Addr) (H H' : Hp) : Prop := ∀ b o, b ≠ D → H b = some o → H' b = some o
theorem Same.keep {H H' : Hp} (h : Same H H') (D : Addr) : Keep D H H' := fun b o _ e => h b o e
theorem Keep.upd {H : Hp} {D : Addr} {o : HO} : Keep D H (upd H D o) := fun b u n e => by rw [upd_ne n]; exact e
theorem Same.upd {H : Hp} {D : Addr} {o : HO} (h : H D = none) : Same H (upd H D o) := fun b u e => by rw [upd_ne (ne_of_none e h)]; exact e
theorem Same.updT {H H' : Hp} {D : Addr} {o : HO} (s : Same H H') (h : H D = none) : Same H (L2.upd H' D o) := fun b u e => by rw [upd_ne (ne_of_none e h)]; exact s b u e
/-- without a test, one name: the turn's value is xv i; what the element gives at turn i is told by R -/
theorem comp1 {J : It} {D : Addr} {te : TE} {σf : St} {H1 : Hp} {Q : VK} (n : Nat) (xv : Nat → V) (R : Nat → V → Hp → Prop) (hn : n < sizeLine) (hD1 : H1 D = none)
    (hgo : ∀ i H, i < n → Same H1 H → J.go i H) (hst : ∀ H, Same H1 H → J.stop n H) (hy : ∀ i H x H', i < n → Same H1 H → J.yld i H x H' → x = xv i ∧ H' = H)
    (mono : ∀ i y H H', Keep D H H' → R i y H → R i y H')
    (hs : ∀ i H ys (N : VK), i < n → Same H1 H → H D = some (.lst ys) → (∀ y H', Same H H' → R i y H' → N y H') → te (some (xv i) :: σf) H N)
    (hd : ∀ ys H, Same H1 H → H D = some (.lst ys) → ys.length = n → (∀ (i : Nat) y, ys[i]? = some y → R i y H) → Q (.ref D) H) : CompW J D (gName 0) tYes te (none :: σf) (upd H1 D (.lst [])) Q := by
  refine ⟨fun i m ys H => i ≤ n ∧ m = n - i ∧ Same H1 H ∧ H D = some (.lst ys) ∧ ys.length = i ∧ ∀ j y, ys[j]? = some y → R j y H, ⟨n, Nat.zero_le _, rfl, Same.upd hD1, upd_same, rfl, fun j y e => by simp at e⟩, ?_⟩
  rintro i m ys H ⟨hi, rfl, s1, d1, l1, r1⟩
  refine ⟨d1, ?_⟩
  by_cases hlt : i < n
  · refine .inr ⟨hgo i H hlt s1, by rw [l1]; exact Nat.lt_trans hlt hn, fun y H' => Same H H' ∧ R i y H', fun _ => False, fun y H6 q => ?_, fun _ z => z.elim, fun x H' y => ?_⟩
    · obtain ⟨s6, r6⟩ := q
      refine ⟨s6 _ _ d1, n - (i + 1), by omega, hlt, rfl, (s1.trans s6).updT hD1, upd_same, by simp [l1], fun j z e => ?_⟩
      by_cases hj : j < ys.length
      · rw [List.getElem?_append_left hj] at e
        exact mono _ _ _ _ Keep.upd (mono _ _ _ _ (s6.keep D) (r1 j z e))
      · have hj' : j = ys.length := by
          have := (List.getElem?_eq_some_iff.mp e).1
          simp at this
          omega
        subst hj'
        simp at e
        subst e
        rw [l1]
        exact mono _ _ _ _ Keep.upd r6
    · obtain ⟨rfl, rfl⟩ := hy i H x H' hlt s1 y
      refine ⟨Agree.one _ _ _ rfl, ?_⟩
      show if true = true then te (some (xv i) :: σf) H' (fun y H'' => Same H' H'' ∧ R i y H'') else False
      rw [if_pos rfl]
      exact hs i H' ys _ hlt s1 d1 fun y H6 a b => ⟨a, b⟩
  · obtain rfl : i = n := Nat.le_antisymm hi (Nat.not_lt.mp hlt)
    exact .inl ⟨hst H s1, hd ys H s1 d1 l1 r1⟩
/-- over a list -/
theorem comp_list {K : PySem.W.Frag} {a D : Addr} {xs : List V} {te : TE} {σf : St} {H1 : Hp} {Q : VK} (R : Nat → V → Hp → Prop) (hS : SqL K H1 a xs) (hz : xs.length < sizeLine) (hD1 : H1 D = none)
    (mono : ∀ i y H H', Keep D H H' → R i y H → R i y H')
    (hs : ∀ i x H ys (N : VK), xs[i]? = some x → Same H1 H → H D = some (.lst ys) → (∀ y H', Same H H' → R i y H' → N y H') → te (some x :: σf) H N)
    (hd : ∀ ys H, Same H1 H → H D = some (.lst ys) → ys.length = xs.length → (∀ (i : Nat) y, ys[i]? = some y → R i y H) → Q (.ref D) H) : CompW (Itl K a) D (gName 0) tYes te (none :: σf) (upd H1 D (.lst [])) Q := by
  refine comp1 xs.length (fun i => (xs[i]?).getD .non) R hz hD1 (fun i H hi s => ⟨xs, xs[i], s.seq hS, by simp [hi]⟩) (fun H s => ⟨xs, s.seq hS, Nat.le_refl _⟩) (fun i H x H' hi s y => ?_) mono (fun i H ys N hi s d hN => ?_) hd
  · obtain ⟨rfl, y⟩ := y
    have := y xs (s.seq hS)
    exact ⟨by simp [this], rfl⟩
  · have e : xs[i]? = some xs[i] := by simp [hi]
    have q := hs i xs[i] H ys N e s d hN
    rw [e]
    exact q
/-- over a range -/
theorem comp_range {lo : Int} {n : Nat} {D : Addr} {te : TE} {σf : St} {H1 : Hp} {Q : VK} (R : Nat → V → Hp → Prop) (hz : n < sizeLine) (hD1 : H1 D = none)
    (mono : ∀ i y H H', Keep D H H' → R i y H → R i y H')
    (hs : ∀ (i : Nat) H ys (N : VK), i < n → Same H1 H → H D = some (.lst ys) → (∀ y H', Same H H' → R i y H' → N y H') → te (some (.int (lo + i)) :: σf) H N)
    (hd : ∀ ys H, Same H1 H → H D = some (.lst ys) → ys.length = n → (∀ (i : Nat) y, ys[i]? = some y → R i y H) → Q (.ref D) H) : CompW (Itr lo n) D (gName 0) tYes te (none :: σf) (upd H1 D (.lst [])) Q :=
  comp1 n (fun i => .int (lo + i)) R hz hD1 (fun i H hi _ => hi) (fun H _ => Nat.le_refl _) (fun i H x H' hi s y => ⟨y.2, y.1⟩) mono hs hd
end L2

set_option Elab.async false
set_option linter.all false
set_option maxRecDepth 100000
set_option maxHeartbeats 4000000
namespace L2
open PySem PySem.Spec PyProof.Rows

def CBig (i j : Int) : Prop := (-(10 ^ 200) < i ∧ i < 10 ^ 200) ∧ (-(10 ^ 200) < j ∧ j < 10 ^ 200)
def CDivB (i j : Int) : Prop := 0 < j ∧ j < 10 ^ 200
theorem big_pow : (10 : Nat) ^ 200 ≤ 2 ^ 700 := by decide +kernel
theorem big_abs {i : Int} (h : -(10 ^ 200) < i ∧ i < 10 ^ 200) : i.natAbs < 2 ^ 700 := by
  have h1 : i.natAbs < 10 ^ 200 := by
    have e : ((10 ^ 200 : Nat) : Int) = (10 : Int) ^ 200 := by simp
    have : (i.natAbs : Int) < ((10 ^ 200 : Nat) : Int) := by rw [e]; omega
    exact Int.ofNat_lt.mp this
  exact Nat.lt_of_lt_of_le h1 big_pow
theorem CBig.ok {i j : Int} (h : CBig i j) : IntMulOk i j := IntMulOk.of_le (m := 700) (n := 700) (intBits_le_iff.mpr (big_abs h.1)) (intBits_le_iff.mpr (big_abs h.2)) (by decide)
section
variable {X : Cx}
theorem op_mulW : OpR X (binaryOp .Mult) (rI CBig fun i j => .int (i * j)) := opI fun _ _ _ _ _ _ _ hc q => mul_int q hc.ok
theorem op_fdivW : OpR X (binaryOp .FloorDiv) (rI CDivB fun i j => .int (i / j)) := opI fun i j _ _ _ _ _ hc q => by
  have h1 : (0 : Int) < j := hc.1
  have h2 : j.natAbs < 2 ^ 700 := big_abs ⟨by have := hc.2; omega, hc.2⟩
  refine floordiv_int (by omega) (by rw [Int.fdiv_eq_ediv_of_nonneg i (by omega)]; exact q) (.inl (PyProof.noPylong_of_log2 ?_))
  have h3 : j.natAbs.log2 < 700 := (Nat.log2_lt (by omega)).mpr h2
  omega
end

structure Src (K : PySem.W.Frag) (mg : Str → Option Value) (x qual : Str) (st : Stmt) : Prop where
  ex : ∃ f fd, Fun K x qual st f fd ∧ mg x = some (.ref f)
theorem src_mk {K : PySem.W.Frag} {h : Heap} {mg : Str → Option Value} {x qual : Str} {st : Stmt} {f : Addr} {oc : Value} {od an : Option Addr} {osl : Array (Option Value)} {kV doc pm cdv ct : Value} (X : K.In h) (G : h.Ns mainGlobals mg)
    (a : PySem.W.nsIn K mainGlobals x = some (some (.ref f))) (l : K.lookup f = some ⟨oc, od, .func (PySem.W.fnOf x qual (defArgs st) (defBody st) (defScope st) .none kV doc pm an cdv ct), osl⟩)
    (c : PySem.W.codeIn K cdv qual = true) (k : PySem.W.keepIn K (.ref f) = true) : Src K mg x qual st := ⟨f, _, fun_mk l c k, PySem.W.mg_of X G a⟩
structure Def (P : Program) (w : World) (K : PySem.W.Frag) (mg : Str → Option Value) (base : Heap) (k : Nat) (x : Str) (ps : List Str) (sp : Sp) : Prop where
  ex : ∃ f fd, mg x = some (.ref f) ∧ PySem.W.keepIn K (.ref f) = true ∧ Binds K fd ps [] ∧ FnOk P w K mg base CX0 k f fd ps sp ∧ ∃ oc od osl, K.lookup f = some ⟨oc, od, .func fd, osl⟩
section
variable {P : Program} {w : World} {K : PySem.W.Frag} {mg : Str → Option Value} {base : Heap}
theorem Src.mk' {x qual : Str} {st : Stmt} {N ps : List Str} {k : Nat} {sp : Sp} (S : Src K mg x qual st) (Sc : FnScope N ps (defScope st)) (len : ∀ vs H Q E, sp vs H Q E → vs.length = ps.length)
    (hb : ∀ (kV doc pm : Value) (an : Option Addr) (cdv ct : Value) (us : List Value), us.length = ps.length → bindArgs (PySem.W.fnOf x qual (defArgs st) (defBody st) (defScope st) .none kV doc pm an cdv ct) ⟨us, []⟩ = pure (ps.zip us))
    (hbody : ∀ (f : Addr) (cdv : Value) (A : Around) (outer : List Env) (s : Shared) (H : Hp) (vs : List V) (Q : VK) (E : XK), Room k (A.deeper (envOfC qual (defScope st) s.heap.objs.size f cdv)) → sp vs H Q E →
      ∃ t, PSs (cxOf CX0 P w K mg base N qual (defScope st) f cdv A outer s H E).nox (defBody st) t ∧ t { nx := fun _ H' => Q .non H', rt := Q } (start N vs) H) : Def P w K mg base (k + 1) x ps sp := by
  obtain ⟨f, fd, F, hm⟩ := S.ex
  obtain ⟨oc, od, _, _, _, _, _, _, osl, _, lk, _⟩ := F.ex
  exact ⟨f, fd, hm, F.kp, F.binds hb, F.ok Sc len (hbody f), oc, od, osl, lk⟩
/-- the law's own def, over every base -/
theorem law_fd {x p : Str} {st : Stmt} {k : Nat} {sp : Sp} {fa : Addr} (S : Src K mg x x st)
    (hb : ∀ (kV doc pm : Value) (an : Option Addr) (cdv ct : Value) (u : Value), bindArgs (PySem.W.fnOf x x (defArgs st) (defBody st) (defScope st) .none kV doc pm an cdv ct) ⟨[u], []⟩ = pure [(p, u)])
    (h : ∀ base, Def P w K mg base k x [p] sp) (hfa : mg x = some (.ref fa)) :
    ∃ fd : FuncData, (∀ (s : Shared) (u : Value), BindsTo s fd ⟨[u], []⟩ [(p, u)]) ∧ ∀ base : Heap, K.In base → base.Ns mainGlobals mg → FnOk P w K mg base CX0 k fa fd [p] sp := by
  obtain ⟨f, fd, F, hm⟩ := S.ex
  rw [hm] at hfa
  cases hfa
  obtain ⟨oc, od, kV, doc, pm, an, cdv, ct, osl, e, lk, hcd⟩ := F.ex
  refine ⟨fd, fun s u => by subst e; exact .of_eq (hb kV doc pm an cdv ct u), fun base _ _ => ?_⟩
  obtain ⟨f', fd', hm', _, _, G, oc', od', osl', lk'⟩ := (h base).ex
  rw [hm] at hm'
  cases hm'
  rw [lk] at lk'
  cases lk'
  exact G
end
section
variable {X : Cx} {k : Nat} {x : Str} {ps : List Str} {sp : Sp} {p pos : Pos} {e : Expr} {es : List Expr} {t : TA}
theorem pe_def (D : Def X.prog X.w X.K X.mg X.base k x ps sp) (hr : Room k X.A) (hg : Gl X x) (ha : PA X (e :: es) t) (hdb : (x == ("__debug__" : Str)) = false := by decide) (he : starEach (e :: es) X.env = (false, eval e X.env) :: starEach es X.env := by rfl)
    (hpl : (backTo pos (starEach es X.env)).any (·.1) = false := by rfl) : PE X (.Call (.Name x p) (e :: es) [] pos) (tCall sp [] E0 t) := by
  obtain ⟨f, fd, hm, hk, hb, F, _⟩ := D.ex
  exact pe_call F hr hg hm hk hb .nil pass0 ha hdb he hpl
end

section
variable {X : Cx}
def rIs (K : PySem.W.Frag) : List V → Hp → VK → Prop := fun xs H Q => ∃ x n t b, xs = [x, .ty n] ∧ TyOf K H x t ∧ PySem.W.kitOne K t (.type n) = some b ∧ Q (.bl b) H
theorem call_isinst : CallR X (.builtin "isinstance") (rIs X.K) := by
  intro pins s σ H xs us Q I r h
  obtain ⟨x, n, t, b, rfl, ty, e, q⟩ := h
  obtain ⟨u, u2, rfl, ru, r2⟩ := vals2 r
  have e2 : u2 = Value.type n := r2
  subst e2
  exact isinst_ok I ru ty e fun tk => ⟨.bl b, H, I.tok tk, rfl, q⟩
theorem boot_len' : bootBuiltins "len" = some (.builtin "len") := by decide +kernel
theorem boot_isinstance' : bootBuiltins "isinstance" = some (.builtin "isinstance") := by decide +kernel
theorem boot_sum' : bootBuiltins "sum" = some (.builtin "sum") := by decide +kernel
theorem boot_min' : bootBuiltins "min" = some (.builtin "min") := by decide +kernel
theorem boot_all' : bootBuiltins "all" = some (.builtin "all") := by decide +kernel
theorem boot_bool' : bootBuiltins "bool" = some (.type "bool") := by decide +kernel
theorem boot_int' : bootBuiltins "int" = some (.type "int") := by decide +kernel
theorem boot_list' : bootBuiltins "list" = some (.type "list") := by decide +kernel
theorem boot_enumerate' : bootBuiltins "enumerate" = some (.type "enumerate") := by decide +kernel
theorem kit_same (K : PySem.W.Frag) (n : String) : PySem.W.kitOne K (.type n) (.type n) = some true := by
  unfold PySem.W.kitOne
  rw [if_pos (beq_self_eq_true _)]
end

def Ite (K : PySem.W.Frag) (a : Addr) : It :=
  ⟨fun i H => ∃ xs x, SqL K H a xs ∧ xs[i]? = some x, fun i H x H' => ∃ T, H T = none ∧ x = .ref T ∧ ∀ xs, SqL K H a xs → ∃ v, xs[i]? = some v ∧ H' = upd H T (.tup [.int i, v]), fun i H => ∃ xs, SqL K H a xs ∧ xs.length ≤ i⟩
theorem Inv.turnNew {X : Cx} {pins : List (Addr × Obj)} {σ : St} {H : Hp} {s : Shared} {e it T : Addr} {h' : Heap} {xs : List V} {t' : Nat} (I : Inv X pins σ H s) (k : ∀ b o, b ≠ e → b ≠ it → s.heap.get? b = some o → h'.get? b = some o) (fe : FpOk X pins H e) (fi : FpOk X pins H it)
    (hT : T = s.heap.objs.size) (new : ObjOk X.prog X.w (upd H T (.tup xs)) h' T (.tup xs)) : Inv X pins σ (upd H T (.tup xs)) { s with heap := h', toks := t' } := by
  have hn : H T = none := by rw [hT]; exact I.fresh
  have nT : ∀ b o, s.heap.get? b = some o → b ≠ T := fun b o e => by rw [hT]; exact Nat.ne_of_lt (Heap.lt_size e)
  have nch : ∀ b, b ∉ [e, it] → b ≠ e ∧ b ≠ it := fun b h => ⟨fun z => h (by simp [z]), fun z => h (by simp [z])⟩
  refine I.step (g' := s.gens) (d' := s.drawn) (ch := [e, it]) (fun b hb => ?_) (fun b o _ _ hc q _ => k b o (nch b hc).1 (nch b hc).2 q) (fun b o _ _ hc q _ => ⟨o.slots, k b o (nch b hc).1 (nch b hc).2 q⟩) (fun b o _ q n => by rw [upd_ne (nT b o q)]; exact n)
    (fun b o hc q => ⟨o, k b o (nch b hc).1 (nch b hc).2 q⟩) (fun b ys q => by rw [upd_ne (ne_of_none q hn)]; exact q) (fun b o u q => by rw [upd_ne (ne_of_none q hn)]; exact q) (fun b ps q => ⟨#[], by rw [upd_ne (ne_of_none q hn), q]; simp⟩) (fun m hm => ?_) (fun b u q => ?_) I.bare
  · rcases List.mem_cons.mp hb with z | hb
    · subst z
      exact ⟨fe.2.2.2.1, fe.2.1, fe.2.2.2.2.1, fe.2.2.2.2.2⟩
    · have z : b = it := by simpa using hb
      subst z
      exact ⟨fi.2.2.2.1, fi.2.1, fi.2.2.2.2.1, fi.2.2.2.2.2⟩
  · obtain ⟨o, es, ep, ho, r⟩ := hm
    exact ⟨o, es, ep, k _ o (Ne.symm fe.2.1) (Ne.symm fi.2.1) ho, r⟩
  · by_cases hb : b = T
    · subst hb
      rw [upd_same] at q
      cases q
      exact new
    · rw [upd_ne hb] at q
      have ne : ∀ c u, H c = some u → c ≠ e ∧ c ≠ it := fun c u z => ⟨fun w => (by rw [w, fe.1] at z; cases z), fun w => (by rw [w, fi.1] at z; cases z)⟩
      refine (I.hok b u q).stay (fun c v hc z => ?_) (fun c z => by rw [upd_ne (ne_of_none z hn)]; exact z) fun c ys z => by rw [upd_ne (ne_of_none z hn)]; exact z
      rcases hc with w | w
      · rw [w] at z ⊢
        exact k b v (ne b u q).1 (ne b u q).2 z
      · exact k c v (ne c _ w).1 (ne c _ w).2 z
theorem turn_enum {P : Program} {w : World} {K : PySem.W.Frag} {elts : List Expr} {tk : Nat} {tp : Pos} (a e it : Addr) (hne : e ≠ it) :
    Turn P w K (.Tuple elts tk tp) (Ite K a) [e, it] e (fun i h => (∃ old, IsEnum h e it (i : Nat) old) ∧ h.IsListIter it a i) where
  mem := by simp
  obj := fun i h st b hb => by
    obtain ⟨⟨old, he⟩, hit⟩ := st
    rcases List.mem_cons.mp hb with z | hb
    · subst z
      exact ⟨_, he, fun v z => by
        have z' : Data.fields _ = Data.cell v := z
        cases z'⟩
    · have z : b = it := by simpa using hb
      subst z
      obtain ⟨o, e, c, d⟩ := hit
      exact ⟨o, e, fun v z => by rw [d] at z; cases z⟩
  keep := fun i h h' st k => by
    obtain ⟨⟨old, he⟩, hit⟩ := st
    exact ⟨⟨old, k e (by simp) _ he⟩, hit.at fun o x => k it (by simp) o x⟩
  item := by
    intro X hP hw hK hc i pins s σ H E I hf st hg
    subst hP hw hK
    obtain ⟨⟨old, he⟩, hit⟩ := st
    obtain ⟨xs, x, hq, hx⟩ := hg
    obtain ⟨its, rv, p, hz⟩ := I.list hq
    obtain ⟨u, hu, ru⟩ := rv.get hx
    refine wpAny_pyNext_enum_item he hit p.isList (x := u) (by simpa using hu) hne fun h' heo hit' hT hsz hk => ?_
    refine ⟨_, rfl, wpAny_letOwnedTupleGo_enum heo fun h2 he2 hs2 => ?_⟩
    have helt : e < s.heap.objs.size := Heap.lt_size he
    have hT2 : h2.get? s.heap.objs.size = some { cls := .type "tuple", data := .seq #[.int i s.toks, u] } := (hs2.2 _ (Nat.ne_of_gt helt)).trans hT
    have I2 : Inv X pins σ (upd H s.heap.objs.size (.tup [.int i, x])) { s with heap := h2, toks := s.toks + 1 } :=
      I.turnNew (e := e) (it := it) (fun b o h1 h3 q => (hs2.2 b h1).trans (hk b o h1 h3 q)) (hf e (by simp)) (hf it (by simp)) rfl
        ⟨by show 2 ≤ sizeLine; rw [sizeLine_eq]; decide, [.int i s.toks, u], .cons ⟨_, rfl⟩ (.cons ru .nil), ⟨_, hT2, rfl, _, rfl⟩⟩
    refine ⟨.ref s.heap.objs.size, _, I2, rfl, ⟨_, I.fresh, rfl, fun ys hy => ⟨x, by rw [I.list_inj hy hq]; exact hx, rfl⟩⟩, ⟨⟨u, ?_⟩, hit'.at fun o q => (hs2.2 it hne.symm).trans q⟩, fun b hb => ?_⟩
    · have e1 : ((i + 1 : Nat) : Int) = (i : Int) + 1 := by simp
      rw [e1]
      exact he2
    · obtain ⟨o, ho, _⟩ : ∃ o, s.heap.get? b = some o ∧ True := by
        rcases List.mem_cons.mp hb with z | hb
        · subst z
          exact ⟨_, he, trivial⟩
        · have z : b = it := by simpa using hb
          subst z
          obtain ⟨o, q, _⟩ := hit
          exact ⟨o, q, trivial⟩
      rw [upd_ne (Nat.ne_of_lt (Heap.lt_size ho))]
      exact (hf b hb).1
  done := by
    intro X hP hw hK hc i pins s σ H E I hf st hg
    subst hP hw hK
    obtain ⟨⟨old, he⟩, hit⟩ := st
    obtain ⟨xs, hq, hx⟩ := hg
    obtain ⟨its, rv, p, hz⟩ := I.list hq
    obtain ⟨f0, f1, f2, f3, f4, f5⟩ := hf it (by simp)
    have hl := rv.length
    exact wpAny_pyNext_enum_end (I.ok.hd hc) he hit p.isList (by simp; omega) fun h' eb => ⟨rfl, I.turned (t' := s.toks) (fun b o hb e => eb b o hb e) f0 f1 f3 f4 f5⟩
  self := fun A i s Q E st h => by
    obtain ⟨⟨old, he⟩, _⟩ := st
    exact wpAny_pyIter_enum he h
section
variable {X : Cx}
def iEnum (K : PySem.W.Frag) (ta : TA) : TI := fun σ H R => ta σ H fun vs H1 => ∃ a, vs = [.ref a] ∧ (∃ xs, SqL K H1 a xs) ∧ R (Ite K a) H1
theorem pi_enum {l : Expr} {ta : TA} {p pos tp : Pos} {elts : List Expr} {tk : Nat} (hg : Gl X "enumerate") (hm : X.mg "enumerate" = none) (ha : PA X [l] ta) (hs : starEach [l] X.env = [(false, eval l X.env)] := by rfl) :
    PI X (.Tuple elts tk tp) (.Call (.Name "enumerate" p) [l] [] pos) (iEnum X.K ta) := by
  intro pins s σ H R I h
  refine Call_ (ld_blt I hg hm boot_enumerate' (PyProof.Rows.callWith_type1 (thn (ha pos pins s σ H _ I h) fun us s1 ⟨vs, H1, I1, r1, q1⟩ => ?_) hs rfl))
  obtain ⟨a, e, ⟨xs, hq⟩, q⟩ := q1
  subst e
  cases r1 with
  | cons r rr =>
    cases rr
    obtain rfl := r
    obtain ⟨its, rv, pl, hz⟩ := I1.list hq
    refine call_enumerate_list pl.isList fun h' he hit hsz hk => ?_
    refine wpAny_pyIter_enum he ?_
    refine ⟨s1.heap.objs.size + 1, [s1.heap.objs.size + 1, s1.heap.objs.size], _, _, H1, rfl, I1.kept (t' := s1.toks) hk, turn_enum a _ _ (Nat.succ_ne_self _), ⟨⟨_, he⟩, hit⟩, fun b hb => ?_, q⟩
    have hle : s1.heap.objs.size ≤ b := by
      rcases List.mem_cons.mp hb with z | hb
      · rw [z]; exact Nat.le_succ _
      · have z : b = s1.heap.objs.size := by simpa using hb
        rw [z]
        exact Nat.le_refl _
    exact I1.fpOk hle (I1.hok.fresh hle)
end
/-- for i, x in enumerate(list): the body leaves the list -/
theorem for_enum {K : PySem.W.Frag} {a : Addr} {xs : List V} {g : TG} {tb : TS} {D : Ends} {σ : St} {H : Hp} (Pv : Nat → St → Hp → Prop) (h0 : Pv 0 σ H) (hl : ∀ i σ H, i ≤ xs.length → Pv i σ H → SqL K H a xs)
    (hs : ∀ i x σ H T, xs[i]? = some x → Pv i σ H → H T = none → g (.ref T) σ (upd H T (.tup [.int i, x])) fun σ2 H2 => tb { D with nx := Pv (i + 1), ct := Pv (i + 1), bk := D.nx } σ2 H2) (hd : ∀ σ H, Pv xs.length σ H → D.nx σ H) :
    ∃ W : Nat → Nat → St → Hp → Prop, (∃ m, W 0 m σ H) ∧ ∀ i m σ H, W i m σ H →
      ((Ite K a).stop i H ∧ D.nx σ H) ∨ ((Ite K a).go i H ∧ ∃ N : St → Hp → Prop, (∀ σ' H', N σ' H' → ∃ m', m' < m ∧ W (i + 1) m' σ' H') ∧ ∀ x H', (Ite K a).yld i H x H' → g x σ H' fun σ2 H2 => tb { D with nx := N, ct := N, bk := D.nx } σ2 H2) := by
  refine ⟨fun i m σ H => m = xs.length - i ∧ i ≤ xs.length ∧ Pv i σ H, ⟨xs.length, by simp, Nat.zero_le _, h0⟩, ?_⟩
  rintro i m σ H ⟨rfl, hi, p⟩
  have q := hl i σ H hi p
  by_cases hlt : i < xs.length
  · refine .inr ⟨⟨xs, xs[i], q, by simp [hlt]⟩, Pv (i + 1), fun σ' H' p' => ⟨xs.length - (i + 1), by omega, rfl, hlt, p'⟩, fun x H' y => ?_⟩
    obtain ⟨T, hT, rfl, y⟩ := y
    obtain ⟨v, hv, rfl⟩ := y xs q
    exact hs i v σ H T hv p hT
  · obtain rfl : i = xs.length := by omega
    exact .inl ⟨⟨xs, q, Nat.le_refl _⟩, hd σ H p⟩
end L2
namespace L2
open PySem PySem.Spec PyProof.Rows
def tJoin (t : TS) : TS := fun D σ H => ∃ N : St → Hp → Prop, t { D with nx := N } σ H ∧ ∀ σ' H', N σ' H' → D.nx σ' H'
theorem ps_join {X : Cx} {st : Stmt} {t : TS} (h : PS X st t) : PS X st (tJoin t) := by
  intro pins s σ H D I q
  obtain ⟨N, q, hN⟩ := q
  refine thn (h pins s σ H _ I q) fun f s' z => ?_
  cases f with
  | next => obtain ⟨σ', H', I', n⟩ := z; exact ⟨σ', H', I', hN σ' H' n⟩
  | brk => exact z
  | cont => exact z
  | ret v => exact z
theorem len_small {n : Nat} (h : n ≤ 1000) : n ≤ sizeLine := Nat.le_of_lt (small1000 h)
theorem atI_int {α : Type} {xs : List α} {z : Int} (j : Nat) {v : α} (hz : z = (j : Int)) (h : xs[j]? = some v) : atI xs z = some v := by
  subst hz
  exact atI_nat h
end L2

namespace L2
open PySem PySem.Spec PyProof.Rows
structure New (H : Hp) (p : Addr) (o : HO) (H' : Hp) : Prop where
  same : Same H H'
  none : H p = Option.none
  at_ : H' p = some o
theorem new_upd {H : Hp} {p : Addr} {o : HO} (h : H p = Option.none) : New H p o (upd H p o) := ⟨Same.upd h, h, upd_same⟩
section
variable {X : Cx} {es : List Expr} {t : TA} {pos : Pos}
def tTup' (t : TA) : TE := fun σ H Q => t σ H fun xs H1 => xs.length ≤ sizeLine ∧ ∀ p H', New H1 p (.tup xs) H' → Q (.ref p) H'
def tLst' (t : TA) : TE := fun σ H Q => t σ H fun xs H1 => xs.length ≤ sizeLine ∧ ∀ p H', New H1 p (.lst xs) H' → Q (.ref p) H'
theorem OpR.imp {f : Value → Value → Sem Value} {r r' : R2} (h : OpR X f r) (i : ∀ x y H Q, r' x y H Q → r x y H Q) : OpR X f r' := fun pins s σ H x y v u Q I rx ry q => h pins s σ H x y v u Q I rx ry (i _ _ _ _ q)
theorem SlR.imp {r r' : V → Option Int → Option Int → Hp → VK → Prop} (h : SlR X r) (i : ∀ x l u H Q, r' x l u H Q → r x l u H Q) : SlR X r' := fun pins s σ H x v vl vu lo hi sl Q I rx hs pl pu q => h pins s σ H x v vl vu lo hi sl Q I rx hs pl pu (i _ _ _ _ _ q)
theorem CallR.imp {f : Value} {r r' : List V → Hp → VK → Prop} (h : CallR X f r) (i : ∀ xs H Q, r' xs H Q → r xs H Q) : CallR X f r' := fun pins s σ H xs us Q I rv q => h pins s σ H xs us Q I rv (i _ _ _ q)
def rSlL' (K : PySem.W.Frag) : V → Option Int → Option Int → Hp → VK → Prop := fun x lo hi H Q => ∃ a xs, x = .ref a ∧ SqL K H a xs ∧ ∀ p H', New H p (.lst (cutV xs lo hi)) H' → Q (.ref p) H'
theorem sl_list' : SlR X (rSlL' X.K) := sl_list.imp fun x l u H Q ⟨a, xs, e, h, q⟩ => ⟨a, xs, e, h, fun p hp => q p _ (new_upd hp)⟩
def rCat' : R2 := fun x y H Q => ∃ l b xs zs, x = .ref l ∧ y = .ref b ∧ H l = some (.lst xs) ∧ H b = some (.lst zs) ∧ xs.length + zs.length ≤ sizeLine ∧ ∀ p H', New H p (.lst (xs ++ zs)) H' → Q (.ref p) H'
theorem op_cat' : OpR X (binaryOp .Add) rCat' := op_cat.imp fun x y H Q ⟨l, b, xs, zs, e1, e2, h1, h2, hz, q⟩ => ⟨l, b, xs, zs, e1, e2, h1, h2, hz, fun p hp => q p _ (new_upd hp)⟩
theorem call_list_of' : CallR X (.type "list") (fun xs H Q => ∃ p ys, xs = [.ref p] ∧ (SqL X.K H p ys ∨ SqT X.K H p ys) ∧ ∀ l H', New H l (.lst ys) H' → Q (.ref l) H') := call_list_of.imp fun xs H Q ⟨p, ys, e, h, q⟩ => ⟨p, ys, e, h, fun l hl => q l _ (new_upd hl)⟩
theorem pe_tup' {x1} (h : PA X es t) : PE X (.Tuple es x1 pos) (tTup' t) := by
  intro pins s σ H Q I hq
  refine wpAny_Tuple_spliced (thn (h pos pins s σ H _ I hq) fun us s1 ⟨xs, H1, I1, r, z, q⟩ => ⟨by rw [← r.length]; exact z, ?_⟩)
  refine ⟨.ref s1.heap.objs.size, _, I1.laid (t' := s1.toks) (o := .tup xs) (fun b u e => Heap.get?_push_of_some _ e) (Nat.le_refl _) ?_, rfl, q _ _ (new_upd I1.fresh)⟩
  exact ⟨z, us, r, ⟨_, Heap.get?_push_size _ rfl, rfl, _, rfl⟩⟩
theorem pe_lst' (h : PA X es t) : PE X (.List es pos) (tLst' t) := by
  intro pins s σ H Q I hq
  refine wpAny_List_spliced (thn (h pos pins s σ H _ I hq) fun us s1 ⟨xs, H1, I1, r, z, q⟩ => ⟨by rw [← r.length]; exact z, ?_⟩)
  refine ⟨.ref s1.heap.objs.size, _, I1.laid (t' := s1.toks) (o := .lst xs) (fun b u e => Heap.get?_push_of_some _ e) (Nat.le_refl _) ?_, rfl, q _ _ (new_upd I1.fresh)⟩
  exact ⟨z, us, 0, r, Heap.get?_push_size _ rfl⟩
end
end L2

set_option Elab.async false
set_option linter.all false
set_option maxRecDepth 100000
set_option maxHeartbeats 4000000
namespace L2
open PySem PySem.Spec PyProof.Rows
theorem kit_ib (K : PySem.W.Frag) : PySem.W.kitOne K (.type "int") (.type "bool") = some false := by kernel_rfl
theorem all_eq : ∀ (ns ms : List Int), ns.length = ms.length → ((List.range ns.length).all fun j => decide (ns[j]? = ms[j]?)) = decide (ns = ms) := fun ns ms hl => by
  by_cases h : ns = ms
  · subst h
    rw [decide_eq_true rfl]
    exact List.all_eq_true.mpr fun j _ => decide_eq_true rfl
  · rw [decide_eq_false h]
    refine Bool.eq_false_iff.mpr fun q => h (List.ext_getElem? fun j => ?_)
    have q := List.all_eq_true.mp q
    by_cases hj : j < ns.length
    · exact of_decide_eq_true (q j (List.mem_range.mpr hj))
    · rw [List.getElem?_eq_none_iff.mpr (by omega), List.getElem?_eq_none_iff.mpr (by omega)]
section
variable {X : Cx}
theorem ints_eqAt {A : Around} {s : Shared} {ns ms : List Int} {us ws : List Value} (r1 : Vals (ns.map V.int) us) (r2 : Vals (ms.map V.int) ws) (j : Nat) (h1 : j < us.toArray.size) (h2 : j < ws.toArray.size) :
    SeqAt.EqAt A s us.toArray[j] ws.toArray[j] (decide (ns[j]? = ms[j]?)) := by
  have l1 := r1.length
  have l2 := r2.length
  simp at l1 l2 h1 h2
  have g1 : (ns.map V.int)[j]? = some (.int ns[j]) := by simp [l1, h1]
  have g2 : (ms.map V.int)[j]? = some (.int ms[j]) := by simp [l2, h2]
  obtain ⟨u, e1, q1⟩ := r1.get g1
  obtain ⟨v, e2, q2⟩ := r2.get g2
  have e1' : us.toArray[j] = u := by
    have := List.getElem?_eq_some_iff.mp e1
    obtain ⟨_, z⟩ := this
    simpa using z
  have e2' : ws.toArray[j] = v := by
    have := List.getElem?_eq_some_iff.mp e2
    obtain ⟨_, z⟩ := this
    simpa using z
  rw [e1', e2']
  have k := eqAt_V (A := A) (s := s) q1 q2 rfl rfl
  have e3 : eqV (V.int ns[j]) (V.int ms[j]) = decide (ns[j]? = ms[j]?) := by
    show (ns[j] == ms[j]) = _
    simp [List.getElem?_eq_getElem, l1, l2, h1, h2, Bool.beq_eq_decide_eq]
  rw [e3] at k
  exact k
def rEqLI (K : PySem.W.Frag) (neg : Bool) : R2 := fun x y H Q => ∃ (a b : Addr) (ns ms : List Int), x = .ref a ∧ y = .ref b ∧ SqL K H a (ns.map V.int) ∧ SqL K H b (ms.map V.int) ∧ Q (.bl (if neg = true then !decide (ns = ms) else decide (ns = ms))) H
theorem op_eqLI (hu : X.A.units < cLine) : OpR X (compareOp .Eq) (rEqLI X.K false) := by
  intro pins s σ H x y v u Q I rx ry h
  obtain ⟨a, b, ns, ms, rfl, rfl, ha, hb, q⟩ := h
  cases rx
  cases ry
  obtain ⟨is, r1, p1, z1⟩ := I.list ha
  obtain ⟨js, r2, p2, z2⟩ := I.list hb
  have l1 := r1.length
  have l2 := r2.length
  simp at l1 l2
  by_cases hl : ns.length = ms.length
  · refine SeqAt.eq_listAt (e := fun j => decide (ns[j]? = ms[j]?)) p1.isList p2.isList (by simp; omega) hu (fun j h1 h2 => ints_eqAt r1 r2 j h1 h2) ?_
    have e : ((List.range is.toArray.size).all fun j => decide (ns[j]? = ms[j]?)) = decide (ns = ms) := by
      rw [List.size_toArray, ← l1]
      exact all_eq ns ms hl
    rw [e]
    exact ⟨.bl (decide (ns = ms)), H, I, rfl, q⟩
  · refine SeqAt.eq_list_lengthsAt p1.isList p2.isList (by simp; omega) hu ?_
    have e : decide (ns = ms) = false := decide_eq_false fun z => hl (by rw [z])
    rw [e] at q
    exact ⟨.bl false, H, I, rfl, q⟩
theorem op_neLI (hu : X.A.units < cLine) : OpR X (compareOp .NotEq) (rEqLI X.K true) := by
  intro pins s σ H x y v u Q I rx ry h
  obtain ⟨a, b, ns, ms, rfl, rfl, ha, hb, q⟩ := h
  cases rx
  cases ry
  obtain ⟨is, r1, p1, z1⟩ := I.list ha
  obtain ⟨js, r2, p2, z2⟩ := I.list hb
  have l1 := r1.length
  have l2 := r2.length
  simp at l1 l2
  by_cases hl : ns.length = ms.length
  · refine SeqAt.RcNeAt.lists (e := fun j => decide (ns[j]? = ms[j]?)) p1.isList p2.isList (by simp; omega) hu (fun j h1 h2 => ints_eqAt r1 r2 j h1 h2) _ _ _ _ ?_
    have e : ((List.range is.toArray.size).all fun j => decide (ns[j]? = ms[j]?)) = decide (ns = ms) := by
      rw [List.size_toArray, ← l1]
      exact all_eq ns ms hl
    rw [e]
    exact ⟨.bl (!decide (ns = ms)), H, I, rfl, q⟩
  · refine SeqAt.RcNeAt.lists_lengths p1.isList p2.isList (by simp; omega) hu _ _ _ _ ?_
    have e : decide (ns = ms) = false := decide_eq_false fun z => hl (by rw [z])
    rw [e] at q
    exact ⟨.bl true, H, I, rfl, q⟩
end
end L2
namespace L2
open PySem PySem.Spec PyProof.Rows
section
variable {X : Cx} {K : PySem.W.Frag}
theorem ix_seqK (h : X.K = K) : IxR X (rIx K) := h ▸ ix_seq
theorem sl_listK (h : X.K = K) : SlR X (rSlL' K) := h ▸ sl_list'
def rLen (K : PySem.W.Frag) : List V → Hp → VK → Prop := fun xs H Q => ∃ p ys, xs = [.ref p] ∧ (SqL K H p ys ∨ SqT K H p ys) ∧ Q (.int ys.length) H
theorem call_lenK (h : X.K = K) : CallR X (.builtin "len") (rLen K) := h ▸ call_len_seq
theorem call_isinstK (h : X.K = K) : CallR X (.builtin "isinstance") (rIs K) := h ▸ call_isinst
def rListOf (K : PySem.W.Frag) : List V → Hp → VK → Prop := fun xs H Q => ∃ p ys, xs = [.ref p] ∧ (SqL K H p ys ∨ SqT K H p ys) ∧ ∀ l H', New H l (.lst ys) H' → Q (.ref l) H'
theorem call_list_ofK (h : X.K = K) : CallR X (.type "list") (rListOf K) := h ▸ call_list_of'
theorem op_eqLK (h : X.K = K) (hu : X.A.units < cLine) : OpR X (compareOp .Eq) (rEqLI K false) := h ▸ op_eqLI hu
theorem op_neLK (h : X.K = K) (hu : X.A.units < cLine) : OpR X (compareOp .NotEq) (rEqLI K true) := h ▸ op_neLI hu
theorem pi_listK {tg l : Expr} {tl : TE} (h : X.K = K) (hl : PE X l tl) : PI X tg l (iList K tl) := h ▸ pi_list hl
theorem pi_enumK {l : Expr} {ta : TA} {p pos tp : Pos} {elts : List Expr} {tk : Nat} (h : X.K = K) (hg : Gl X "enumerate") (hm : X.mg "enumerate" = none) (ha : PA X [l] ta) (hs : starEach [l] X.env = [(false, eval l X.env)] := by rfl) :
    PI X (.Tuple elts tk tp) (.Call (.Name "enumerate" p) [l] [] pos) (iEnum K ta) := h ▸ pi_enum hg hm ha hs
theorem pg_tupK {es : List Expr} {k : Nat} {t : TGs} {n : Nat} {pos : Pos} (hK : X.K = K) (hc : X.calm = true) (h : PGs X es t)
    (hn : (assignEach es X.env).length = n := by rfl) (hst : (assignEach es X.env).findIdx? (·.1) = none := by rfl) : PG X (.Tuple es k pos) (gTup K n t) := hK ▸ pg_tup hc h hn hst
theorem pe_fldK {e : Expr} {f : Str} {pos : Pos} {ta : TE} (h : X.K = K) (he : PE X e ta) (hb : attributeBase e f X.env (eval e X.env) = eval e X.env) : PE X (.Attribute e f pos) (tFld K ta f) := h ▸ pe_fld he hb
theorem ps_fldK {o value : Expr} {f : Str} {pos pos' : Pos} {ta tv : TE} (h : X.K = K) (ha : PE X o ta) (hv : PE X value tv) (hs : swapsWith value (some (.Attribute o f pos')) pos.line X.env = pure false) : PS X (.Assign [.Attribute o f pos'] value pos) (sFld K ta tv f) := h ▸ ps_fld ha hv hs
theorem pe_bmK {o e : Expr} {es : List Expr} {to : TE} {t : TA} {name : Str} {apos cpos : Pos} {T id : String} {r : V → List V → Hp → VK → Prop} (h : X.K = K) (pa : PlainAttrs T) (slot : Slot T name id) (hty : typeOf (.builtin id) = pure (.type "method_descriptor")) (hm : MtR X id r) (ho : PE X o to) (ha : PA X (e :: es) t)
    (hbase : attributeBase o name X.env (eval o X.env) = eval o X.env := by rfl)
    (hfew : ((backTo cpos (starEach (e :: es) X.env)).all (fun x => !x.1) && (backToKw cpos (keywordEach [] X.env)).all (fun x => x.1.isSome) && decide ((e :: es).length + ([] : List Keyword).length + (if ([] : List Keyword).isEmpty then 0 else 1) < 30)) = true := by rfl)
    (hline : (apos.endLine == cpos.line) = true := by rfl) (hs : starEach (e :: es) X.env = (false, eval e X.env) :: starEach es X.env := by rfl) (hplain : (backTo cpos (starEach es X.env)).any (·.1) = false := by rfl) :
    PE X (.Call (.Attribute o name apos) (e :: es) [] cpos) (tBM K T r to t) := by
  subst h
  exact pe_bm pa slot hty hm ho ha hbase hfew hline hs hplain
end
end L2

set_option Elab.async false
set_option linter.all false
set_option maxRecDepth 100000
set_option maxHeartbeats 4000000
namespace L2
open PySem PySem.Spec PyProof.Rows
section
variable {X : Cx}
end
def tJoinE (t : TE) : TE := fun σ H Q => ∃ N : VK, t σ H N ∧ ∀ v H', N v H' → Q v H'
theorem pe_join {X : Cx} {e : Expr} {t : TE} (h : PE X e t) : PE X e (tJoinE t) := by
  intro pins s σ H Q I q
  obtain ⟨N, q, hN⟩ := q
  refine thn (h pins s σ H _ I q) fun u s' ⟨v, H', I', r, n⟩ => ⟨v, H', I', r, hN v H' n⟩
theorem iteE {b : Bool} {A B : Prop} (e : b = false) (h : B) : if b = true then A else B := by
  rw [e]
  exact iteF h
end L2

set_option Elab.async false
set_option linter.all false
set_option maxRecDepth 100000
set_option maxHeartbeats 4000000
namespace L2
open PySem PySem.Spec PyProof.Rows
theorem mul_bd {a b A B : Int} (a1 : -A ≤ a) (a2 : a ≤ A) (b1 : -B ≤ b) (b2 : b ≤ B) : -(A * B) ≤ a * b ∧ a * b ≤ A * B := by
  have hA : 0 ≤ A := by omega
  have hB : 0 ≤ B := by omega
  have h1 : (a.natAbs : Int) ≤ A := by omega
  have h2 : (b.natAbs : Int) ≤ B := by omega
  have h3 : ((a * b).natAbs : Int) ≤ A * B := by
    rw [Int.natAbs_mul, Int.natCast_mul]
    exact Int.mul_le_mul h1 h2 (Int.natCast_nonneg _) hA
  omega
theorem ixT {K : PySem.W.Frag} {H : Hp} {a : Addr} {xs : List V} {i : Int} {v : V} {Q : VK} (h : SqT K H a xs) (e : atI xs i = some v) (q : Q v H) : rIx K (.ref a) (.int i) H Q := .inr (.inl ⟨a, xs, i, v, rfl, rfl, h, e, q⟩)
theorem ixL {K : PySem.W.Frag} {H : Hp} {a : Addr} {xs : List V} {i : Int} {v : V} {Q : VK} (h : SqL K H a xs) (e : atI xs i = some v) (q : Q v H) : rIx K (.ref a) (.int i) H Q := .inl ⟨a, xs, i, v, rfl, rfl, h, e, q⟩
theorem ixInts {K : PySem.W.Frag} {H : Hp} {a : Addr} {ns : List Int} {i : Int} {Q : VK} (h : SqL K H a (ns.map V.int)) (h0 : 0 ≤ i) (h1 : i < ns.length) (q : ∀ z ∈ ns, Q (.int z) H) : rIx K (.ref a) (.int i) H Q := by
  have hi : i.toNat < ns.length := by omega
  refine ixL h (atI_int i.toNat (by omega) (v := .int ns[i.toNat]) (by simp [hi])) (q _ (List.getElem_mem hi))
theorem take_snoc {l : List Int} {i : Nat} {r : Int} (h : l[i]? = some r) : l.take (i + 1) = l.take i ++ [r] := by
  rw [List.take_add_one, h]
  rfl
theorem int_at {ns : List Int} {i : Nat} {x : V} (hx : (ns.map V.int)[i]? = some x) : ∃ z, ns[i]? = some z ∧ x = .int z := by
  rw [List.getElem?_map] at hx
  cases e : ns[i]? with
  | none => rw [e] at hx; cases hx
  | some z => rw [e] at hx; exact ⟨z, rfl, (Option.some.inj hx).symm⟩
theorem ints_of {ys : List V} {ns : List Int} (l : ys.length = ns.length) (h : ∀ (i : Nat) y, ys[i]? = some y → ∃ z, ns[i]? = some z ∧ y = .int z) : ys = ns.map V.int := by
  refine List.ext_getElem? fun i => ?_
  rw [List.getElem?_map]
  cases q : ys[i]? with
  | none =>
    have : ns.length ≤ i := by rw [← l]; exact List.getElem?_eq_none_iff.mp q
    rw [List.getElem?_eq_none_iff.mpr this]
    rfl
  | some y =>
    obtain ⟨z, h1, h2⟩ := h i y q
    rw [h1, h2]
    rfl
theorem cut_ints (ns : List Int) (lo hi : Option Int) : ∃ ms : List Int, cutV (ns.map V.int) lo hi = ms.map V.int ∧ ms.length ≤ ns.length := by
  refine ⟨(ns.drop (HT.sIx ns.length 0 lo)).take (HT.sIx ns.length ns.length hi - HT.sIx ns.length 0 lo), ?_, ?_⟩
  · unfold cutV
    rw [List.length_map, List.map_take, List.map_drop]
  · simp
    omega
def sp_mixed : Sp := fun vs H Q _ => ∃ c k : Int, vs = [.int c, .int k] ∧ 0 ≤ k ∧ k ≤ 1000000 ∧ ∀ m : Int, 0 ≤ m → m < 2147483629 → Q (.int m) H
def sp_cell (K : PySem.W.Frag) : Sp := fun vs H Q _ => ∃ (a : Addr) (ns : List Int) (k : Int), vs = [.ref a, .int k] ∧ SqL K H a (ns.map V.int) ∧ 0 ≤ k ∧ ∀ z : Int, Q (.int z) H
def sp_whole : Sp := fun vs H Q _ => ∃ i : Int, vs = [.int i] ∧ Q (.bl true) H
end L2

set_option Elab.async false
set_option linter.all false
set_option maxRecDepth 100000
set_option maxHeartbeats 4000000
namespace L2
open PySem PySem.Spec PyProof.Rows
theorem preSum_take (ns : List Int) : ∀ k, k ≤ ns.length → preSum (fun i => ns.getD i 0) k = (ns.take k).sum
  | 0, _ => by simp [preSum]
  | k + 1, h => by
    have hk : k < ns.length := h
    rw [preSum, preSum_take ns k (by omega), take_snoc (r := ns[k]) (by simp [hk]), List.sum_append]
    simp [hk]
section
variable {X : Cx} {K : PySem.W.Frag}
theorem Inv.moved {pins : List (Addr × Obj)} {σ : St} {H : Hp} {s s' : Shared} {o : Obj} (I : Inv X pins σ H s) (m : Moved [s.heap.objs.size] (fun a b => b = a) { s with heap := s.heap.push o } s') : Inv X pins σ H s' := by
  obtain ⟨h', g', d', t', os'⟩ := s'
  obtain ⟨m1, m2, m3, m4, m5⟩ := m
  have e1 : g' = s.gens := m2
  have e2 : d' = s.drawn := m3
  have e3 : os' = s.os := m4
  subst e1 e2 e3
  exact I.kept (t' := t') fun b u e => m1 b u (fun z => by
    have : b = s.heap.objs.size := by simpa using z
    exact absurd (Heap.lt_size e) (by rw [this]; exact Nat.lt_irrefl _)) (Heap.get?_push_of_some _ e)
def rSum (K : PySem.W.Frag) : List V → Hp → VK → Prop := fun xs H Q => ∃ (a : Addr) (ns : List Int), xs = [.ref a] ∧ SqL K H a (ns.map V.int) ∧ Q (.int ns.sum) H
theorem call_sumK (hK : X.K = K) (hc : X.calm = true) : CallR X (.builtin "sum") (rSum K) := by
  subst hK
  intro pins s σ H xs us Q I r h
  obtain ⟨a, ns, rfl, hq, q⟩ := h
  obtain ⟨u, rfl, rx⟩ := vals1 r
  cases rx
  obtain ⟨its, rv, pl, hz⟩ := I.list hq
  have hl := rv.length
  have ha : a < s.heap.objs.size := by
    obtain ⟨o, n, e, _⟩ := pl
    exact Heap.lt_size e
  have hhd : X.A.in1.handled = none := I.ok.hd hc
  refine call_sum_walkAnyS (wpAny_pyIter_list pl.isList ?_)
  refine ⟨s.heap.objs.size, _, _, _, its.toArray.size, _, _, fun i => ns.getD i 0, rfl, (Walks.list hhd s.heap.objs.size a (Nat.ne_of_lt ha) its.toArray).toS, ⟨⟨_, Heap.get?_push_size _ rfl, rfl, rfl⟩, pl.isList.push _⟩, ?_, ?_, ?_⟩
  · intro b hb
    rw [Heap.size_push]
    rcases List.mem_cons.mp hb with z | hb
    · rw [z]; exact Nat.lt_succ_self _
    · have z : b = a := by simpa using hb
      rw [z]; exact Nat.lt_succ_of_lt ha
  · intro i v hv
    have hv' : its[i]? = some v := by simpa using hv
    have hi : i < ns.length := by
      have := (List.getElem?_eq_some_iff.mp hv').1
      simp at hl
      omega
    obtain ⟨u, h1, t, h2⟩ := rv.get (i := i) (x := .int ns[i]) (by simp [hi])
    rw [hv'] at h1
    cases h1
    exact ⟨t, by rw [h2]; simp [hi]⟩
  · intro s' t' m
    refine ⟨.int ns.sum, H, I.moved m, ⟨t', ?_⟩, q⟩
    have e : its.toArray.size = ns.length := by
      rw [List.size_toArray, ← hl]; simp
    rw [e, preSum_take ns _ (Nat.le_refl _), List.take_length]
def rAll (K : PySem.W.Frag) : List V → Hp → VK → Prop := fun xs H Q => ∃ (a : Addr) (bs : List Bool), xs = [.ref a] ∧ SqL K H a (bs.map V.bl) ∧ Q (.bl (bs.all id)) H
theorem range_all (bs : List Bool) : (List.range bs.length).all (fun i => bs.getD i false) = bs.all id := by
  rw [Bool.eq_iff_iff, List.all_eq_true, List.all_eq_true]
  constructor
  · intro h b hb
    obtain ⟨i, hi, rfl⟩ := List.mem_iff_getElem.mp hb
    have := h i (List.mem_range.mpr hi)
    simpa [hi] using this
  · intro h i hi
    have hi' := List.mem_range.mp hi
    have := h bs[i] (List.getElem_mem hi')
    simpa [hi'] using this
theorem call_allK (hK : X.K = K) (hc : X.calm = true) : CallR X (.builtin "all") (rAll K) := by
  subst hK
  intro pins s σ H xs us Q I r h
  obtain ⟨a, bs, rfl, hq, q⟩ := h
  obtain ⟨u, rfl, rx⟩ := vals1 r
  cases rx
  obtain ⟨its, rv, pl, hz⟩ := I.list hq
  have hl := rv.length
  have ha : a < s.heap.objs.size := by
    obtain ⟨o, n, e, _⟩ := pl
    exact Heap.lt_size e
  have hhd : X.A.in1.handled = none := I.ok.hd hc
  refine call_all_walkS (wpAny_pyIter_list pl.isList ?_)
  refine ⟨s.heap.objs.size, _, _, _, its.toArray.size, _, _, fun i => bs.getD i false, rfl, (Walks.list hhd s.heap.objs.size a (Nat.ne_of_lt ha) its.toArray).toS, ⟨⟨_, Heap.get?_push_size _ rfl, rfl, rfl⟩, pl.isList.push _⟩, ?_, ?_⟩
  · intro i v s1 Q1 E1 hv hQ
    have hv' : its[i]? = some v := by simpa using hv
    have hi : i < bs.length := by
      have := (List.getElem?_eq_some_iff.mp hv').1
      simp at hl
      omega
    obtain ⟨u, h1, h2⟩ := rv.get (i := i) (x := .bl bs[i]) (by simp [hi])
    rw [hv'] at h1
    cases h1
    have h2' : v = Value.bool bs[i] := h2
    subst h2'
    refine wpAny_truthy_bool ?_
    have e : bs.getD i false = bs[i] := by simp [hi]
    rw [← e]
    exact hQ
  · intro s' m
    refine ⟨.bl (bs.all id), H, I.moved m, ?_, q⟩
    have e : its.toArray.size = bs.length := by
      rw [List.size_toArray, ← hl]; simp
    rw [e, range_all]
    rfl
def rCount (K : PySem.W.Frag) : V → List V → Hp → VK → Prop := fun x xs H Q => ∃ (a : Addr) (ns : List Int) (k : Int), x = .ref a ∧ xs = [.int k] ∧ SqL K H a (ns.map V.int) ∧ Q (.int ((ns.count k : Nat) : Int)) H
theorem mt_countK (hK : X.K = K) : MtR X "list.count" (rCount K) := by
  subst hK
  intro pins s σ H x xs v us Q I rx r h
  obtain ⟨a, ns, k, rfl, rfl, hq, q⟩ := h
  cases rx
  obtain ⟨u, rfl, t, rfl⟩ := vals1 r
  obtain ⟨its, rv, pl, hz⟩ := I.list hq
  exact count_list_ints pl.isList (intsAre_of rv) ⟨.int _, H, I.tok _, ⟨_, rfl⟩, q⟩
end
theorem compIf {J : It} {D : Addr} {tt : TT} {te : TE} {σf : St} {H1 : Hp} {Q : VK} (n : Nat) (xv : Nat → V) (p : Nat → Bool) (f : Nat → V) (hn : n < sizeLine) (hD1 : H1 D = none)
    (hgo : ∀ i H, i < n → Same H1 H → J.go i H) (hst : ∀ H, Same H1 H → J.stop n H) (hy : ∀ i H x H', i < n → Same H1 H → J.yld i H x H' → x = xv i ∧ H' = H)
    (ht : ∀ i H (N : Bool → Hp → Prop), i < n → Same H1 H → (∀ H', Same H H' → N (p i) H') → tt (some (xv i) :: σf) H N)
    (hs : ∀ i H (N : VK), i < n → p i = true → Same H1 H → (∀ H', Same H H' → N (f i) H') → te (some (xv i) :: σf) H N)
    (hd : ∀ H, Same H1 H → H D = some (.lst (((List.range n).filter p).map f)) → Q (.ref D) H) : CompW J D (gName 0) tt te (none :: σf) (upd H1 D (.lst [])) Q := by
  refine ⟨fun i m ys H => i ≤ n ∧ m = n - i ∧ Same H1 H ∧ H D = some (.lst ys) ∧ ys = ((List.range i).filter p).map f, ⟨n, Nat.zero_le _, rfl, Same.upd hD1, upd_same, rfl⟩, ?_⟩
  rintro i m ys H ⟨hi, rfl, s1, d1, rfl⟩
  refine ⟨d1, ?_⟩
  by_cases hlt : i < n
  · have hle : (((List.range i).filter p).map f).length ≤ i := by
      rw [List.length_map]
      exact Nat.le_trans (List.length_filter_le _ _) (by simp)
    refine .inr ⟨hgo i H hlt s1, by omega, fun y H' => Same H H' ∧ y = f i ∧ p i = true, fun H' => Same H H' ∧ p i = false, fun y H6 q => ?_, fun H5 q => ?_, fun x H' y => ?_⟩
    · obtain ⟨s6, rfl, hp⟩ := q
      refine ⟨s6 _ _ d1, n - (i + 1), by omega, hlt, rfl, (s1.trans s6).updT hD1, upd_same, ?_⟩
      rw [List.range_succ, List.filter_append, List.map_append]
      simp [hp]
    · obtain ⟨s5, hp⟩ := q
      refine ⟨n - (i + 1), by omega, hlt, rfl, s1.trans s5, s5 _ _ d1, ?_⟩
      rw [List.range_succ, List.filter_append, List.map_append]
      simp [hp]
    · obtain ⟨rfl, rfl⟩ := hy i H x H' hlt s1 y
      refine ⟨Agree.one _ _ _ rfl, ?_⟩
      refine ht i H' _ hlt s1 fun H5 s5 => ?_
      cases hp : p i with
      | true =>
        rw [if_pos rfl]
        exact hs i H5 _ hlt hp (s1.trans s5) fun H6 s6 => ⟨s5.trans s6, rfl, rfl⟩
      | false =>
        rw [if_neg Bool.false_ne_true]
        exact ⟨s5, rfl⟩
  · obtain rfl : i = n := Nat.le_antisymm hi (Nat.not_lt.mp hlt)
    exact .inl ⟨hst H s1, hd H s1 d1⟩
/-- over range(n) -/
theorem compIf_range {n : Nat} {D : Addr} {tt : TT} {te : TE} {σf : St} {H1 : Hp} {Q : VK} (p : Nat → Bool) (f : Nat → V) (hn : n < sizeLine) (hD1 : H1 D = none)
    (ht : ∀ (i : Nat) H (N : Bool → Hp → Prop), i < n → Same H1 H → (∀ H', Same H H' → N (p i) H') → tt (some (.int (0 + (i : Int))) :: σf) H N)
    (hs : ∀ (i : Nat) H (N : VK), i < n → p i = true → Same H1 H → (∀ H', Same H H' → N (f i) H') → te (some (.int (0 + (i : Int))) :: σf) H N)
    (hd : ∀ H, Same H1 H → H D = some (.lst (((List.range n).filter p).map f)) → Q (.ref D) H) : CompW (Itr 0 n) D (gName 0) tt te (none :: σf) (upd H1 D (.lst [])) Q :=
  compIf n (fun i => .int (0 + (i : Int))) p f hn hD1 (fun i H hi _ => hi) (fun H _ => Nat.le_refl _) (fun i H x H' hi s y => ⟨y.2, y.1⟩) ht hs hd
section
variable {X : Cx} {K : PySem.W.Frag}
end
end L2

set_option Elab.async false
set_option linter.all false
set_option maxRecDepth 100000
set_option maxHeartbeats 4000000
namespace L2
open PySem PySem.Spec PyProof.Rows
structure MSrc (K : PySem.W.Frag) (C : Addr) (m qual : Str) (st : Stmt) : Prop where
  ex : ∃ f fd, Fun K m qual st f fd ∧ Meth K C m f
theorem msrc_mk {K : PySem.W.Frag} {C : Addr} {m qual : Str} {st : Stmt} {f : Addr} {oc : Value} {od an : Option Addr} {osl : Array (Option Value)} {kV doc pm cdv ct : Value}
    (a : PySem.W.findIn K (.ref C) m = some (some (.ref f))) (n : PySem.W.isFn K (.ref f) = true) (l : K.lookup f = some ⟨oc, od, .func (PySem.W.fnOf m qual (defArgs st) (defBody st) (defScope st) .none kV doc pm an cdv ct), osl⟩)
    (c : PySem.W.codeIn K cdv qual = true) (k : PySem.W.keepIn K (.ref f) = true) : MSrc K C m qual st := ⟨f, _, fun_mk l c k, ⟨a, n, k⟩⟩
structure MDef (P : Program) (w : World) (K : PySem.W.Frag) (mg : Str → Option Value) (base : Heap) (k : Nat) (C : Addr) (m : Str) (ps : List Str) (sp : Sp) : Prop where
  ex : ∃ f fd, Meth K C m f ∧ Binds K fd ps [] ∧ FnOk P w K mg base CX0 k f fd ps sp
section
variable {P : Program} {w : World} {K : PySem.W.Frag} {mg : Str → Option Value} {base : Heap}
theorem MSrc.mk' {C : Addr} {x qual : Str} {st : Stmt} {N ps : List Str} {k : Nat} {sp : Sp} (S : MSrc K C x qual st) (Sc : FnScope N ps (defScope st)) (len : ∀ vs H Q E, sp vs H Q E → vs.length = ps.length)
    (hb : ∀ (kV doc pm : Value) (an : Option Addr) (cdv ct : Value) (us : List Value), us.length = ps.length → bindArgs (PySem.W.fnOf x qual (defArgs st) (defBody st) (defScope st) .none kV doc pm an cdv ct) ⟨us, []⟩ = pure (ps.zip us))
    (hbody : ∀ (f : Addr) (cdv : Value) (A : Around) (outer : List Env) (s : Shared) (H : Hp) (vs : List V) (Q : VK) (E : XK), Room k (A.deeper (envOfC qual (defScope st) s.heap.objs.size f cdv)) → sp vs H Q E →
      ∃ t, PSs (cxOf CX0 P w K mg base N qual (defScope st) f cdv A outer s H E).nox (defBody st) t ∧ t { nx := fun _ H' => Q .non H', rt := Q } (start N vs) H) : MDef P w K mg base (k + 1) C x ps sp := by
  obtain ⟨f, fd, F, hm⟩ := S.ex
  exact ⟨f, fd, hm, F.binds hb, F.ok Sc len (hbody f)⟩
end
section
variable {X : Cx} {k : Nat} {C : Addr} {x m : Str} {ps : List Str} {sp : Sp} {p pos apos : Pos} {e o : Expr} {es : List Expr} {ta : TE} {t : TA}
theorem pe_mdef {pl : Sem Bool} (D : MDef X.prog X.w X.K X.mg X.base k C m ps sp) (c : Cls X.K C) (he : PE X o ta) (hr : Room k X.A) (ha : PA X (e :: es) t)
    (hst : starEach (e :: es) X.env = (false, eval e X.env) :: starEach es X.env := by rfl) (hpl : (backTo pos (starEach es X.env)).any (·.1) = false := by rfl)
    (ht : eval (.Call (.Attribute o m apos) (e :: es) [] pos) X.env = (do
      let ov ← eval o X.env
      standAt apos.atName
      let (f, first) ← holding [ov] (getMethod ov m pl)
      callWith pos f first (backTo pos (starEach (e :: es) X.env)) (backToKw pos (keywordEach [] X.env))) := by rfl) :
    PE X (.Call (.Attribute o m apos) (e :: es) [] pos) (tMeth C m sp [] E0 ta t) := by
  obtain ⟨f, fd, hm, hb, F⟩ := D.ex
  exact pe_meth (pl := pl) he c hm F hr hb .nil pass0 ha hst hpl ht
theorem pe_mdef0 {pl : Sem Bool} (D : MDef X.prog X.w X.K X.mg X.base k C m ps sp) (c : Cls X.K C) (he : PE X o ta) (hr : Room k X.A)
    (ht : eval (.Call (.Attribute o m apos) [] [] pos) X.env = (do
      let ov ← eval o X.env
      standAt apos.atName
      let (f, first) ← holding [ov] (getMethod ov m pl)
      callWith pos f first (backTo pos (starEach [] X.env)) (backToKw pos (keywordEach [] X.env))) := by rfl) :
    PE X (.Call (.Attribute o m apos) [] [] pos) (tMeth C m sp [] E0 ta tNil) := by
  obtain ⟨f, fd, hm, hb, F⟩ := D.ex
  exact pe_meth0 (pl := pl) he c hm F hr hb .nil pass0 ht
/-- C(..) -/
theorem pe_mk (D : MDef X.prog X.w X.K X.mg X.base k C "__init__" ps sp) (mk : PySem.W.makesIn X.K C = true) (kp : PySem.W.keepIn X.K (.ref C) = true) (hm : X.mg x = some (.ref C)) (hr : Room (k + 1) X.A) (hg : Gl X x) (ha : PA X (e :: es) t)
    (hdb : (x == ("__debug__" : Str)) = false := by decide) (he : starEach (e :: es) X.env = (false, eval e X.env) :: starEach es X.env := by rfl) (hpl : (backTo pos (starEach es X.env)).any (·.1) = false := by rfl) :
    PE X (.Call (.Name x p) (e :: es) [] pos) (tMake C sp [] E0 t) := by
  obtain ⟨f, fd, M, hb, F⟩ := D.ex
  exact pe_make ⟨mk, M.at_, M.fn, kp⟩ F hr hg hm hb .nil pass0 ha hdb he hpl
end
theorem refs_ex {ys : List V} {P : Nat → Addr → Prop} (h : ∀ (i : Nat) y, ys[i]? = some y → ∃ l, y = .ref l ∧ P i l) : ∃ ws : List Addr, ys = ws.map V.ref ∧ ∀ (i : Nat) a, ws[i]? = some a → P i a := by
  induction ys generalizing P with
  | nil => exact ⟨[], rfl, fun i a e => by simp at e⟩
  | cons y r ih =>
    obtain ⟨ws, e, p⟩ := ih (P := fun i l => P (i + 1) l) fun i y' e => h (i + 1) y' (by simpa using e)
    obtain ⟨l, e1, p1⟩ := h 0 y rfl
    refine ⟨l :: ws, by rw [e1, e]; rfl, fun i a e => ?_⟩
    cases i with
    | zero => simp at e; subst e; exact p1
    | succ i => exact p i a (by simpa using e)
theorem ref_at {ws : List Addr} {i : Nat} {x : V} (hx : (ws.map V.ref)[i]? = some x) : ∃ a, ws[i]? = some a ∧ x = .ref a := by
  rw [List.getElem?_map] at hx
  cases e : ws[i]? with
  | none => rw [e] at hx; cases hx
  | some z => rw [e] at hx; exact ⟨z, rfl, (Option.some.inj hx).symm⟩
theorem putF_lt {f : Str} {v : V} {fs : List (Str × V)} {n : Nat} (h : fs.length ≤ n) : (putF f v fs).length ≤ n + 1 := by
  have := length_putF f v fs
  omega
/-- lists of ints at the places ws -/
def Rows (H : Hp) (ws : List Addr) (rows : List (List Int)) : Prop := ws.length = rows.length ∧ ∀ (i : Nat) a row, ws[i]? = some a → rows[i]? = some row → H a = some (.lst (row.map V.int))
def Mat (H : Hp) (w : Addr) (rows : List (List Int)) : Prop := ∃ ws : List Addr, H w = some (.lst (ws.map V.ref)) ∧ Rows H ws rows
theorem Rows.same {H H' : Hp} {ws : List Addr} {rows : List (List Int)} (r : Rows H ws rows) (s : Same H H') : Rows H' ws rows := ⟨r.1, fun i a row h1 h2 => s _ _ (r.2 i a row h1 h2)⟩
theorem Mat.same {H H' : Hp} {w : Addr} {rows : List (List Int)} (m : Mat H w rows) (s : Same H H') : Mat H' w rows := by
  obtain ⟨ws, h, r⟩ := m
  exact ⟨ws, s _ _ h, r.same s⟩
theorem Mat.len {H : Hp} {w : Addr} {rows : List (List Int)} (m : Mat H w rows) : ∃ ws : List Addr, H w = some (.lst (ws.map V.ref)) ∧ (ws.map V.ref).length = rows.length := by
  obtain ⟨ws, h, r⟩ := m
  exact ⟨ws, h, by rw [List.length_map]; exact r.1⟩
theorem Rows.at_ {H : Hp} {ws : List Addr} {rows : List (List Int)} (r : Rows H ws rows) {i : Nat} {row : List Int} (h : rows[i]? = some row) : ∃ a, ws[i]? = some a ∧ (ws.map V.ref)[i]? = some (.ref a) ∧ H a = some (.lst (row.map V.int)) := by
  have hi : i < ws.length := by rw [r.1]; exact (List.getElem?_eq_some_iff.mp h).1
  exact ⟨ws[i], by simp [hi], by simp [hi], r.2 i _ row (by simp [hi]) h⟩
def hflds (b w : Addr) (r : Int) : List (Str × V) := putF "rent" (.int r) (putF "worths" (.ref w) (putF "beds" (.ref b) []))
theorem hs1 : ¬ (("beds" : Str) = "rent") := by decide +kernel
theorem hs2 : ¬ (("beds" : Str) = "worths") := by decide +kernel
theorem hs3 : ¬ (("worths" : Str) = "rent") := by decide +kernel
theorem hf_beds (b w : Addr) (r : Int) : (hflds b w r).lookup ("beds" : Str) = some (.ref b) := by
  unfold hflds
  rw [lookup_putF, if_neg hs1, lookup_putF, if_neg hs2, lookup_putF, if_pos rfl]
theorem hf_worths (b w : Addr) (r : Int) : (hflds b w r).lookup ("worths" : Str) = some (.ref w) := by
  unfold hflds
  rw [lookup_putF, if_neg hs3, lookup_putF, if_pos rfl]
theorem hf_rent (b w : Addr) (r : Int) : (hflds b w r).lookup ("rent" : Str) = some (.int r) := by
  unfold hflds
  rw [lookup_putF, if_pos rfl]
theorem hf_no (b w : Addr) (r : Int) {m : Str} (h1 : ¬ m = "rent") (h2 : ¬ m = "worths") (h3 : ¬ m = "beds") : (hflds b w r).lookup m = none := by
  unfold hflds
  rw [lookup_putF, if_neg h1, lookup_putF, if_neg h2, lookup_putF, if_neg h3]
  rfl
structure HCls (K : PySem.W.Frag) (mg : Str → Option Value) (C : Addr) : Prop where
  mgC : mg "House" = some (.ref C)
  cl : Cls K C
  mks : PySem.W.makesIn K C = true
  kp : PySem.W.keepIn K (.ref C) = true
  nB : NoAttr K C "beds"
  nW : NoAttr K C "worths"
  nR : NoAttr K C "rent"
/-- a House stands at p -/
structure HouseAt (C : Addr) (H : Hp) (p : Addr) (beds : List Int) (worths : List (List Int)) (rent : Int) : Prop where
  ex : ∃ dx b w, H p = some (.ins C dx (hflds b w rent)) ∧ H b = some (.lst (beds.map V.int)) ∧ Mat H w worths
theorem HouseAt.same {C : Addr} {H H' : Hp} {p : Addr} {beds : List Int} {worths : List (List Int)} {rent : Int} (h : HouseAt C H p beds worths rent) (s : Same H H') : HouseAt C H' p beds worths rent := by
  obtain ⟨dx, b, w, h1, h2, h3⟩ := h.ex
  exact ⟨dx, b, w, s _ _ h1, s _ _ h2, h3.same s⟩
/-- what a drawn house keeps to -/
structure HouseOk (beds : List Int) (worths : List (List Int)) (rent : Int) (mp mr : Int) : Prop where
  b1 : 1 ≤ beds.length
  b2 : (beds.length : Int) ≤ mr
  b3 : ∀ b ∈ beds, 1 ≤ b ∧ b ≤ 4
  w1 : 1 ≤ worths.length
  w2 : (worths.length : Int) ≤ mp
  w3 : (worths.length : Int) ≤ beds.sum
  w4 : ∀ row ∈ worths, row.length = beds.length
  w5 : ∀ row ∈ worths, ∀ x ∈ row, -(10 ^ 40) < x ∧ x < 10 ^ 40
  r : -(10 ^ 40) < rent ∧ rent < 10 ^ 40
def sp_init (C : Addr) : Sp := fun vs H Q _ => ∃ (p dx b w : Addr) (beds : List Int) (worths : List (List Int)) (rent : Int), vs = [.ref p, .ref b, .ref w, .int rent] ∧ H p = some (.ins C dx []) ∧ H b = some (.lst (beds.map V.int)) ∧ Mat H w worths ∧
  beds.length ≤ 1000 ∧ worths.length ≤ 1000 ∧ (worths.length : Int) ≤ beds.sum ∧ ∀ H', HouseAt C H' p beds worths rent → (∀ c o, H c = some o → c ≠ p → H' c = some o) → Q .non H'
def sp_people (C : Addr) : Sp := fun vs H Q _ => ∃ (p : Addr) (beds : List Int) (worths : List (List Int)) (rent : Int), vs = [.ref p] ∧ HouseAt C H p beds worths rent ∧ Q (.int worths.length) H
def sp_rooms (C : Addr) : Sp := fun vs H Q _ => ∃ (p : Addr) (beds : List Int) (worths : List (List Int)) (rent : Int), vs = [.ref p] ∧ HouseAt C H p beds worths rent ∧ Q (.int beds.length) H
def sp_beds : Sp := fun vs H Q _ => ∃ f m : Int, vs = [.int f, .int m] ∧ 0 ≤ m ∧ m ≤ 10 ∧ ∀ (l : Addr) (bs : List Int) (H' : Hp), New H l (.lst (bs.map V.int)) H' → (bs.length : Int) = m → (∀ b ∈ bs, 1 ≤ b ∧ b ≤ 4) → Q (.ref l) H'
def sp_worths (K : PySem.W.Frag) : Sp := fun vs H Q _ => ∃ (a : Addr) (ns : List Int) (f p r : Int), vs = [.ref a, .int f, .int p, .int r] ∧ SqL K H a (ns.map V.int) ∧ ns.length ≤ 63 ∧ 1 ≤ p ∧ p ≤ 10 ∧ 1 ≤ r ∧ r ≤ 10 ∧
  ∀ (w : Addr) (rows : List (List Int)) (H' : Hp), Same H H' → Mat H' w rows → (rows.length : Int) = p → (∀ row ∈ rows, (row.length : Int) = r) → (∀ row ∈ rows, ∀ x ∈ row, -(10 ^ 40) < x ∧ x < 10 ^ 40) → Q (.ref w) H'
def sp_house (K : PySem.W.Frag) : Sp := fun vs H Q _ => ∃ (a : Addr) (ns : List Int) (mp mr : Int), vs = [.ref a, .int mp, .int mr] ∧ SqL K H a (ns.map V.int) ∧ ns.length ≤ 63 ∧ 1 ≤ mp ∧ mp ≤ 10 ∧ 1 ≤ mr ∧ mr ≤ 10 ∧
  ∀ (t b w : Addr) (beds : List Int) (worths : List (List Int)) (rent : Int) (H' : Hp), Same H H' → H' t = some (.tup [.ref b, .ref w, .int rent]) → H' b = some (.lst (beds.map V.int)) → Mat H' w worths → HouseOk beds worths rent mp mr → Q (.ref t) H'
def lyingL (n : Nat) (way : List Int) : List Int := (List.range n).map fun (r : Nat) => ((way.count (r : Int) : Nat) : Int)
def openL (beds way : List Int) : List Int := ((List.range beds.length).filter fun (r : Nat) => decide (((way.count (r : Int) : Nat) : Int) < beds.getD r 0)).map fun (r : Nat) => (r : Int)
def worthL (worths : List (List Int)) (way : List Int) : Int := ((List.range worths.length).map fun i => (worths.getD i []).getD (way.getD i 0).toNat 0).sum
def sp_lying (K : PySem.W.Frag) (C : Addr) : Sp := fun vs H Q _ => ∃ (p a : Addr) (beds : List Int) (worths : List (List Int)) (rent : Int) (way : List Int), vs = [.ref p, .ref a] ∧ HouseAt C H p beds worths rent ∧ beds.length ≤ 1000 ∧ SqL K H a (way.map V.int) ∧
  ∀ l H', New H l (.lst ((lyingL beds.length way).map V.int)) H' → Q (.ref l) H'
def sp_open (K : PySem.W.Frag) (C : Addr) : Sp := fun vs H Q _ => ∃ (p a : Addr) (beds : List Int) (worths : List (List Int)) (rent : Int) (way : List Int), vs = [.ref p, .ref a] ∧ HouseAt C H p beds worths rent ∧ beds.length ≤ 1000 ∧ SqL K H a (way.map V.int) ∧
  ∀ l H', New H l (.lst ((openL beds way).map V.int)) H' → Q (.ref l) H'
def sp_worthof (K : PySem.W.Frag) (C : Addr) : Sp := fun vs H Q _ => ∃ (p a : Addr) (beds : List Int) (worths : List (List Int)) (rent : Int) (way : List Int), vs = [.ref p, .ref a] ∧ HouseAt C H p beds worths rent ∧ worths.length ≤ 1000 ∧ SqL K H a (way.map V.int) ∧
  way.length = worths.length ∧ (∀ row ∈ worths, ∀ r ∈ way, 0 ≤ r ∧ r < (row.length : Int)) ∧ ∀ H', Same H H' → Q (.int (worthL worths way)) H'
theorem cut_between (ns : List Int) {a b : Nat} (h1 : a ≤ b) (h2 : b ≤ ns.length) : cutV (ns.map V.int) (some (a : Int)) (some (b : Int)) = ((ns.drop a).take (b - a)).map V.int := by
  unfold cutV
  rw [List.length_map, HT.sIx_nat, HT.sIx_nat, Nat.min_eq_left (Nat.le_trans h1 h2), Nat.min_eq_left h2, List.map_take, List.map_drop]
/-- [f(x) for x in a list of ints], nothing new made on the way -/
theorem compMap {K : PySem.W.Frag} {a D : Addr} {te : TE} {σf : St} {H1 : Hp} {Q : VK} (ns : List Int) (f : Int → Int) (hS : SqL K H1 a (ns.map V.int)) (hz : ns.length < sizeLine) (hD1 : H1 D = none)
    (hs : ∀ z ∈ ns, ∀ H (N : VK), Same H1 H → N (.int (f z)) H → te (some (.int z) :: σf) H N) (hd : ∀ H, Same H1 H → H D = some (.lst ((ns.map f).map V.int)) → Q (.ref D) H) : CompW (Itl K a) D (gName 0) tYes te (none :: σf) (upd H1 D (.lst [])) Q := by
  refine comp_list (fun i y _ => ∃ z, ns[i]? = some z ∧ y = .int (f z)) hS (by simpa using hz) hD1 (fun _ _ _ _ _ h => h) ?_ ?_
  · rintro i x H ys N hx s d hN
    obtain ⟨z, h1, rfl⟩ := int_at hx
    exact hs z (List.mem_of_getElem? h1) H N s (hN _ _ (Same.refl _) ⟨z, h1, rfl⟩)
  · rintro ys H s d l r
    have e : ys = (ns.map f).map V.int := ints_of (by simpa using l) fun i y e => by
      obtain ⟨z, h1, h2⟩ := r i y e
      exact ⟨_, by rw [List.getElem?_map, h1]; rfl, h2⟩
    rw [e] at d
    exact hd H s d
theorem Rows.snoc {H H' : Hp} {ws : List Addr} {rows : List (List Int)} {c : Addr} {row : List Int} (r : Rows H ws rows) (k : ∀ a ∈ ws, ∀ o, H a = some o → H' a = some o) (hc : H' c = some (.lst (row.map V.int))) : Rows H' (ws ++ [c]) (rows ++ [row]) := by
  refine ⟨by simp [r.1], fun i a rw' h1 h2 => ?_⟩
  by_cases hi : i < ws.length
  · rw [List.getElem?_append_left hi] at h1
    rw [List.getElem?_append_left (by rw [← r.1]; exact hi)] at h2
    exact k a (List.mem_of_getElem? h1) _ (r.2 i a rw' h1 h2)
  · have hi2 : i = ws.length := by
      have := (List.getElem?_eq_some_iff.mp h1).1
      simp at this
      omega
    subst hi2
    simp at h1
    rw [r.1] at h2
    simp at h2
    subst h1 h2
    exact hc
theorem sum_ge {bs : List Int} (h : ∀ b ∈ bs, 1 ≤ b) : (bs.length : Int) ≤ bs.sum := by
  induction bs with
  | nil => simp
  | cons b r ih =>
    have h1 := h b List.mem_cons_self
    have h2 := ih fun x hx => h x (List.mem_cons_of_mem _ hx)
    simp
    omega
theorem sum_le {bs : List Int} {m : Int} (h : ∀ b ∈ bs, b ≤ m) : bs.sum ≤ m * bs.length := by
  induction bs with
  | nil => simp
  | cons b r ih =>
    have h1 := h b List.mem_cons_self
    have h2 := ih fun x hx => h x (List.mem_cons_of_mem _ hx)
    have e : m * (((b :: r).length : Nat) : Int) = m * (r.length : Int) + m := by
      rw [List.length_cons, Int.natCast_add, Int.mul_add]
      simp
    rw [e]
    simp
    omega
/-- [f(x) for x in a list of ints] -/
theorem compMapV {K : PySem.W.Frag} {a D : Addr} {te : TE} {σf : St} {H1 : Hp} {Q : VK} (ns : List Int) (f : Int → V) (hS : SqL K H1 a (ns.map V.int)) (hz : ns.length < sizeLine) (hD1 : H1 D = none)
    (hs : ∀ z ∈ ns, ∀ H (N : VK), Same H1 H → (∀ H', Same H H' → N (f z) H') → te (some (.int z) :: σf) H N) (hd : ∀ H, Same H1 H → H D = some (.lst (ns.map f)) → Q (.ref D) H) : CompW (Itl K a) D (gName 0) tYes te (none :: σf) (upd H1 D (.lst [])) Q := by
  refine comp_list (fun i y _ => ∃ z, ns[i]? = some z ∧ y = f z) hS (by simpa using hz) hD1 (fun _ _ _ _ _ h => h) ?_ ?_
  · rintro i x H ys N hx s d hN
    obtain ⟨z, h1, rfl⟩ := int_at hx
    exact hs z (List.mem_of_getElem? h1) H N s fun H' s' => hN _ _ s' ⟨z, h1, rfl⟩
  · rintro ys H s d l r
    have e : ys = ns.map f := by
      refine List.ext_getElem? fun i => ?_
      rw [List.getElem?_map]
      cases q : ys[i]? with
      | none =>
        have : ns.length ≤ i := by
          have := List.getElem?_eq_none_iff.mp q
          simp at l
          omega
        rw [List.getElem?_eq_none_iff.mpr this]
        rfl
      | some y =>
        obtain ⟨z, h1, h2⟩ := r i y q
        rw [h1, h2]
        rfl
    rw [e] at d
    exact hd H s d
/-- [f(k) for k in range(n)] -/
theorem compRangeV {n : Nat} {D : Addr} {te : TE} {σf : St} {H1 : Hp} {Q : VK} (f : Nat → V) (hz : n < sizeLine) (hD1 : H1 D = none)
    (hs : ∀ (i : Nat), i < n → ∀ H (N : VK), Same H1 H → (∀ H', Same H H' → N (f i) H') → te (some (.int (0 + (i : Int))) :: σf) H N) (hd : ∀ H, Same H1 H → H D = some (.lst ((List.range n).map f)) → Q (.ref D) H) : CompW (Itr 0 n) D (gName 0) tYes te (none :: σf) (upd H1 D (.lst [])) Q := by
  refine comp_range (fun i y _ => y = f i) hz hD1 (fun _ _ _ _ _ h => h) ?_ ?_
  · rintro i H ys N hi s d hN
    exact hs i hi H N s fun H' s' => hN _ _ s' rfl
  · rintro ys H s d l r
    have e : ys = (List.range n).map f := by
      refine List.ext_getElem? fun i => ?_
      rw [List.getElem?_map]
      cases q : ys[i]? with
      | none =>
        have := List.getElem?_eq_none_iff.mp q
        rw [List.getElem?_eq_none_iff.mpr (by simp; omega)]
        rfl
      | some y =>
        have hi := (List.getElem?_eq_some_iff.mp q).1
        rw [r i y q, List.getElem?_range (by omega)]
        rfl
    rw [e] at d
    exact hd H s d
end L2

set_option Elab.async false
set_option linter.all false
set_option maxRecDepth 100000
set_option maxHeartbeats 4000000
namespace L2
open PySem PySem.Spec PyProof.Rows
section
variable {X : Cx} {K : PySem.W.Frag}
end
end L2

set_option Elab.async false
set_option linter.all false
set_option maxRecDepth 100000
set_option maxHeartbeats 4000000
namespace L2
open PySem PySem.Spec PyProof.Rows
section
variable {X : Cx} {scope : Scope} {y : Str}
variable {pins : List (Addr × Obj)} {σ : St} {H : Hp} {s : Shared}
end
section
variable {X : Cx} {tg iter elt : Expr} {ifs : List Expr} {scope : Scope} {pos : Pos} {pins : List (Addr × Obj)} {σ : St} {H : Hp} {s : Shared}
end
end L2

set_option Elab.async false
set_option linter.all false
set_option maxRecDepth 100000
set_option maxHeartbeats 4000000
namespace L2
open PySem PySem.Spec PyProof.Rows
section
variable {X : Cx} {st : Stmt} {rest : List Stmt} {t u : TS} {pos : Pos}
end
section
variable {X : Cx} {o : Expr} {to : TE} {K : PySem.W.Frag} {apos cpos p1 p2 : Pos} {j1 j2 : Nat}
end
end L2

set_option Elab.async false
set_option linter.all false
set_option maxRecDepth 100000
set_option maxHeartbeats 4000000
namespace L2
open PySem PySem.Spec PyProof.Rows
end L2

set_option Elab.async false
set_option linter.all false
set_option maxRecDepth 100000
set_option maxHeartbeats 4000000
namespace L2
open PySem PySem.Spec PyProof.Rows
section
variable {X : Cx} {pins : List (Addr × Obj)} {σ : St} {H : Hp} {s : Shared}
end

section
variable {P : Program} {w : World} {K : PySem.W.Frag} {mg : Str → Option Value} {base : Heap}
end
end L2

set_option Elab.async false
set_option linter.all false
set_option maxRecDepth 100000
set_option maxHeartbeats 4000000
namespace L2
open PySem PySem.W PySem.Spec PyProof.Rows PySem.Calls Builtin Builtin.ObjectAttr Builtin.Getset_descriptor
section
variable {prog : Program} {w : World} {A : Around} {E : Value → Shared → Prop} {s : Shared} {K : Frag} {x D : Addr} {o : Obj}
end
end L2

set_option Elab.async false
set_option linter.all false
set_option maxRecDepth 100000
set_option maxHeartbeats 4000000
namespace L2
open PySem PySem.Spec PyProof.Rows
section
variable {X : Cx} {pins : List (Addr × Obj)} {σ : St} {H : Hp} {s : Shared} {v : Value}
end

section
variable {X : Cx} {k : Nat} {f C : Addr} {fd : FuncData} {ps : List Str} {sp : Sp} {x m : Str} {p pos : Pos} {e : Expr} {es : List Expr} {t : TA}
end

end L2

set_option Elab.async false
set_option linter.all false
set_option maxRecDepth 100000
set_option maxHeartbeats 4000000
namespace L2
open PySem PySem.Spec PyProof.Rows
section
variable {X : Cx}
end
section
variable {P : Program} {w : World} {K : PySem.W.Frag} {mg : Str → Option Value} {base : Heap}
end
section
variable {X : Cx} {k : Nat} {f : Addr} {x : Str} {ps : List Str} {sp : Sp} {p pos : Pos} {e : Expr} {es : List Expr} {t : TA}
end
end L2

set_option Elab.async false
set_option linter.all false
set_option maxRecDepth 100000
set_option maxHeartbeats 4000000
namespace L2
open PySem PySem.Spec PyProof.Rows
section
variable {X : Cx} {K : PySem.W.Frag}
end
end L2

set_option Elab.async false
set_option linter.all false
set_option maxRecDepth 100000
set_option maxHeartbeats 4000000
namespace L2
open PySem PySem.Spec PyProof.Rows
def ReadV (K : PySem.W.Frag) (H : Hp) (v : V) (d : PyData) : Prop := ∀ (X : Cx) (pins : List (Addr × Obj)) (σ : St) (s : Shared) (u : Value), X.K = K → Inv X pins σ H s → RelV v u → ∃ as, Reads s.heap u d as
theorem rv_int {K : PySem.W.Frag} {H : Hp} {i : Int} : ReadV K H (.int i) (.int i) := fun X pins σ s u _ _ r => by
  obtain ⟨t, rfl⟩ := r
  exact ⟨[], .int i t⟩
theorem rv_all {K : PySem.W.Frag} {H : Hp} {X : Cx} {pins : List (Addr × Obj)} {σ : St} {s : Shared} (e : X.K = K) (I : Inv X pins σ H s) : ∀ {xs : List V} {ds : List PyData} {us : List Value}, Paired (ReadV K H) xs ds → Vals xs us → ∃ as, ReadsAll s.heap us ds as
  | _, _, _, .nil, .nil => ⟨[], .nil⟩
  | _, _, _, .cons a b, .cons r t => by
    obtain ⟨as, h1⟩ := a X pins σ s _ e I r
    obtain ⟨bs, h2⟩ := rv_all e I b t
    exact ⟨as ++ bs, .cons h1 h2⟩
theorem rv_list {K : PySem.W.Frag} {H : Hp} {a : Addr} {xs : List V} {ds : List PyData} (h : SqL K H a xs) (p : Paired (ReadV K H) xs ds) : ReadV K H (.ref a) (.list ds) := fun X pins σ s u e I r => by
  obtain rfl : u = Value.ref a := r
  subst e
  obtain ⟨its, rv, pl, _⟩ := I.list h
  obtain ⟨as, ha⟩ := rv_all rfl I p rv
  obtain ⟨o, h1, h2, n, h3⟩ := pl.isList
  exact ⟨_, .list h1 h2 h3 (by simpa using ha)⟩
theorem rv_ints {K : PySem.W.Frag} {H : Hp} : ∀ ns : List Int, Paired (ReadV K H) (ns.map V.int) (ns.map PyData.int)
  | [] => .nil
  | _ :: r => .cons rv_int (rv_ints r)
def rEqD (K : PySem.W.Frag) (neg : Bool) : R2 := fun x y H Q => ∃ d e, ReadV K H x d ∧ ReadV K H y e ∧ SeqAt.shaped d = true ∧ SeqAt.shaped e = true ∧ Q (.bl (if neg = true then !PyData.eqv d e else PyData.eqv d e)) H
section
variable {X : Cx} {K : PySem.W.Frag}
theorem op_eqDK (h : X.K = K) (hu : X.A.units + 64 < cLine) : OpR X (compareOp .Eq) (rEqD K false) := by
  intro pins s σ H x y v u Q I rx ry q
  obtain ⟨d, e, r1, r2, s1, s2, q⟩ := q
  obtain ⟨as, h1⟩ := r1 X pins σ s v h I rx
  obtain ⟨bs, h2⟩ := r2 X pins σ s u h I ry
  exact eq_dataH h1 h2 s1 s2 hu ⟨.bl _, H, I, rfl, q⟩
end
def rowD (r : List Int) : PyData := .list (r.map PyData.int)
def matD (rows : List (List Int)) : PyData := .list (rows.map rowD)
theorem row_eqv (r : List Int) : PyData.eqv (rowD r) (rowD r) = true := by
  unfold rowD
  rw [PyData.eqv, PySem.W.ked_eqvAll]
  exact decide_eq_true rfl
theorem rows_eqv : ∀ rows : List (List Int), PyData.eqvAll (rows.map rowD) (rows.map rowD) = true
  | [] => by simp [PyData.eqvAll]
  | r :: t => by simp only [List.map_cons, PyData.eqvAll, row_eqv, rows_eqv t, Bool.and_true]
theorem rows_lay : ∀ rows : List (List Int), PyData.canLayAll0 (rows.map rowD) = true
  | [] => rfl
  | r :: t => by simp [PyData.canLayAll0, rowD, PyData.canLay0, PySem.W.ke_canLayAll0, rows_lay t]
theorem rows_depth : ∀ rows : List (List Int), PyData.depthAll (rows.map rowD) ≤ 1
  | [] => by simp [PyData.depthAll]
  | r :: t => by
    have := rows_depth t
    simp only [List.map_cons, PyData.depthAll, rowD, PyData.depth, PySem.W.ke_depthAll]
    omega
theorem rv_rows {K : PySem.W.Frag} {H : Hp} : ∀ {ws : List Addr} {rows : List (List Int)}, Rows H ws rows → Paired (ReadV K H) (ws.map V.ref) (rows.map rowD)
  | [], [], _ => .nil
  | [], _ :: _, h => by have := h.1; simp at this
  | _ :: _, [], h => by have := h.1; simp at this
  | a :: ws, r :: rows, h => .cons (rv_list (SqL.of (h.2 0 a r rfl rfl)) (rv_ints r)) (rv_rows ⟨by have := h.1; simpa using this, fun i b row h1 h2 => h.2 (i + 1) b row (by simpa using h1) (by simpa using h2)⟩)
end L2

set_option Elab.async false
set_option linter.all false
set_option maxRecDepth 100000
set_option maxHeartbeats 4000000
namespace L2
open PySem PySem.Spec PyProof.Rows
section
variable {X : Cx}
end
section
variable {X : Cx}
end
end L2

set_option Elab.async false
set_option linter.all false
set_option maxRecDepth 100000
set_option maxHeartbeats 4000000
namespace L2
open PySem PySem.Spec PyProof.Rows
end L2

set_option Elab.async false
set_option linter.all false
set_option maxRecDepth 100000
set_option maxHeartbeats 4000000
namespace L2
open PySem PySem.Spec PyProof.Rows
section
variable {X : Cx} {scope : Scope} {pins : List (Addr × Obj)} {σ : St} {H : Hp} {s : Shared}
end
section
variable {X : Cx} {pins : List (Addr × Obj)} {σ : St} {H : Hp} {s : Shared}
variable {ns : List Int} {l q it S : Addr} {R : Result → Shared → Prop}
end
section
variable {X : Cx} {pins : List (Addr × Obj)} {σ : St} {H : Hp} {s : Shared} {c P : Addr} {scope : Scope} {params : Arguments} {body : Expr} {lpos : Pos}
end
end L2

set_option Elab.async false
set_option linter.all false
set_option maxRecDepth 100000
set_option maxHeartbeats 4000000
namespace L2
open PySem PySem.Spec PyProof.Rows
section
variable {P : Program} {w : World} {K : PySem.W.Frag} {mg : Str → Option Value} {base : Heap}
end
end L2

set_option Elab.async false
set_option linter.all false
set_option maxRecDepth 100000
set_option maxHeartbeats 4000000
namespace BW
/-- what a row of rooms is worth -/
def wsum (W : Nat → Nat → Int) (v : List Nat) : Int := ((List.range v.length).map fun i => W i (v.getD i 0)).sum
def Fit (B : Nat → Nat) (v : List Nat) : Prop := ∀ r, v.count r ≤ B r
def ind (a b : Nat) : Nat := if a = b then 1 else 0
theorem ind_ne {a b : Nat} (h : a ≠ b) : ind a b = 0 := if_neg h
section
variable {W : Nat → Nat → Int} {way : List Nat} {R s : Nat}
end
section
variable {W : Nat → Nat → Int} {way : List Nat} {R : Nat}
end
end BW

set_option Elab.async false
set_option linter.all false
set_option maxRecDepth 100000
set_option maxHeartbeats 4000000
namespace L2
open PySem PySem.Spec PyProof.Rows BW
def wI (way : List Nat) : List Int := way.map fun (r : Nat) => (r : Int)
theorem wI_len (way : List Nat) : ((wI way).map V.int).length = way.length := by simp [wI]
theorem wI_at {way : List Nat} {i r : Nat} (h : way[i]? = some r) : ((wI way).map V.int)[i]? = some (.int (r : Int)) := by simp [wI, h]
theorem wI_count (way : List Nat) (r : Nat) : (wI way).count (r : Int) = way.count r := by
  induction way with
  | nil => rfl
  | cons x l ih =>
    show List.count (r : Int) (((x : Nat) : Int) :: wI l) = _
    rw [List.count_cons, List.count_cons, ih]
    by_cases h : x = r
    · subst h; simp
    · have : ¬ (((x : Nat) : Int) = (r : Int)) := by omega
      simp [h, this]
/-- the worth of a room to a person -/
def wF (worths : List (List Int)) (p r : Nat) : Int := (worths.getD p []).getD r 0
def bF (beds : List Int) (r : Nat) : Nat := (beds.getD r 0).toNat
/-- what a house keeps to, for best_way -/
structure BestOk (beds : List Int) (worths : List (List Int)) : Prop where
  b1 : beds.length ≤ 10
  w1 : worths.length ≤ 10
  rows : ∀ row ∈ worths, row.length = beds.length
theorem bF_out (beds : List Int) : ∀ r, beds.length ≤ r → bF beds r = 0 := fun r h => by simp [bF, List.getD, h]
theorem fit_lt {beds : List Int} {way : List Nat} (h : Fit (bF beds) way) : ∀ r ∈ way, r < beds.length := fun r hr => by
  refine Classical.byContradiction fun z => ?_
  have h1 := bF_out beds r (by omega)
  have h2 := h r
  have h3 := List.count_pos_iff.mpr hr
  omega
theorem zsum : ∀ R : Nat, ((List.range R).map fun _ => (0 : Nat)).sum = 0
  | 0 => rfl
  | R + 1 => by
    rw [List.range_succ, List.map_append, List.sum_append, zsum R]
    rfl
theorem ind_sum (x : Nat) : ∀ R : Nat, ((List.range R).map fun r => ind x r).sum ≤ 1 := by
  intro R
  induction R with
  | zero => simp
  | succ R ih =>
    rw [List.range_succ, List.map_append, List.sum_append]
    by_cases h : x = R
    · subst h
      have : ((List.range x).map fun r => ind x r).sum = 0 := by
        have : (List.range x).map (fun r => ind x r) = (List.range x).map fun _ => 0 := List.map_congr_left fun r hr => ind_ne (Nat.ne_of_gt (List.mem_range.mp hr))
        rw [this]
        exact zsum x
      rw [this]
      simp [ind]
    · simp [ind_ne h]
      exact ih
theorem count_sum (way : List Nat) (R : Nat) : ((List.range R).map fun r => way.count r).sum ≤ way.length := by
  induction way with
  | nil =>
    have := zsum R
    simp [this]
  | cons x l ih =>
    have h1 : (List.range R).map (fun r => (x :: l).count r) = (List.range R).map (fun r => l.count r + ind x r) := List.map_congr_left fun r _ => by
      rw [List.count_cons]
      unfold ind
      by_cases h : x = r
      · subst h; simp
      · simp [h]
    have h2 : ∀ R, ((List.range R).map (fun r => l.count r + ind x r)).sum = ((List.range R).map fun r => l.count r).sum + ((List.range R).map fun r => ind x r).sum := by
      intro R
      induction R with
      | zero => rfl
      | succ R ih' =>
        rw [List.range_succ, List.map_append, List.map_append, List.map_append, List.sum_append, List.sum_append, List.sum_append, ih']
        simp
        omega
    rw [h1, h2, List.length_cons]
    have := ind_sum x R
    omega
theorem sum_range_getD (bs : List Int) : bs.sum = ((List.range bs.length).map fun r => bs.getD r 0).sum := by
  congr 1
  refine List.ext_getElem (by simp) fun i h1 h2 => ?_
  simp [List.getD, h1]
/-- fewer people than beds: a room is open -/
theorem open_ex {beds : List Int} {way : List Nat} (h : (way.length : Int) < beds.sum) (hb : ∀ b ∈ beds, 0 ≤ b) : ∃ r, r < beds.length ∧ way.count r < bF beds r := by
  refine Classical.byContradiction fun hn => ?_
  have h1 : ∀ r, r < beds.length → beds.getD r 0 ≤ ((way.count r : Nat) : Int) := fun r hr => by
    have : ¬ way.count r < bF beds r := fun z => hn ⟨r, hr, z⟩
    unfold bF at this
    omega
  have h2 : ∀ R, R ≤ beds.length → ((List.range R).map fun r => beds.getD r 0).sum ≤ ((((List.range R).map fun r => way.count r).sum : Nat) : Int) := by
    intro R hR
    induction R with
    | zero => simp
    | succ R ih =>
      rw [List.range_succ, List.map_append, List.map_append, List.sum_append, List.sum_append]
      have a := ih (by omega)
      have b := h1 R (by omega)
      simp at a b ⊢
      omega
  have h3 := h2 beds.length (Nat.le_refl _)
  rw [← sum_range_getD] at h3
  have h4 := count_sum way beds.length
  omega
theorem mem_open {beds : List Int} {way : List Nat} {z : Int} : z ∈ openL beds (wI way) ↔ ∃ r : Nat, z = r ∧ r < beds.length ∧ way.count r < bF beds r := by
  unfold openL
  rw [List.mem_map]
  constructor
  · rintro ⟨r, h1, rfl⟩
    obtain ⟨h2, h3⟩ := List.mem_filter.mp h1
    have h4 := of_decide_eq_true h3
    rw [wI_count] at h4
    exact ⟨r, rfl, List.mem_range.mp h2, by unfold bF; omega⟩
  · rintro ⟨r, rfl, h1, h2⟩
    refine ⟨r, List.mem_filter.mpr ⟨List.mem_range.mpr h1, decide_eq_true ?_⟩, rfl⟩
    rw [wI_count]
    unfold bF at h2
    omega
theorem mat_shaped (rows : List (List Int)) : SeqAt.shaped (matD rows) = true := by
  have := rows_depth rows
  unfold SeqAt.shaped
  refine Bool.and_eq_true_iff.mpr ⟨?_, decide_eq_true ?_⟩
  · simp [matD, PyData.canLay0, rows_lay]
  · simp only [matD, PyData.depth]
    omega
theorem mat_eqv (rows : List (List Int)) : PyData.eqv (matD rows) (matD rows) = true := by unfold matD; rw [PyData.eqv]; exact rows_eqv rows
end L2

set_option Elab.async false
set_option linter.all false
set_option maxRecDepth 100000
set_option maxHeartbeats 4000000
namespace L2
open PySem PySem.Spec PyProof.Rows BW
end L2

set_option Elab.async false
set_option linter.all false
set_option maxRecDepth 100000
set_option maxHeartbeats 4000000
namespace L2
open PySem PySem.Spec PyProof.Rows BW
end L2

set_option Elab.async false
set_option linter.all false
set_option maxRecDepth 100000
set_option maxHeartbeats 4000000
namespace L2
open PySem PySem.Spec PyProof.Rows BW
end L2

set_option Elab.async false
set_option linter.all false
set_option maxRecDepth 100000
set_option maxHeartbeats 4000000
namespace L2
open PySem PySem.Spec PyProof.Rows BW
end L2

set_option Elab.async false
set_option linter.all false
set_option maxRecDepth 100000
set_option maxHeartbeats 4000000
namespace L2
open PySem PySem.Spec PyProof.Rows BW
end L2

set_option Elab.async false
set_option linter.all false
set_option maxRecDepth 100000
set_option maxHeartbeats 4000000
namespace L2
open PySem PySem.Spec PyProof.Rows BW
end L2

set_option Elab.async false
set_option linter.all false
set_option maxRecDepth 100000
set_option maxHeartbeats 4000000
namespace L2
open PySem PySem.Spec PyProof.Rows BW
end L2
namespace L2
open PySem PySem.Spec PyProof.Rows BW
end L2

set_option Elab.async false
set_option linter.all false
set_option maxRecDepth 100000
set_option maxHeartbeats 4000000
namespace L2
open PySem PySem.Spec PyProof.Rows BW
end L2

set_option Elab.async false
set_option linter.all false
set_option maxRecDepth 100000
set_option maxHeartbeats 4000000
namespace L2
open PySem PySem.Spec PyProof.Rows BW
section
variable {prog : Program} {w : World} {A : Around} {s : Shared} {R : Result → Shared → Prop}
variable {I : Addr} {fp wr : List Addr} {G : Array GenState → Array GenState → Prop} {n : Nat} {P : Nat → Value → Prop} {St : Nat → Shared → Prop}
end
section
variable {prog : Program} {w : World} {A : Around} {E : Value → Shared → Prop} {s : Shared}
variable {I : Addr} {fp wr : List Addr} {G : Array GenState → Array GenState → Prop} {n : Nat} {P : Nat → Value → Prop} {St : Nat → Shared → Prop}
end
end L2

set_option Elab.async false
set_option linter.all false
set_option maxRecDepth 100000
set_option maxHeartbeats 4000000
namespace L2
open PySem PySem.Spec PyProof.Rows BW
end L2
namespace L2
open PySem PySem.Spec PyProof.Rows BW
end L2
namespace L2
open PySem PySem.Spec PyProof.Rows BW
end L2

set_option Elab.async false
set_option linter.all false
set_option maxRecDepth 100000
set_option maxHeartbeats 4000000
namespace L2
open PySem PySem.Spec PyProof.Rows
def Rise (xs : Array Nat) : Prop := ∀ i k, i < k → k < xs.size → xs.getD i 0 < xs.getD k 0
theorem getD_in {xs : Array Nat} {i d : Nat} (h : i < xs.size) : xs.getD i d = xs.getD i 0 := by simp [Array.getD, h]
theorem below_go {xs : Array Nat} {j : Nat} (hr : Rise xs) : ∀ (fuel lo hi : Nat), lo ≤ hi → hi ≤ xs.size → hi - lo ≤ fuel → (∀ i, i < lo → xs.getD i 0 < j) → (∀ i, hi ≤ i → i < xs.size → j ≤ xs.getD i 0) →
    SetTable.below.go xs j fuel lo hi ≤ xs.size ∧ (∀ i, i < SetTable.below.go xs j fuel lo hi → xs.getD i 0 < j) ∧ ∀ i, SetTable.below.go xs j fuel lo hi ≤ i → i < xs.size → j ≤ xs.getD i 0
  | 0, lo, hi, h1, h2, h3, h4, h5 => by
    unfold SetTable.below.go
    exact ⟨by omega, h4, fun i hi' => h5 i (by omega)⟩
  | fuel + 1, lo, hi, h1, h2, h3, h4, h5 => by
    unfold SetTable.below.go
    by_cases hlt : lo < hi
    · rw [if_pos hlt]
      have hm : (lo + hi) / 2 < xs.size := by omega
      dsimp only
      rw [getD_in hm]
      by_cases hx : xs.getD ((lo + hi) / 2) 0 < j
      · rw [if_pos hx]
        refine below_go hr fuel _ _ (by omega) h2 (by omega) (fun i hi' => ?_) h5
        by_cases e : i = (lo + hi) / 2
        · rw [e]; exact hx
        · have := hr i ((lo + hi) / 2) (by omega) hm
          omega
      · rw [if_neg hx]
        refine below_go hr fuel _ _ (by omega) (by omega) (by omega) h4 fun i hi' hs => ?_
        by_cases e : i = (lo + hi) / 2
        · rw [e]; omega
        · have := hr ((lo + hi) / 2) i (by omega) hs
          omega
    · rw [if_neg hlt]
      exact ⟨by omega, h4, fun i hi' => h5 i (by omega)⟩
theorem below_spec {xs : Array Nat} {j : Nat} (hr : Rise xs) : SetTable.below xs j ≤ xs.size ∧ (∀ i, i < SetTable.below xs j → xs.getD i 0 < j) ∧ ∀ i, SetTable.below xs j ≤ i → i < xs.size → j ≤ xs.getD i 0 := by
  unfold SetTable.below
  exact below_go hr _ _ _ (Nat.zero_le _) (Nat.le_refl _) (by omega) (fun i h => absurd h (Nat.not_lt_zero _)) fun i h1 h2 => by omega
/-- where the walk stands after k of them -/
theorem below_next {xs : Array Nat} (hr : Rise xs) {k : Nat} (h : k < xs.size) : SetTable.below xs (xs.getD k 0 + 1) = k + 1 := by
  obtain ⟨b1, b2, b3⟩ := below_spec (j := xs.getD k 0 + 1) hr
  rcases Nat.lt_trichotomy (SetTable.below xs (xs.getD k 0 + 1)) (k + 1) with z | z | z
  · have := b3 k (by omega) h
    omega
  · exact z
  · have h1 := b2 (k + 1) z
    have h2 := hr k (k + 1) (by omega) (by omega)
    omega
theorem below_zero {xs : Array Nat} (hr : Rise xs) : SetTable.below xs 0 = 0 := by
  obtain ⟨b1, b2, b3⟩ := below_spec (j := 0) hr
  refine Classical.byContradiction fun z => ?_
  have := b2 0 (by omega)
  omega
structure SInv (led : Bool) (t : SetTable) : Prop where
  rise : Rise t.place
  dum : t.dummies = #[]
  led_ : t.led = led
theorem range_rise (n : Nat) : Rise (Array.range n) := fun i k h1 h2 => by
  have h2' : k < n := by simpa using h2
  simp [Array.getD, h2', show i < n by omega]
  exact h1
theorem standIn_inv {led : Bool} {t : SetTable} (h : t.led = led) (n : Nat) : SInv led (t.standIn n) := ⟨range_rise n, rfl, h⟩
theorem orStandIn_inv {led : Bool} {t : SetTable} (h : SInv led t) (n : Nat) : SInv led (t.orStandIn n) := by
  unfold SetTable.orStandIn
  split
  · exact h
  · exact standIn_inv h.led_ n
theorem insert_rise {xs : Array Nat} {j : Nat} (hr : Rise xs) (hn : xs[SetTable.below xs j]? ≠ some j) : Rise (SetTable.insertAt xs (SetTable.below xs j) j) := by
  obtain ⟨b1, b2, b3⟩ := below_spec (j := j) hr
  generalize SetTable.below xs j = p at *
  have hs : (SetTable.insertAt xs p j).size = xs.size + 1 := by
    unfold SetTable.insertAt
    simp
    omega
  have g : ∀ i, i < xs.size + 1 → (SetTable.insertAt xs p j).getD i 0 = if i < p then xs.getD i 0 else if i = p then j else xs.getD (i - 1) 0 := fun i hi => by
    unfold SetTable.insertAt
    rw [Array.getD_eq_getD_getElem?, Array.getElem?_append]
    by_cases h1 : i < p
    · rw [if_pos h1, if_pos (by simp; omega), Array.getElem?_push]
      simp [Array.getElem?_extract, Nat.min_eq_left b1, h1, Nat.ne_of_lt h1, show i < xs.size by omega]
    · rw [if_neg h1]
      by_cases h2 : i = p
      · subst h2
        rw [if_pos rfl, if_pos (by simp [Nat.min_eq_left b1]), Array.getElem?_push]
        simp [Nat.min_eq_left b1]
      · rw [if_neg h2, if_neg (by simp [Nat.min_eq_left b1]; omega)]
        simp [Array.getElem?_extract, Nat.min_eq_left b1]
        have e : p + (i - (p + 1)) = i - 1 := by omega
        rw [e]
        have : i - (p + 1) < xs.size - p := by omega
        simp [this]
  intro i k h1 h2
  rw [hs] at h2
  rw [g i (by omega), g k h2]
  have hp : ∀ m, p ≤ m → m < xs.size → j < xs.getD m 0 := fun m hm1 hm2 => by
    have h3 := b3 m hm1 hm2
    by_cases e : m = p
    · subst e
      refine Nat.lt_of_le_of_ne h3 fun z => hn ?_
      rw [Array.getElem?_eq_getElem hm2]
      have : xs.getD m 0 = xs[m] := by simp [Array.getD, hm2]
      rw [← this, ← z]
    · have h4 := hr p m (by omega) hm2
      have h5 := b3 p (Nat.le_refl _) (by omega)
      omega
  by_cases c1 : k < p
  · rw [if_pos c1, if_pos (by omega)]
    exact hr i k h1 (by omega)
  · rw [if_neg c1]
    by_cases c2 : k = p
    · rw [if_pos c2, if_pos (by omega)]
      exact b2 i (by omega)
    · rw [if_neg c2]
      by_cases c3 : i < p
      · rw [if_pos c3]
        by_cases c4 : i < k - 1
        · exact hr i (k - 1) c4 (by omega)
        · omega
      · rw [if_neg c3]
        by_cases c5 : i = p
        · rw [if_pos c5]
          exact hp (k - 1) (by omega) (by omega)
        · rw [if_neg c5]
          exact hr (i - 1) (k - 1) (by omega) (by omega)
theorem has_nil (j : Nat) : SetTable.has #[] j = false := by
  unfold SetTable.has
  simp
theorem slot_nil {t : SetTable} (h : t.dummies = #[]) (j : Nat) : t.slot j = .empty ∧ t.place[SetTable.below t.place j]? ≠ some j ∨ ∃ i, t.slot j = .live i := by
  unfold SetTable.slot
  dsimp only
  by_cases c : t.place[SetTable.below t.place j]? = some j
  · right
    rw [if_pos (by rw [c]; simp)]
    exact ⟨_, rfl⟩
  · left
    rw [if_neg (by simpa using c), h, has_nil]
    exact ⟨rfl, c⟩
theorem probe_go {t : SetTable} (h : t.dummies = #[]) (x : Int) : ∀ (fuel : Nat) (p : SetTable.Probe), p.dummy = none → ∀ j d, SetTable.probe.go t (fun _ => x + 1) x fuel p = some (.empty j d) → d = none ∧ t.place[SetTable.below t.place j]? ≠ some j
  | 0, p, _, j, d, e => by simp [SetTable.probe.go] at e
  | fuel + 1, p, hp, j, d, e => by
    unfold SetTable.probe.go at e
    rcases slot_nil h p.j with ⟨c, c'⟩ | ⟨i, c⟩
    · rw [c] at e
      cases e
      exact ⟨hp, c'⟩
    · rw [c] at e
      dsimp only at e
      rw [if_neg (by simp; omega)] at e
      refine probe_go h x fuel _ ?_ j d e
      unfold SetTable.advance
      split
      · exact hp
      · exact hp
theorem freeSlot_inv {t : SetTable} (h : t.dummies = #[]) {x : Int} {slot : Nat} {wd : Bool} (e : t.freeSlot x = some (slot, wd)) : wd = false ∧ t.place[SetTable.below t.place slot]? ≠ some slot := by
  unfold SetTable.freeSlot at e
  split at e
  · rename_i j d he
    unfold SetTable.probe at he
    obtain ⟨rfl, h2⟩ := probe_go h x _ _ rfl j d he
    cases e
    exact ⟨rfl, h2⟩
  · cases e
theorem put_inv {led : Bool} {t : SetTable} (h : SInv led t) {j : Nat} (hn : t.place[SetTable.below t.place j]? ≠ some j) : SInv led (t.put j).1 := by
  unfold SetTable.put
  refine ⟨insert_rise h.rise hn, ?_, h.led_⟩
  show (if SetTable.has t.dummies j = true then _ else t.dummies) = #[]
  rw [h.dum, has_nil]
  rfl
theorem layNew_inv {led : Bool} {t : SetTable} (h : SInv led t) (es : Array (Int × Value)) (x : Int) (v : Value) : SInv led (layNew t es x v).2.1 := by
  unfold layNew
  split
  · rename_i slot wd he
    exact orStandIn_inv (put_inv h (freeSlot_inv h.dum he).2) _
  · exact standIn_inv h.led_ _
theorem filterMap_rise {m : Nat} {f : Nat → Option Nat} : Rise (((List.range m).filterMap fun j => (f j).map fun k => (j, k)).map Prod.fst).toArray := by
  have hp : (((List.range m).filterMap fun j => (f j).map fun k => (j, k)).map Prod.fst).Pairwise (· < ·) := by
    rw [List.pairwise_map, List.pairwise_filterMap]
    refine List.Pairwise.imp ?_ (List.pairwise_lt_range (n := m))
    intro a b hab x hx y hy
    cases ha : f a with
    | none => rw [ha] at hx; cases hx
    | some k =>
      cases hb : f b with
      | none => rw [hb] at hy; cases hy
      | some k' =>
        rw [ha] at hx
        rw [hb] at hy
        cases hx
        cases hy
        exact hab
  intro i k h1 h2
  have h2' : k < (((List.range m).filterMap fun j => (f j).map fun k => (j, k)).map Prod.fst).length := by simpa using h2
  have := List.pairwise_iff_getElem.mp hp i k (by omega) h2' h1
  simp only [Array.getD_eq_getD_getElem?, List.getElem?_toArray, List.getElem?_eq_getElem h2', List.getElem?_eq_getElem (show i < _ from Nat.lt_trans h1 h2'), Option.getD_some]
  exact this
theorem relayAll_inv {led : Bool} {t : SetTable} (h : SInv led t) (es : Array (Int × Value)) (n : Nat) : SInv led (relayAll t es n).2.1 := by
  unfold relayAll
  split
  · rename_i t' order he
    dsimp only
    split
    · unfold SetTable.relaid SetTable.laid at he
      cases ho : SetTable.layClean (SetTable.sizeAbove n - 1) (es.map (·.1)) with
      | none => rw [ho] at he; cases he
      | some owner =>
        rw [ho] at he
        cases he
        exact ⟨filterMap_rise, rfl, h.led_⟩
    · exact standIn_inv h.led_ _
  · exact standIn_inv h.led_ _
end L2

set_option Elab.async false
set_option linter.all false
set_option maxRecDepth 100000
set_option maxHeartbeats 4000000
namespace L2
open PySem PySem.Spec PyProof.Rows
section
variable {prog : Program} {w : World} {K : Type} [DecidableEq K] {knd : KeyKind prog w K} {A : Around} {E : Value → Shared → Prop} {s : Shared}
def LedAt (led : Bool) (h : Heap) (a : Addr) : Prop := ∃ o es ep t, h.get? a = some o ∧ o.data = .set es ep t ∧ SInv led t
theorem SInv.plain {led : Bool} {t : SetTable} (h : SInv led t) (b : Bool) : SInv led { t with plain := b } := ⟨h.rise, h.dum, h.led_⟩
/-- what is stored, and laid anew where the table is too full -/
theorem lay_led {led : Bool} {g : Bool → Sem Unit} (hg : ∀ (b : Bool) (s₁ : Shared) (Q' : Unit → Shared → Prop), Q' () s₁ → wpAny (model prog w) A (g b) Q' E s₁)
    {a : Addr} {o : Obj} {es : Array (Int × Value)} {ep : Nat} {t : SetTable} (ho : s.heap.get? a = some o) (hex : o.ExactSet) (hd : o.data = .set es ep t)
    {es1 : Array (Int × Value)} {t2 : SetTable} {S' : K → Bool} (hel1 : ElemsOf knd es1.toList) (hmem1 : ∀ k', S' k' = true ↔ ∃ e ∈ es1.toList, knd.is k' e.2 = true)
    (hb1 : es1.size < scanBound) (hf2 : t2.fits es1.size = true) (hi : SInv led t2) {wd : Bool} {R : Option Bool → Shared → Prop}
    (h : ∀ h', Heap.SameBut a s.heap h' → h'.SetOf knd a S' es1.size → LedAt led h' a → R (some true) { s with heap := h' }) :
    wpAny (model prog w) A (do
        storeSet a es1 t2
        if (!wd && t2.tooFull) = true then do
            g (relayAll t2 es1 (SetTable.grown es1.size)).2.2
            storeSet a (relayAll t2 es1 (SetTable.grown es1.size)).1 (relayAll t2 es1 (SetTable.grown es1.size)).2.1
            pure (some true)
          else pure (some true)) R E s := by
  obtain ⟨ho1, hS1⟩ := SetOf_store (knd := knd) ho hex hd hel1 hmem1 hb1 hf2
  refine wpAny_bind (wpAny_storeSet_of ho hd ?_ (fits_of_scanBound hb1))
  split
  · have hp := relayAll_perm t2 es1 (SetTable.grown es1.size)
    have hm : ∀ k', S' k' = true ↔ ∃ e ∈ (relayAll t2 es1 (SetTable.grown es1.size)).1.toList, knd.is k' e.2 = true := fun k' => by
      rw [hmem1 k']
      constructor
      · rintro ⟨e, he, q⟩
        exact ⟨e, hp.mem_iff.mpr he, q⟩
      · rintro ⟨e, he, q⟩
        exact ⟨e, hp.mem_iff.mp he, q⟩
    have hz : (relayAll t2 es1 (SetTable.grown es1.size)).1.size = es1.size := by rw [← Array.length_toList, hp.length_eq, Array.length_toList]
    obtain ⟨ho2, hS2⟩ := SetOf_store (knd := knd) ho1 hex rfl (hel1.perm hp) hm (by rw [hz]; exact hb1) (relayAll_fits t2 es1 (SetTable.grown es1.size))
    rw [hz] at hS2
    refine wpAny_bind (hg _ _ _ (wpAny_bind (wpAny_storeSet_of ho1 rfl ?_ (fits_of_scanBound (by rw [hz]; exact hb1)))))
    exact wpAny_pure (h _ ((Heap.SameBut.update s.heap a _).trans (Heap.SameBut.update _ a _)) hS2 ⟨_, _, _, _, ho2, rfl, relayAll_inv hi _ _⟩)
  · exact wpAny_pure (h _ (Heap.SameBut.update s.heap a _) hS1 ⟨_, _, _, _, ho1, rfl, hi⟩)
theorem add_led {led : Bool} {a : Addr} {S : K → Bool} {n : Nat} {k : K} {x : Value} {Q : Bool → Shared → Prop} (hkey : knd.is k x = true) (hsc : x.scannable = true) (hS : s.heap.SetOf knd a S n) (hL : LedAt led s.heap a)
    (hroom : n + 1 < scanBound)
    (h : ∀ h', Heap.SameBut a s.heap h' → h'.SetOf knd a (fun k' => S k' || decide (k' = k)) (if S k then n else n + 1) → LedAt led h' a → Q (!S k) { s with heap := h' }) :
    wpAny (model prog w) A (setAddHashed a x (knd.hash k)) Q E s := by
  obtain ⟨o, es, ep, t, ho, hex, hd, hel, hmem, hb, hf, hn⟩ := id hS
  have hi : SInv led t := by
    obtain ⟨o', es', ep', t', ho', hd', hi'⟩ := hL
    rw [ho] at ho'
    cases ho'
    rw [hd] at hd'
    cases hd'
    exact hi'
  unfold setAddHashed setAddHashedIn
  refine wpAny_holding (wpAny_bind (wpAny_setState_of ho hd hf ?_))
  dsimp only
  rw [byScan_of hsc hb hel]
  simp only [↓reduceIte]
  unfold setAddByScan
  refine wpAny_bind (wpAny_bind (wpAny_rule (wpAny_bind (wpAny_setScan_of hkey ho hd hf hel ?_))))
  have hfound : S k = true ↔ (List.findIdx? (fun e => knd.is k e.2) es.toList).isSome = true := by
    rw [hmem k, List.findIdx?_isSome, List.any_eq_true]
  cases hr : List.findIdx? (fun e => knd.is k e.2) es.toList with
  | some j =>
    have hSk : S k = true := hfound.mpr (by rw [hr]; rfl)
    have hst := h s.heap (Heap.SameBut.refl a s.heap) (by
      rw [if_pos hSk]
      refine ⟨o, es, ep, t, ho, hex, hd, hel, fun k' => ?_, hb, hf, hn⟩
      rw [← hmem k']
      by_cases e : k' = k
      · subst e; simp [hSk]
      · simp [e]) hL
    rw [hSk] at hst
    exact wpAny_pure (wpAny_pure hst)
  | none =>
    have hSk : S k = false := by
      cases c : S k with
      | false => rfl
      | true => have := hfound.mp c; rw [hr] at this; cases this
    dsimp only
    have hp := layNew_perm t es (knd.hash k) x
    have hlf := layNew_fits t es (knd.hash k) x
    have hli := layNew_inv hi es (knd.hash k) x
    generalize layNew t es (knd.hash k) x = L at hp hlf hli ⊢
    obtain ⟨es1, t1, wd, gave⟩ := L
    dsimp only at hp hlf hli ⊢
    rw [Array.toList_push] at hp
    have hz : es1.size = n + 1 := by rw [← Array.length_toList, hp.length_eq, List.length_append, Array.length_toList, hn]; rfl
    have fin : ∀ h', Heap.SameBut a s.heap h' → h'.SetOf knd a (fun k' => S k' || decide (k' = k)) es1.size → LedAt led h' a → Q true { s with heap := h' } := fun h' sb hS' hL' => by
      have := h h' sb
      rw [hSk, if_neg (by simp)] at this
      rw [hz] at hS'
      exact this hS' hL'
    have hm := mem_push_iff hkey hmem hp
    have he1 : ElemsOf knd es1.toList := (hel.push hkey hsc).perm hp
    have hb1 : es1.size < scanBound := by rw [hz]; exact hroom
    have tail : ∀ (t2 : SetTable) {g : Bool → Sem Unit}, (∀ (b : Bool) (s₁ : Shared) (Q' : Unit → Shared → Prop), Q' () s₁ → wpAny (model prog w) A (g b) Q' E s₁) → t2.fits es1.size = true → SInv led t2 → ∀ {R : Option Bool → Shared → Prop}, (∀ s', Q true s' → R (some true) s') → wpAny (model prog w) A (do
        storeSet a es1 t2
        if (!wd && t2.tooFull) = true then do
            g (relayAll t2 es1 (SetTable.grown es1.size)).2.2
            storeSet a (relayAll t2 es1 (SetTable.grown es1.size)).1 (relayAll t2 es1 (SetTable.grown es1.size)).2.1
            pure (some true)
          else pure (some true)) R E s := fun t2 g hg f2 i2 R hR => lay_led hg ho hex hd he1 hm hb1 f2 i2 fun h' sb hS' hL' => hR _ (fin h' sb hS' hL')
    have gw : ∀ {s₁ : Shared} {Q' : Unit → Shared → Prop} (b : Bool), Q' () s₁ → wpAny (model prog w) A (match b with | true => rule "set.scan.the-table-gave-way" | false => pure ()) Q' E s₁ := fun b hq => by
      cases b
      · exact wpAny_pure hq
      · exact wpAny_rule hq
    refine wpAny_bind (gw gave ?_)
    split
    · rw [hashByValue_scannable 8 hsc]
      refine wpAny_bind (wpAny_pure ?_)
      refine tail _ (fun b s₁ Q' hq => gw b hq) ?_ ?_ fun s' hq => wpAny_pure hq
      · split
        · exact hlf
        · exact SetTable.fits_plain_off hlf
      · split
        · exact hli
        · exact hli.plain false
    · refine wpAny_bind (wpAny_pure ?_)
      exact tail _ (fun b s₁ Q' hq => gw b hq) hlf hli fun s' hq => wpAny_pure hq
end
end L2

set_option Elab.async false
set_option linter.all false
set_option maxRecDepth 100000
set_option maxHeartbeats 4000000
namespace L2
open PySem PySem.Spec PyProof.Rows
def IntSet (prog : Program) (w : World) (led : Bool) (h : Heap) (a : Addr) (ks : List Int) : Prop := h.SetOf (intKind prog w) a (fun k' => ks.any (· == k')) ks.length ∧ LedAt led h a
theorem IntSet.at_ {prog : Program} {w : World} {led : Bool} {h h' : Heap} {a : Addr} {ks : List Int} (x : IntSet prog w led h a ks) (k : ∀ o, h.get? a = some o → h'.get? a = some o) : IntSet prog w led h' a ks := by
  obtain ⟨⟨o, es, ep, t, ho, rest⟩, ⟨o', es', ep', t', ho', rest'⟩⟩ := x
  exact ⟨⟨o, es, ep, t, k _ ho, rest⟩, ⟨o', es', ep', t', k _ ho', rest'⟩⟩
section
variable {prog : Program} {w : World} {A : Around} {R : Result → Shared → Prop} {I : Addr} {fp wr : List Addr} {G : Array GenState → Array GenState → Prop} {n : Nat} {P : Nat → Value → Prop} {St : Nat → Shared → Prop} {led : Bool}
theorem update_led (W : WalksS prog w A.in1 I fp wr G n P St) (S : Addr) (hSf : S ∉ fp) (val : Nat → Int) (hval : ∀ i v, P i v → ∃ t, v = .int (val i) t) (hb : n + 1 < scanBound) :
    ∀ (k i : Nat) (s : Shared), n - i = k → i ≤ n → St i s → IntSet prog w led s.heap S (firstMet val i) →
      (∀ s', Moved (S :: wr) G s s' → IntSet prog w led s'.heap S (firstMet val n) → R (.ok (.ret .none)) s') →
      codeAny (model prog w) A (.builtin "set.update.loop" ⟨[.ref S, .ref I], []⟩) R s := by
  have hSw : S ∉ wr := fun h => hSf (W.sub _ h)
  have hsub : ∀ b ∈ wr, b ∈ S :: wr := fun b hb => List.mem_cons_of_mem _ hb
  intro k
  induction k with
  | zero =>
    intro i s hk hi hst hS hR
    obtain rfl : i = n := by omega
    refine codeAny_builtin F.entry_set_update_loop ?_
    rw [Around.under_plainId F.plain_set_update_loop _]
    show wpAny _ A.in1 (pyNext (.ref I) >>= _) _ _ s
    refine wpAny_bind (W.done s _ _ hst fun s' hm => ?_)
    show wpAny _ A.in1 (ret Value.none) _ _ s'
    exact wpAny_pure (hR s' (hm.mono hsub) (hS.at_ fun o e => hm.heap S o hSw e))
  | succ k ih =>
    intro i s hk hi hst hS hR
    have hlt : i < n := by omega
    refine codeAny_builtin F.entry_set_update_loop ?_
    rw [Around.under_plainId F.plain_set_update_loop _]
    show wpAny _ A.in1 (pyNext (.ref I) >>= _) _ _ s
    refine wpAny_bind (W.item i s _ _ hlt hst fun v s' hP hst' hm => ?_)
    obtain ⟨t, rfl⟩ := hval i v hP
    obtain ⟨hS1, hL1⟩ := hS.at_ fun o e => hm.heap S o hSw e
    show wpAny _ A.in1 (holding [Value.int (val i) t] (setAdd S (.int (val i) t)) >>= _) _ _ s'
    refine wpAny_bind (wpAny_holding ?_)
    unfold setAdd
    refine wpAny_holding ?_
    refine wpAny_bind ((intKind prog w).pyHash (k := val i) (intKind_is _ _ _ _) ?_)
    refine add_led (knd := intKind prog w) (s := { s' with toks := s'.toks + 1 }) (intKind_is _ _ _ _) rfl hS1 hL1 (by have := firstMet_length_le val i; omega) fun h' hsb hS2 hL2 => ?_
    have hS3 : IntSet prog w led h' S (firstMet val (i + 1)) := ⟨SetOf_congr hS2 (fun k' => by rw [firstMet_succ, step_any]) (by rw [firstMet_succ, step_length]), hL2⟩
    have oth : ∀ b o, b ≠ S → s'.heap.get? b = some o → h'.get? b = some o := fun b o hb e => by rw [hsb.2 b hb]; exact e
    refine wpAny_pure ⟨plainId_quiet F.plain_set_update_loop _, ih (i + 1) _ (by omega) hlt (W.frame _ s' _ _ hst' (Nat.le_succ _) fun b hb o e => oth b o (fun h => hSf (h ▸ hb)) e) hS3 fun s'' hm'' hS'' => ?_⟩
    exact hR s'' (Moved.trans W.gtrans ((hm.mono hsub).then_heap (Nat.le_succ _) fun b o hb e => oth b o (fun h => hb (h ▸ List.mem_cons_self)) e) hm'') hS''
end
section
variable {prog : Program} {w : World} {A : Around} {E : Value → Shared → Prop} {s : Shared}
theorem fresh_inv (led : Bool) : SInv led (.fresh 0 0 led) := ⟨fun i k _ h => by simp [SetTable.fresh] at h, rfl, rfl⟩
theorem set_new_led (a : Value) {Q₁ : Value → Shared → Prop}
    (h : Q₁ (.ref s.heap.objs.size) { s with heap := s.heap.push { cls := .type "set", dict := none, data := .set #[] 0 (.fresh 0 0 (!w.params.followText "set-order")) } }) :
    codeAny (model prog w) A (.call (.builtin "set.__new__") ⟨[.type "set", a], []⟩) (wants Q₁ E) s := by
  refine codeAny_of_tree ?_
  show wpAny _ A.in1 (do checkBuiltinCall "set.__new__" ⟨[.type "set", a], []⟩; again (.builtin "set.__new__" ⟨[.type "set", a], []⟩)) _ _ s
  refine wpAny_bind (wpAny_of_eq (F.newCall_set_1 a) (wpAny_pure ⟨plainId_quiet F.plain_set_new _, codeAny_builtin F.entry_set_new ?_⟩))
  rw [Around.under_plainId F.plain_set_new _]
  unfold Builtin.«set.__new__» Builtin.Frozenset.newClass
  have hsub := sub_set_self
  obtain ⟨hp, g, d, tk, os⟩ := s
  dsimp only
  wp_walk
  refine wpAny_askSetting (wpAny_pure ?_)
  dsimp only
  simp only [newObj]
  refine wpAny_bind (wpAny_alloc (wpAny_pure ?_))
  exact wpAny_pure h
end
end L2

set_option Elab.async false
set_option linter.all false
set_option maxRecDepth 100000
set_option maxHeartbeats 4000000
namespace L2
open PySem PySem.Spec PyProof.Rows
section
variable {prog : Program} {w : World} {A : Around} {E : Value → Shared → Prop} {s : Shared}
/-- set(xs) -/
theorem call_set_led {l : Addr} {items : Array Value} {ns : List Int} {Q : Value → Shared → Prop}
    (hh : A.handled = none) (hl : s.heap.IsList l items) (hi : IntsAre items.toList ns) (hb : items.size + 1 < scanBound)
    (h : ∀ (h' : Heap) (tk : Nat), IntSet prog w (!w.params.followText "set-order") h' s.heap.objs.size (firstMet (fun i => ns.getD i 0) items.size) →
      (∀ b o, b < s.heap.objs.size → s.heap.get? b = some o → h'.get? b = some o) → Q (.ref s.heap.objs.size) { s with heap := h', toks := tk }) :
    wpAny (model prog w) A (call (.type "set") [.ref l]) Q E s := by
  obtain ⟨c, tl, hmro⟩ := F.called_set.mro
  have hmade := F.called_set.made
  have hsub := F.called_set.sub
  refine wpAny_call (codeAny_of_tree ?_)
  show wpAny _ _ (callAny (.type "set") _) _ _ _
  refine wpAny_pure ⟨Code.quiet_builtin _ (by decide +kernel), codeAny_builtin F.entry_type_call ?_⟩
  rw [Around.under_plain (weight_type_call_type "set" [.ref l] []) rfl]
  have h1 := F.called_set.notType
  have h2 := F.called_set.canCreate
  have hct := F.typeCall_set_1 (.ref l)
  repeat (any_goals (first | assumption | wp_step))
  obtain ⟨O, hO⟩ : ∃ O : Obj, O = { cls := .type "set", dict := none, data := .set #[] 0 (.fresh 0 0 (!w.params.followText "set-order")) } := ⟨_, rfl⟩
  refine codeAny_mono (set_new_led (.ref l) (E := E) (Q₁ := fun obj s₁ => obj = .ref s.heap.objs.size ∧ s₁ = { s with heap := s.heap.push O }) ⟨rfl, by rw [hO]⟩) fun r s₁ hr => ?_
  cases r with
  | error e => exact hr
  | ok fl =>
    cases fl with
    | ret obj =>
      obtain ⟨rfl, rfl⟩ := hr
      have hS : (s.heap.push O).get? s.heap.objs.size = some O := Heap.get?_push_size _ (by rw [hO]; rfl)
      have hT : Shared.TypeIs { s with heap := s.heap.push O } (.ref s.heap.objs.size) "set" := ⟨_, hS, by rw [hO]⟩
      have hli := F.called_set.init.lookup
      have hbi := F.called_set.init.bind (.ref s.heap.objs.size)
      repeat (any_goals (first | assumption | wp_step))
      refine codeAny_mono (codeAny_call_builtin (R := wants (fun r s₂ => r = .none ∧ ∃ h' tk, s₂ = { s with heap := h', toks := tk } ∧
          IntSet prog w (!w.params.followText "set-order") h' s.heap.objs.size (firstMet (fun i => ns.getD i 0) items.size) ∧
          (∀ b o, b < s.heap.objs.size → s.heap.get? b = some o → h'.get? b = some o)) E) F.called_set.init.plain F.entry_set_init (check_set_init_1 hT ?_)) fun r₂ s₂ hr₂ => ?_
      · obtain ⟨ol, hol, hcl, nl, hdl⟩ := id hl
        obtain ⟨ocls, odict, odata, oslots⟩ := ol
        simp only at hcl hdl
        subst hcl; subst hdl
        have hol' : (s.heap.push O).get? l = some { cls := .type "list", dict := odict, data := .seq items nl, slots := oslots } := Heap.get?_push_of_some _ hol
        have hsls := F.sub_list_set
        have hslf := F.sub_list_frozenset
        have hne : (Value.type "list" == Value.type "dict") = false := by decide
        have hl1 : (s.heap.push O).IsList l items := ⟨_, hol', rfl, nl, rfl⟩
        unfold Builtin.«set.__init__» noKeywords Builtin.Frozenset.updateFrom
        generalize hPI : pyIter = PI
        rw [hO] at hS hol' hl1 hT ⊢
        wp_walk
        subst hPI
        refine wpAny_pyIter_list hl1 ?_
        refine wpAny_bind (wpAny_runValue ?_)
        have hlS : l < s.heap.objs.size := Heap.lt_size hol
        have hh3 : A.in1.in1.in1.handled = none := by simp [hh]
        rw [← hO] at hS hl1 ⊢
        have hz : (s.heap.push O).objs.size = s.heap.objs.size + 1 := Heap.size_push _ _
        have hval : ∀ (i : Nat) (v : Value), items[i]? = some v → ∃ t, v = .int ((fun i => ns.getD i 0) i) t := fun i v hv => IntsAre.int_at hi i v (by rw [Array.getElem?_toList]; exact hv)
        refine update_led (led := !w.params.followText "set-order") ((Walks.list hh3 _ l (by rw [hz]; exact Nat.ne_of_lt (Nat.lt_succ_of_lt hlS)) items).toS) s.heap.objs.size (by rw [hz]; simp only [List.mem_cons, List.not_mem_nil, or_false, not_or]; exact ⟨Nat.ne_of_lt (Nat.lt_succ_self _), Nat.ne_of_gt hlS⟩) (fun i => ns.getD i 0) hval hb (items.size - 0) 0 _ (by omega) (Nat.zero_le _)
          ⟨⟨_, Heap.get?_push_size _ rfl, rfl, rfl⟩, (hl1.push _)⟩ ?hS0 ?hR
        case hS0 =>
          have hget := Heap.get?_push_of_some { cls := .type "list_iterator", data := .fields #[.ref l, .int 0 0] } hS
          refine ⟨SetOf_congr ((setObjOf_fresh (knd := intKind prog w) (!w.params.followText "set-order")).setOf (hO ▸ hget) (by unfold scanBound; omega)) (fun _ => rfl) rfl, ⟨O, #[], 0, _, hget, by rw [hO], fresh_inv _⟩⟩
        case hR =>
          intro s' hm hS'
          obtain ⟨h', g', d', tk', os'⟩ := s'
          have eg : g' = s.gens := hm.gens
          have ed : d' = s.drawn := hm.drawn
          have eo : os' = s.os := hm.os
          subst eg; subst ed; subst eo
          show wpAny _ _ _ _ _ _
          refine wpAny_pure ?_
          show wpAny _ _ (ret Value.none) _ _ _
          refine wpAny_pure ⟨rfl, h', tk', rfl, hS', fun b o hb e => ?_⟩
          refine hm.heap b o ?_ (Heap.get?_push_of_some _ (Heap.get?_push_of_some _ e))
          rw [hz]
          simp only [List.mem_cons, List.not_mem_nil, or_false, not_or]
          exact ⟨Nat.ne_of_lt hb, Nat.ne_of_lt (Nat.lt_succ_of_lt hb)⟩
      · cases r₂ with
        | error e => exact hr₂
        | ok fl₂ =>
          cases fl₂ with
          | ret r =>
            obtain ⟨rfl, h', tk, rfl, hS', hk'⟩ := hr₂
            repeat (any_goals (first | assumption | wp_step))
            exact h _ _ hS' hk'
          | _ => exact hr₂.elim
    | _ => exact hr.elim
end
end L2

set_option Elab.async false
set_option linter.all false
set_option maxRecDepth 100000
set_option maxHeartbeats 4000000
namespace L2
open PySem PySem.Spec PyProof.Rows
theorem slot_sit_next : Slot "set_iterator" "__next__" "set_iterator.__next__" :=
  .of (owner := "set_iterator") (n := "__next__") (by rw [typeLookup_type, builtinLookup_eq_fast]; kernel_rfl) (by decide +kernel) (by decide +kernel) (by decide +kernel)
    (by first | exact .inl (by decide +kernel) | exact .inr (by decide +kernel)) (by rw [isSubtype_type]; kernel_rfl)
theorem entry_sit_next : entryFor table "set_iterator.__next__" = some Builtin.«set_iterator.__next__» := entryFor_of_tree (by kernel_rfl)
theorem slot_sit_iter : Slot "set_iterator" "__iter__" "set_iterator.__iter__" :=
  .of (owner := "set_iterator") (n := "__iter__") (by rw [typeLookup_type, builtinLookup_eq_fast]; kernel_rfl) (by decide +kernel) (by decide +kernel) (by decide +kernel)
    (by first | exact .inl (by decide +kernel) | exact .inr (by decide +kernel)) (by rw [isSubtype_type]; kernel_rfl)
theorem slot_set_iter : Slot "set" "__iter__" "set.__iter__" :=
  .of (owner := "set") (n := "__iter__") (by rw [typeLookup_type, builtinLookup_eq_fast]; kernel_rfl) (by decide +kernel) (by decide +kernel) (by decide +kernel)
    (by first | exact .inl (by decide +kernel) | exact .inr (by decide +kernel)) (by rw [isSubtype_type]; kernel_rfl)
theorem entry_set_iter : entryFor table "set.__iter__" = some Builtin.«frozenset.__iter__» :=
  entryFor_alias (id' := "frozenset.__iter__") (by kernel_rfl) (by first | rfl | decide +kernel | (unfold String.splitOn; simp +decide [String.splitOnAux])) (by decide +kernel) (by kernel_rfl)
section
variable {prog : Program} {w : World} {A : Around} {E : Value → Shared → Prop} {s : Shared}
theorem next_led {a : Addr} {o : Obj} {es : Array (Int × Value)} {ep : Nat} {t : SetTable} {slot given e0 : Nat} {Q : Option (Value × Nat) → Shared → Prop} (ho : s.heap.get? a = some o) (hd : o.data = .set es ep t) (hf : t.fits es.size = true) (hl : t.led = true) (hw : w.params.followText "set-order" = false) (hp : (!t.plain && decide (es.size > 1)) = false)
    (h : Q (match es[SetTable.below t.place slot]?, t.place[SetTable.below t.place slot]? with | some (_, x), some j => some (x, j + 1) | _, _ => none) s) : wpAny (model prog w) A (setNext a slot given e0) Q E s := by
  unfold setNext
  refine wpAny_bind (wpAny_setState_of ho hd hf ?_)
  dsimp only
  unfold setsByText
  refine wpAny_bind (wpAny_bind (wpAny_askSetting (wpAny_pure ?_)))
  show wpAny _ A (if w.params.followText "set-order" = true then _ else _) _ _ _
  rw [if_neg (by rw [hw]; simp)]
  show wpAny _ A (if (!t.plain && decide (es.size > 1)) = true then _ else _) _ _ _
  rw [if_neg (by rw [hp]; simp)]
  show wpAny _ A ((if (!t.led && !es.isEmpty) = true then unsupported "set:maker-not-led" else pure ()) >>= _) _ _ _
  rw [if_neg (by rw [hl]; simp)]
  refine wpAny_bind (wpAny_pure ?_)
  exact wpAny_pure h
end
end L2

set_option Elab.async false
set_option linter.all false
set_option maxRecDepth 100000
set_option maxHeartbeats 4000000
namespace L2
open PySem PySem.Spec PyProof.Rows
theorem owner_sit : Manifest.owners.lookup (String.ofList ['r', 'o', 't', 'a', 'r', 'e', 't', 'i', '_', 't', 'e', 's'].reverse) = some Manifest.sig_set_iterator := by kernel_rfl
theorem args_sit_next_1 (a : Value) : argsOk "set_iterator.__next__" ⟨[a], []⟩ := by
  unfold argsOk; rw [signature?_of (id := "set_iterator.__next__") (n := ['_', '_', 't', 'x', 'e', 'n', '_', '_']) (o := ['r', 'o', 't', 'a', 'r', 'e', 't', 'i', '_', 't', 'e', 's']) (by kernel_rfl) owner_sit]; kernel_rfl
section
variable {prog : Program} {w : World} {A : Around} {E : Value → Shared → Prop} {s : Shared}
end
end L2

set_option Elab.async false
set_option linter.all false
set_option maxRecDepth 100000
set_option maxHeartbeats 4000000
namespace L2
open PySem PySem.Spec PyProof.Rows
section
variable {prog : Program} {w : World} {A : Around} {E : Value → Shared → Prop} {s : Shared}
theorem next_text {a : Addr} {o : Obj} {es : Array (Int × Value)} {ep : Nat} {t : SetTable} {slot given : Nat} {Q : Option (Value × Nat) → Shared → Prop} (ho : s.heap.get? a = some o) (hd : o.data = .set es ep t) (hf : t.fits es.size = true) (hw : w.params.followText "set-order" = true)
    (h : Q (((pickOrder (w.params.setOrder a ep) es)[given]?).map fun e => (e.2, slot)) s) : wpAny (model prog w) A (setNext a slot given ep) Q E s := by
  unfold setNext
  refine wpAny_bind (wpAny_setState_of ho hd hf ?_)
  dsimp only
  unfold setsByText
  refine wpAny_bind (wpAny_bind (wpAny_askSetting (wpAny_pure ?_)))
  show wpAny _ A (if w.params.followText "set-order" = true then _ else _) _ _ _
  rw [if_pos hw]
  rw [if_neg (by simp)]
  unfold setWalk
  refine wpAny_bind (wpAny_bind (wpAny_setState_of ho hd hf ?_))
  dsimp only
  unfold setsByText
  refine wpAny_bind (wpAny_bind (wpAny_askSetting (wpAny_pure ?_)))
  show wpAny _ A (if w.params.followText "set-order" = true then _ else _) _ _ _
  rw [if_pos hw]
  refine wpAny_bind (wpAny_askSetting (wpAny_pure ?_))
  exact wpAny_pure h
theorem next_drawn {a : Addr} {o : Obj} {es : Array (Int × Value)} {ep : Nat} {t : SetTable} {place : Nat} {hx : Int} {x : Value} {Q : Value → Shared → Prop} (ho : s.heap.get? a = some o) (hd : o.data = .set es ep t) (hf : t.fits es.size = true) (h1 : es[place]? = some (hx, x))
    (h : Q x s) : wpAny (model prog w) A (setNextDrawn a place ep) Q E s := by
  unfold setNextDrawn
  refine wpAny_bind (wpAny_setState_of ho hd hf ?_)
  dsimp only
  rw [if_neg (by simp), h1]
  exact wpAny_pure h
theorem erase_perm {α : Type} : ∀ (l : List α) (i : Nat) (h : i < l.length), (l[i] :: l.eraseIdx i).Perm l
  | y :: ys, 0, _ => by simp
  | y :: ys, i + 1, h => by
    have h' : i < ys.length := by simpa using h
    simp only [List.getElem_cons_succ, List.eraseIdx_cons_succ]
    exact (List.Perm.swap _ _ _).trans ((erase_perm ys i h').cons y)
theorem pick_perm {α : Type} (next : Nat → Nat) : ∀ (fuel k : Nat) (left : List α) (out : Array α), left.length ≤ fuel → (pickOrder.go next fuel k left out).toList.Perm (out.toList ++ left)
  | 0, k, left, out, h => by
    have : left = [] := List.length_eq_zero_iff.mp (by omega)
    subst this
    simp [pickOrder.go]
  | fuel + 1, k, left, out, h => by
    unfold pickOrder.go
    cases hl : left with
    | nil => simp
    | cons y ys =>
      have hlt : next k % (y :: ys).length < (y :: ys).length := Nat.mod_lt _ (by simp)
      rw [List.getElem?_eq_getElem hlt]
      dsimp only
      generalize next k % (y :: ys).length = i at hlt
      refine (pick_perm next fuel (k + 1) _ _ ?_).trans ?_
      · rw [List.length_eraseIdx_of_lt hlt]
        rw [hl] at h
        omega
      · rw [Array.toList_push, List.append_assoc]
        refine List.Perm.append_left _ ?_
        exact erase_perm _ _ hlt
end
end L2

set_option Elab.async false
set_option linter.all false
set_option maxRecDepth 100000
set_option maxHeartbeats 4000000
namespace L2
open PySem PySem.Spec PyProof.Rows BW
theorem fit_snoc {beds : List Int} {v : List Nat} {r : Nat} : Fit (bF beds) (v ++ [r]) ↔ Fit (bF beds) v ∧ v.count r < bF beds r := by
  constructor
  · intro h
    refine ⟨fun x => ?_, ?_⟩
    · have := h x
      rw [List.count_append] at this
      omega
    · have := h r
      rw [List.count_append] at this
      simp at this
      omega
  · rintro ⟨h1, h2⟩ x
    rw [List.count_append]
    by_cases hx : r = x
    · subst hx
      simp
      omega
    · have := h1 x
      simp [hx]
      omega
end L2

set_option Elab.async false
set_option linter.all false
set_option maxRecDepth 100000
set_option maxHeartbeats 4000000
namespace L2
open PySem PySem.Spec PyProof.Rows BW
end L2

set_option Elab.async false
set_option linter.all false
set_option maxRecDepth 100000
set_option maxHeartbeats 4000000
namespace L2
open PySem PySem.Spec PyProof.Rows
section
variable {prog : Program} {w : World} {A : Around} {E : Value → Shared → Prop} {s : Shared}
theorem wpAny_choose {src : Source} {n : Nat} {Q : Nat → Shared → Prop} (hn : n ≠ 0) (h : ∀ i, i < n → Q i { s with drawn := s.drawn.bump src }) : wpAny (model prog w) A (choose src n) Q E s := fun Γ p hΓ => by
  show Sem.wp (model prog w) Γ (.choose src n .pure) _ _ p s
  rw [Sem.wp_choose]
  exact ⟨hn, h _ (Nat.mod_lt _ (Nat.pos_of_ne_zero hn))⟩
theorem draw_perm {α : Type} : ∀ (n : Nat) (xs : List α) (s : Shared) (Q : List α → Shared → Prop), xs.length ≤ n → (∀ ys d, ys.Perm xs → Q ys { s with drawn := d }) → wpAny (model prog w) A (drawOrder n xs) Q E s
  | 0, xs, s, Q, hl, h => by
    have : xs = [] := List.length_eq_zero_iff.mp (by omega)
    subst this
    exact wpAny_pure (h [] s.drawn (List.Perm.refl _))
  | n + 1, [], s, Q, hl, h => wpAny_pure (h [] s.drawn (List.Perm.refl _))
  | n + 1, y :: ys, s, Q, hl, h => by
    unfold drawOrder
    refine wpAny_bind (wpAny_choose (by simp) fun i hi => ?_)
    rw [List.getElem?_eq_getElem hi]
    dsimp only
    refine wpAny_bind (draw_perm n _ _ _ ?_ fun zs d hp => ?_)
    · rw [List.length_eraseIdx_of_lt hi]
      omega
    · exact wpAny_pure (h _ _ ((hp.cons _).trans (erase_perm _ _ hi)))
def sitO (first : Value) (S : Addr) (n ep : Nat) : Obj := { cls := .type "set_iterator", data := .fields #[first, rawInt 0, .ref S, rawInt n, rawInt ep] }
theorem args_set_iter_1 (a : Value) : argsOk "set.__iter__" ⟨[a], []⟩ := by unfold argsOk; kernel_rfl
theorem iter_set {S : Addr} {o : Obj} {es : Array (Int × Value)} {ep : Nat} {t : SetTable} {Q : Value → Shared → Prop} (ho : s.heap.get? S = some o) (hc : o.cls = .type "set") (hd : o.data = .set es ep t) (hf : t.fits es.size = true)
    (h1 : (!w.params.followText "set-order" && (!t.plain && decide (es.size > 1))) = false → Q (.ref s.heap.objs.size) { s with heap := s.heap.push (sitO (rawInt 0) S es.size ep) })
    (h2 : (!w.params.followText "set-order" && (!t.plain && decide (es.size > 1))) = true → ∀ (ys : List Nat) d, ys.Perm (List.range es.size) →
      Q (.ref (s.heap.objs.size + 1)) { s with heap := (s.heap.push { cls := .type "tuple", data := .seq (ys.map fun (i : Nat) => rawInt i).toArray }).push (sitO (.ref s.heap.objs.size) S es.size ep), drawn := d }) (hz : es.size ≤ sizeLine) :
    wpAny (model prog w) A (pyIter (.ref S)) Q E s := by
  have hT : s.TypeIs (.ref S) "set" := ⟨o, ho, hc⟩
  refine wpAny_pyIter_slot hT slot_set_iter (wpAny_call_entry slot_set_iter hT entry_set_iter ?_ (args_set_iter_1 _))
  unfold Builtin.«frozenset.__iter__»
  unfold Builtin.Frozenset.slot0
  refine wpAny_bind (wpAny_bind (wpAny_of_eq (a := (Value.ref S, [])) rfl ?_))
  dsimp only
  refine wpAny_of_eq (a := S) rfl ?_
  unfold Builtin.Frozenset.sizeOf setEntries
  refine wpAny_bind (wpAny_bind (wpAny_bind (wpAny_setState_of ho hd hf (wpAny_pure (wpAny_pure ?_)))))
  unfold setDrawn
  refine wpAny_bind (wpAny_bind (wpAny_setState_of ho hd hf ?_))
  dsimp only
  unfold setsByText
  refine wpAny_bind (wpAny_bind (wpAny_askSetting (wpAny_pure ?_)))
  refine wpAny_pure ?_
  show wpAny (model prog w) A.in1 (if (!w.params.followText "set-order" && (!t.plain && decide (es.size > 1))) = true then _ else _) _ _ _
  cases hb : (!w.params.followText "set-order" && (!t.plain && decide (es.size > 1))) with
  | false =>
    rw [if_neg Bool.false_ne_true]
    refine wpAny_bind (wpAny_pure (wpAny_bind (wpAny_setEpoch_of ho hd hf ?_)))
    refine wpAny_bind (wpAny_newObj_type ?_)
    exact wpAny_pure ⟨_, rfl, "set_iterator", _, ⟨_, Heap.get?_push_size _ rfl, rfl⟩, slot_sit_next.lookup, h1 hb⟩
  | true =>
    rw [if_pos rfl]
    refine wpAny_bind (draw_perm _ _ _ _ (by simp) fun ys d hp => ?_)
    have hyl : ys.length = es.size := by rw [hp.length_eq]; simp
    refine wpAny_bind (wpAny_newTuple ?_ ?_)
    · refine wpAny_bind (wpAny_setEpoch_of (Heap.get?_push_of_some _ ho) hd hf ?_)
      refine wpAny_bind (wpAny_newObj_type ?_)
      have hsz : (s.heap.push { cls := .type "tuple", data := .seq (ys.map fun (i : Nat) => rawInt i).toArray }).objs.size = s.heap.objs.size + 1 := Heap.size_push _ _
      have := h2 hb ys d hp
      refine wpAny_pure ⟨_, rfl, "set_iterator", _, ⟨_, Heap.get?_push_size _ rfl, rfl⟩, slot_sit_next.lookup, ?_⟩
      show Q (.ref (s.heap.push { cls := .type "tuple", data := .seq (ys.map fun (i : Nat) => rawInt i).toArray }).objs.size) _
      rw [hsz]
      exact this
    · rw [List.length_map, hyl]
      exact hz
def SitF (h : Heap) (it S : Addr) (first : Value) (i : Int) (n ep : Nat) : Prop := ∃ o, h.get? it = some o ∧ o.cls = .type "set_iterator" ∧ o.data = .fields #[first, rawInt i, .ref S, rawInt n, rawInt ep]
theorem SitF.typeIs {it S : Addr} {first : Value} {i : Int} {n ep : Nat} (x : SitF s.heap it S first i n ep) : s.TypeIs (.ref it) "set_iterator" := let ⟨o, ho, hc, _⟩ := x; ⟨o, ho, hc⟩
theorem SitF.at_ {h h' : Heap} {it S : Addr} {first : Value} {i : Int} {n ep : Nat} (x : SitF h it S first i n ep) (e : ∀ o, h.get? it = some o → h'.get? it = some o) : SitF h' it S first i n ep := let ⟨o, ho, r⟩ := x; ⟨o, e _ ho, r⟩
theorem sitF_item {it a : Addr} {o : Obj} {es : Array (Int × Value)} {ep : Nat} {t : SetTable} {slot i : Nat} {Q : Option Value → Shared → Prop} (hit : SitF s.heap it a (rawInt (slot : Int)) (i : Int) es.size ep) (ho : s.heap.get? a = some o) (hd : o.data = .set es ep t) (hf : t.fits es.size = true)
    {x : Value} {nx : Nat} (hn : ∀ (A : Around) (E : Value → Shared → Prop) (Q : Option (Value × Nat) → Shared → Prop), Q (some (x, nx)) s → wpAny (model prog w) A (setNext a slot i ep) Q E s)
    (hQ : ∀ h', SitF h' it a (rawInt (nx : Int)) ((i + 1 : Nat) : Int) es.size ep → Heap.SameBut it s.heap h' → Q (some x) { s with heap := h' }) : wpAny (model prog w) A (pyNext (.ref it)) Q E s := by
  obtain ⟨u, hu, hc, hud⟩ := id hit
  unfold pyNext
  refine wpAny_bind (wpAny_attempt (wpAny_callSpecial?_slot (name := Str.ofString "__next__") hit.typeIs slot_sit_next
    (wpAny_call_entry slot_sit_next hit.typeIs entry_sit_next ?_ (args_sit_next_1 _))))
  unfold Builtin.«set_iterator.__next__»
  refine wpAny_bind (wpAny_of_eq (a := (Value.ref it, [])) rfl ?_)
  dsimp only
  refine wpAny_bind (wpAny_fieldsOf hu hud ?_)
  dsimp only [rawInt]
  unfold setEntries
  refine wpAny_bind (wpAny_bind (wpAny_setState_of ho hd hf (wpAny_pure ?_)))
  rw [if_neg (by simp)]
  refine wpAny_bind (hn _ _ _ ?_)
  dsimp only
  refine wpAny_bind (wpAny_setField hu hud (by simp) ?_)
  have g1 := Heap.get?_update_self (Obj.mapFields fun vs => vs.setIfInBounds 0 (rawInt (nx : Int))) hu (Obj.isFreed_of_fields (Obj.data_mapFields hud _))
  have d1 := Obj.data_mapFields hud fun vs => vs.setIfInBounds 0 (rawInt (nx : Int))
  refine wpAny_bind (wpAny_setField g1 d1 (by simp) ?_)
  have g2 := Heap.get?_update_self (Obj.mapFields fun vs => vs.setIfInBounds 1 (rawInt ((i : Int) + 1))) g1 (Obj.isFreed_of_fields (Obj.data_mapFields d1 _))
  have d2 := Obj.data_mapFields d1 fun vs => vs.setIfInBounds 1 (rawInt ((i : Int) + 1))
  refine wpAny_pure ⟨x, rfl, wpAny_pure (hQ _ ⟨_, g2, ?_, ?_⟩ ((Heap.SameBut.update s.heap it _).trans (Heap.SameBut.update _ it _)))⟩
  · exact (Obj.cls_mapFields ..).trans ((Obj.cls_mapFields ..).trans hc)
  · rw [d2]
    simp
theorem sitF_end {it a : Addr} {o : Obj} {es : Array (Int × Value)} {ep : Nat} {t : SetTable} {slot i : Nat} {Q : Option Value → Shared → Prop} (hh : A.handled = none) (hit : SitF s.heap it a (rawInt (slot : Int)) (i : Int) es.size ep) (ho : s.heap.get? a = some o) (hd : o.data = .set es ep t) (hf : t.fits es.size = true)
    (hn : ∀ (A : Around) (E : Value → Shared → Prop) (Q : Option (Value × Nat) → Shared → Prop), Q none s → wpAny (model prog w) A (setNext a slot i ep) Q E s)
    (hQ : ∀ h', Heap.ExtBut it s.heap h' → Q none { s with heap := h' }) : wpAny (model prog w) A (pyNext (.ref it)) Q E s := by
  obtain ⟨u, hu, hc, hud⟩ := id hit
  unfold pyNext
  refine wpAny_bind (wpAny_attempt (wpAny_callSpecial?_slot (name := Str.ofString "__next__") hit.typeIs slot_sit_next
    (wpAny_call_entry slot_sit_next hit.typeIs entry_sit_next ?_ (args_sit_next_1 _))))
  unfold Builtin.«set_iterator.__next__»
  refine wpAny_bind (wpAny_of_eq (a := (Value.ref it, [])) rfl ?_)
  dsimp only
  refine wpAny_bind (wpAny_fieldsOf hu hud ?_)
  dsimp only [rawInt]
  unfold setEntries
  refine wpAny_bind (wpAny_bind (wpAny_setState_of ho hd hf (wpAny_pure ?_)))
  rw [if_neg (by simp)]
  refine wpAny_bind (hn _ _ _ ?_)
  dsimp only
  refine wpAny_bind (wpAny_setField hu hud (by simp) ?_)
  refine wpAny_bind ?_
  simp only [newExc, newTuple]
  refine wpAny_bind (wpAny_newObj_type ?_ (by size_fits))
  refine wpAny_bind (m := firstArgMember _ _) (wpAny_of_eq (a := Value.none) (by first | rfl | (simp only [firstArgMember]; rfl)) ?_)
  refine wpAny_newObj_type ?_ (by size_fits)
  simp only [raiseNew]
  refine wpAny_bind (wpAny_handled ?_)
  first | rw [show A.in1.handled = none from hh] | rw [hh]
  refine wpAny_bind (wpAny_pure (wpAny_throw ?_))
  refine wpAny_bind (wpAny_isInstance (T := "StopIteration") (b := true) ⟨_, Heap.get?_push_size _ rfl, rfl⟩ isSubtype_stop ?_)
  exact wpAny_pure (hQ _ ((((Heap.SameBut.update s.heap it _).extBut).push _).push _))
/-- where its places were drawn -/
theorem sitD_item {it a tp : Addr} {o ot : Obj} {es : Array (Int × Value)} {ep : Nat} {t : SetTable} {i place c : Nat} {ps : Array Value} {tk : Tok} {Q : Option Value → Shared → Prop} (hit : SitF s.heap it a (.ref tp) (i : Int) es.size ep) (ho : s.heap.get? a = some o) (hd : o.data = .set es ep t) (hf : t.fits es.size = true)
    (hto : s.heap.get? tp = some ot) (htd : ot.data = .seq ps c) (hp : ps[i]? = some (.int (place : Int) tk)) {hx : Int} {x : Value} (hxx : es[place]? = some (hx, x))
    (hQ : ∀ h', SitF h' it a (.ref tp) ((i + 1 : Nat) : Int) es.size ep → Heap.SameBut it s.heap h' → Q (some x) { s with heap := h' }) : wpAny (model prog w) A (pyNext (.ref it)) Q E s := by
  obtain ⟨u, hu, hc, hud⟩ := id hit
  unfold pyNext
  refine wpAny_bind (wpAny_attempt (wpAny_callSpecial?_slot (name := Str.ofString "__next__") hit.typeIs slot_sit_next
    (wpAny_call_entry slot_sit_next hit.typeIs entry_sit_next ?_ (args_sit_next_1 _))))
  unfold Builtin.«set_iterator.__next__»
  refine wpAny_bind (wpAny_of_eq (a := (Value.ref it, [])) rfl ?_)
  dsimp only
  refine wpAny_bind (wpAny_fieldsOf hu hud ?_)
  dsimp only [rawInt]
  unfold setEntries
  refine wpAny_bind (wpAny_bind (wpAny_setState_of ho hd hf (wpAny_pure ?_)))
  rw [if_neg (by simp)]
  refine wpAny_bind (wpAny_seqItems hto htd ?_)
  dsimp only
  rw [show (i : Int).toNat = i from rfl, hp]
  dsimp only
  refine wpAny_bind (next_drawn ho hd hf (place := (place : Int).toNat) hxx ?_)
  refine wpAny_bind (wpAny_setField hu hud (by simp) ?_)
  have g1 := Heap.get?_update_self (Obj.mapFields fun vs => vs.setIfInBounds 1 (rawInt ((i : Int) + 1))) hu (Obj.isFreed_of_fields (Obj.data_mapFields hud _))
  have d1 := Obj.data_mapFields hud fun vs => vs.setIfInBounds 1 (rawInt ((i : Int) + 1))
  refine wpAny_pure ⟨x, rfl, wpAny_pure (hQ _ ⟨_, g1, ?_, ?_⟩ (Heap.SameBut.update s.heap it _))⟩
  · exact (Obj.cls_mapFields ..).trans hc
  · rw [d1]
    simp
theorem sitD_end {it a tp : Addr} {o ot : Obj} {es : Array (Int × Value)} {ep : Nat} {t : SetTable} {i c : Nat} {ps : Array Value} {Q : Option Value → Shared → Prop} (hh : A.handled = none) (hit : SitF s.heap it a (.ref tp) (i : Int) es.size ep) (ho : s.heap.get? a = some o) (hd : o.data = .set es ep t) (hf : t.fits es.size = true)
    (hto : s.heap.get? tp = some ot) (htd : ot.data = .seq ps c) (hp : ps[i]? = none)
    (hQ : ∀ h', Heap.ExtBut it s.heap h' → Q none { s with heap := h' }) : wpAny (model prog w) A (pyNext (.ref it)) Q E s := by
  obtain ⟨u, hu, hc, hud⟩ := id hit
  unfold pyNext
  refine wpAny_bind (wpAny_attempt (wpAny_callSpecial?_slot (name := Str.ofString "__next__") hit.typeIs slot_sit_next
    (wpAny_call_entry slot_sit_next hit.typeIs entry_sit_next ?_ (args_sit_next_1 _))))
  unfold Builtin.«set_iterator.__next__»
  refine wpAny_bind (wpAny_of_eq (a := (Value.ref it, [])) rfl ?_)
  dsimp only
  refine wpAny_bind (wpAny_fieldsOf hu hud ?_)
  dsimp only [rawInt]
  unfold setEntries
  refine wpAny_bind (wpAny_bind (wpAny_setState_of ho hd hf (wpAny_pure ?_)))
  rw [if_neg (by simp)]
  refine wpAny_bind (wpAny_seqItems hto htd ?_)
  dsimp only
  rw [show (i : Int).toNat = i from rfl, hp]
  dsimp only
  refine wpAny_bind (wpAny_setField hu hud (by simp) ?_)
  have g1 := Heap.get?_update_self (Obj.mapFields fun vs => vs.setIfInBounds 0 (rawInt 0)) hu (Obj.isFreed_of_fields (Obj.data_mapFields hud _))
  have d1 := Obj.data_mapFields hud fun vs => vs.setIfInBounds 0 (rawInt 0)
  refine wpAny_bind (wpAny_setField g1 d1 (by simp) ?_)
  refine wpAny_bind ?_
  simp only [newExc, newTuple]
  refine wpAny_bind (wpAny_newObj_type ?_ (by size_fits))
  refine wpAny_bind (m := firstArgMember _ _) (wpAny_of_eq (a := Value.none) (by first | rfl | (simp only [firstArgMember]; rfl)) ?_)
  refine wpAny_newObj_type ?_ (by size_fits)
  simp only [raiseNew]
  refine wpAny_bind (wpAny_handled ?_)
  first | rw [show A.in1.handled = none from hh] | rw [hh]
  refine wpAny_bind (wpAny_pure (wpAny_throw ?_))
  refine wpAny_bind (wpAny_isInstance (T := "StopIteration") (b := true) ⟨_, Heap.get?_push_size _ rfl, rfl⟩ isSubtype_stop ?_)
  exact wpAny_pure (hQ _ (((((Heap.SameBut.update s.heap it _).trans (Heap.SameBut.update _ it _)).extBut).push _).push _))
end
end L2

set_option Elab.async false
set_option linter.all false
set_option maxRecDepth 100000
set_option maxHeartbeats 4000000
namespace L2
open PySem PySem.Spec PyProof.Rows
theorem args_sit_iter_1 (a : Value) : argsOk "set_iterator.__iter__" ⟨[a], []⟩ := by
  unfold argsOk; rw [signature?_of (id := "set_iterator.__iter__") (n := ['_', '_', 'r', 'e', 't', 'i', '_', '_']) (o := ['r', 'o', 't', 'a', 'r', 'e', 't', 'i', '_', 't', 'e', 's']) (by kernel_rfl) owner_sit]; kernel_rfl
theorem entry_sit_iter : entryFor table "set_iterator.__iter__" = some Builtin.«dict_keyiterator.__iter__» :=
  entryFor_alias (id' := "dict_keyiterator.__iter__") (by kernel_rfl) (by first | rfl | decide +kernel | (unfold String.splitOn; simp +decide [String.splitOnAux])) (by decide +kernel) (by kernel_rfl)
section
variable {prog : Program} {w : World} {A : Around} {E : Value → Shared → Prop} {s : Shared}
theorem sit_self {it S : Addr} {first : Value} {i : Int} {n ep : Nat} {Q : Value → Shared → Prop} (hit : SitF s.heap it S first i n ep) (h : Q (.ref it) s) : wpAny (model prog w) A (pyIter (.ref it)) Q E s := by
  refine wpAny_pyIter_slot hit.typeIs slot_sit_iter (wpAny_call_entry slot_sit_iter hit.typeIs entry_sit_iter ?_ (args_sit_iter_1 _))
  show wpAny _ _ (ret (.ref it)) _ _ s
  exact wpAny_pure ⟨_, rfl, "set_iterator", _, hit.typeIs, slot_sit_next.lookup, h⟩
theorem fits_size {t : SetTable} {n : Nat} (h : t.fits n = true) : t.place.size = n := by
  simp only [SetTable.fits, Bool.and_eq_true, beq_iff_eq, decide_eq_true_eq] at h
  exact h.1
theorem walks_led (hh : A.handled = none) {it S : Addr} (hne : S ≠ it) {o : Obj} {es : Array (Int × Value)} {ep : Nat} {t : SetTable} (hd : o.data = .set es ep t) (hf : t.fits es.size = true) (hl : t.led = true) (hw : w.params.followText "set-order" = false) (hp : (!t.plain && decide (es.size > 1)) = false) (hr : Rise t.place) :
    Walks prog w A it [it, S] [it] es.size (fun i v => (es.toList.map (fun e => e.2))[i]? = some v) (fun i h => (∃ slot : Nat, SetTable.below t.place slot = i ∧ SitF h it S (rawInt (slot : Int)) (i : Int) es.size ep) ∧ h.get? S = some o) where
  sub := fun b hb => by simp at hb; simp [hb]
  frame := fun i h h' x hk => by
    obtain ⟨⟨slot, h1, h2⟩, h3⟩ := x
    exact ⟨⟨slot, h1, h2.at_ fun o e => hk it (by simp) o e⟩, hk S (by simp) o h3⟩
  item := fun i s Q E hi x hQ => by
    obtain ⟨⟨slot, h1, h2⟩, h3⟩ := x
    have hps := fits_size hf
    have e1 : es[i]? = some es[i] := by simp [hi]
    have e2 : t.place[i]? = some (t.place.getD i 0) := by simp [Array.getD, hps, hi]
    refine sitF_item h2 h3 hd hf (x := es[i].2) (nx := t.place.getD i 0 + 1) (fun A E Q q => next_led h3 hd hf hl hw hp (by rw [h1, e1, e2]; exact q)) fun h' st' sb => ?_
    refine hQ _ h' s.toks ?_ ⟨⟨_, below_next hr (by omega), st'⟩, (sb.2 S hne).trans h3⟩ fun b o hb e => sb.extBut b o (fun h => hb (by simp [h])) e
    simp [hi]
  done := fun s Q E x hQ => by
    obtain ⟨⟨slot, h1, h2⟩, h3⟩ := x
    refine sitF_end hh h2 h3 hd hf (fun A E Q q => next_led h3 hd hf hl hw hp (by rw [h1]; simpa using q)) fun h' eb => ?_
    exact hQ h' s.toks fun b o hb e => eb b o (fun h => hb (by simp [h])) e
  self := fun i s Q E x hQ => by
    obtain ⟨⟨slot, h1, h2⟩, h3⟩ := x
    exact sit_self h2 hQ
theorem walks_text (hh : A.handled = none) {it S : Addr} (hne : S ≠ it) {o : Obj} {es : Array (Int × Value)} {ep : Nat} {t : SetTable} (hd : o.data = .set es ep t) (hf : t.fits es.size = true) (hw : w.params.followText "set-order" = true) :
    Walks prog w A it [it, S] [it] es.size (fun i v => ((pickOrder (w.params.setOrder S ep) es).toList.map (fun e => e.2))[i]? = some v) (fun i h => SitF h it S (rawInt ((0 : Nat) : Int)) (i : Int) es.size ep ∧ h.get? S = some o) where
  sub := fun b hb => by simp at hb; simp [hb]
  frame := fun i h h' x hk => ⟨x.1.at_ fun o e => hk it (by simp) o e, hk S (by simp) o x.2⟩
  item := fun i s Q E hi x hQ => by
    obtain ⟨h2, h3⟩ := x
    have hpl : (pickOrder (w.params.setOrder S ep) es).size = es.size := by
      have := (pick_perm (w.params.setOrder S ep) es.size 0 es.toList #[] (by simp)).length_eq
      simpa [pickOrder] using this
    have e1 : (pickOrder (w.params.setOrder S ep) es)[i]? = some ((pickOrder (w.params.setOrder S ep) es)[i]'(by omega)) := by simp [hpl, hi]
    refine sitF_item h2 h3 hd hf (x := ((pickOrder (w.params.setOrder S ep) es)[i]'(by omega)).2) (nx := 0) (fun A E Q q => next_text h3 hd hf hw (by rw [e1]; exact q)) fun h' st' sb => ?_
    refine hQ _ h' s.toks ?_ ⟨st', (sb.2 S hne).trans h3⟩ fun b o hb e => sb.extBut b o (fun h => hb (by simp [h])) e
    simp [hi, hpl]
  done := fun s Q E x hQ => by
    obtain ⟨h2, h3⟩ := x
    have hpl : (pickOrder (w.params.setOrder S ep) es).size = es.size := by
      have := (pick_perm (w.params.setOrder S ep) es.size 0 es.toList #[] (by simp)).length_eq
      simpa [pickOrder] using this
    refine sitF_end hh h2 h3 hd hf (fun A E Q q => next_text h3 hd hf hw (by rw [show (pickOrder (w.params.setOrder S ep) es)[es.size]? = none by simp [hpl]]; exact q)) fun h' eb => ?_
    exact hQ h' s.toks fun b o hb e => eb b o (fun h => hb (by simp [h])) e
  self := fun i s Q E x hQ => sit_self x.1 hQ
theorem walks_drawn (hh : A.handled = none) {it S tp : Addr} (hne : S ≠ it) (hne2 : tp ≠ it) {o ot : Obj} {es : Array (Int × Value)} {ep c : Nat} {t : SetTable} (hd : o.data = .set es ep t) (hf : t.fits es.size = true) {ys : List Nat} (hy : ys.Perm (List.range es.size)) (htd : ot.data = .seq (ys.map fun (i : Nat) => rawInt i).toArray c) :
    Walks prog w A it [it, S, tp] [it] es.size (fun i v => (ys.map fun j => (es.getD j (0, .none)).2)[i]? = some v) (fun i h => SitF h it S (.ref tp) (i : Int) es.size ep ∧ h.get? S = some o ∧ h.get? tp = some ot) where
  sub := fun b hb => by simp at hb; simp [hb]
  frame := fun i h h' x hk => ⟨x.1.at_ fun o e => hk it (by simp) o e, hk S (by simp) o x.2.1, hk tp (by simp) ot x.2.2⟩
  item := fun i s Q E hi x hQ => by
    obtain ⟨h2, h3, h4⟩ := x
    have hyl : ys.length = es.size := by rw [hy.length_eq]; simp
    have hlt : ys[i]'(by omega) < es.size := List.mem_range.mp (hy.mem_iff.mp (List.getElem_mem _))
    have e1 : (ys.map fun (i : Nat) => rawInt i).toArray[i]? = some (.int ((ys[i]'(by omega) : Nat) : Int) 0) := by simp [hyl, hi, rawInt]
    refine sitD_item h2 h3 hd hf h4 htd e1 (hx := (es[ys[i]'(by omega)]'hlt).1) (x := (es[ys[i]'(by omega)]'hlt).2) (by simp [hlt]) fun h' st' sb => ?_
    refine hQ _ h' s.toks ?_ ⟨st', (sb.2 S hne).trans h3, (sb.2 tp hne2).trans h4⟩ fun b o hb e => sb.extBut b o (fun h => hb (by simp [h])) e
    simp [hyl, hi, Array.getD, hlt]
  done := fun s Q E x hQ => by
    obtain ⟨h2, h3, h4⟩ := x
    have hyl : ys.length = es.size := by rw [hy.length_eq]; simp
    refine sitD_end hh h2 h3 hd hf h4 htd (by simp [hyl]) fun h' eb => ?_
    exact hQ h' s.toks fun b o hb e => eb b o (fun h => hb (by simp [h])) e
  self := fun i s Q E x hQ => sit_self x.1 hQ
end
end L2

set_option Elab.async false
set_option linter.all false
set_option maxRecDepth 100000
set_option maxHeartbeats 4000000
namespace L2
open PySem PySem.Spec PyProof.Rows
theorem set_len : typeLookup (.type "set") "__len__" = pure (some (.builtin "set.__len__")) := by rw [typeLookup_type, builtinLookup_eq_fast]; kernel_rfl
section
variable {prog : Program} {w : World} {A : Around} {E : Value → Shared → Prop} {s : Shared}
theorem collect_set {Good : List Value → Prop} {S : Addr} {Q : List Value → Shared → Prop} (hT : s.TypeIs (.ref S) "set")
    (hit : ∀ (s₁ : Shared) (K : Value → Shared → Prop) (E : Value → Shared → Prop), s₁ = { s with heap := s.heap.push { cls := .type "list", data := .seq ([] : List Value).toArray } } →
      (∀ (I : Addr) (fp wr : List Addr) (n : Nat) (P : Nat → Value → Prop) (St : Nat → Heap → Prop) (s₂ : Shared), Walks prog w A.in1 I fp wr n P St → St 0 s₂.heap → s.heap.objs.size ∉ fp → (∀ b ∈ wr, s.heap.objs.size < b) → (∀ b o, s₁.heap.get? b = some o → s₂.heap.get? b = some o) →
        s₂.gens = s₁.gens → s₂.os = s₁.os → n ≤ sizeLine → (∀ acc : Array Value, ItemsOf P acc n → Good acc.toList) → K (.ref I) s₂) → wpAny (model prog w) A.in1 (pyIter (.ref S)) K E s₁)
    (hQ : ∀ vs s', Good vs → (∀ b o, s.heap.get? b = some o → s'.heap.get? b = some o) → s.heap.objs.size < s'.heap.objs.size → s'.gens = s.gens → s'.os = s.os → Q vs s') : wpAny (model prog w) A (collect (.ref S)) Q E s := by
  obtain ⟨o, ho, hc⟩ := id hT
  have hSI : s.heap.objs.size ≠ S := (Nat.ne_of_lt (Heap.lt_size ho)).symm
  unfold collect
  refine wpAny_bind (wpAny_runValue (codeAny_builtin F.entry_proto_collect ?_))
  rw [Around.under_plainId F.plain_proto_collect _]
  show wpAny _ A.in1 (newList [] >>= fun l => again (.builtin "list.__iadd__" ⟨[l, .ref S], []⟩)) _ _ s
  refine wpAny_bind (wpAny_newObj_type ?_)
  refine wpAny_pure ⟨plainId_quiet F.plain_list_iadd _, codeAny_builtin F.entry_list_iadd ?_⟩
  rw [Around.under_plainId F.plain_list_iadd _]
  have hS₁ : (s.heap.push { cls := .type "list", data := .seq ([] : List Value).toArray }).get? s.heap.objs.size = some { cls := .type "list", data := .seq ([] : List Value).toArray } := Heap.get?_push_size _ rfl
  have h1 : Builtin.List.listSameRef (.ref s.heap.objs.size) (.ref S) = false := by simp [Builtin.List.listSameRef, hSI]
  show wpAny _ A.in1 (Builtin.List.listExtendWith (.ref s.heap.objs.size) (.ref S) (.ref s.heap.objs.size)) _ _ _
  unfold Builtin.List.listExtendWith
  refine wpAny_bind (wpAny_typeOf (T := "set") ⟨o, Heap.get?_push_of_some _ ho, hc⟩ ?_)
  rw [if_neg (by rw [h1]; decide)]
  refine wpAny_bind (hit _ _ _ rfl fun I fp wr n P St s₂ W hst hSf hwr hk hg hos hn hgood => ?_)
  have ho₂ : s₂.heap.get? S = some o := hk _ _ (Heap.get?_push_of_some _ ho)
  have hS₂ := hk _ _ hS₁
  have hT₂ : s₂.TypeIs (.ref S) "set" := ⟨o, ho₂, hc⟩
  refine wpAny_bind (wpAny_holding ?_)
  unfold Builtin.List.listLengthHint
  refine wpAny_bind (wpAny_specialOf hT₂ set_len ?_)
  generalize hid : ("set.__len__" : String) = id0
  wp_delta
  rw [show splitId id0 = some ("set", "__len__") from by subst hid; decide +kernel]
  subst hid
  refine wpAny_bind (wpAny_isInstance (b := true) hT₂ (by rw [isSubtype_type]; kernel_rfl) ?_)
  rw [if_neg (by decide)]
  rw [if_pos (by decide +kernel)]
  refine wpAny_bind (wpAny_typeOf (T := "set") hT₂ ?_)
  refine wpAny_pure ?_
  dsimp only
  rw [if_pos (by decide +kernel)]
  refine wpAny_bind (wpAny_rule ?_)
  unfold Builtin.List.listTouch
  refine wpAny_bind (wpAny_bind (listUpdate_at (xs := #[]) (n := 0) hS₂ rfl ?_ (by simp) (by simp)))
  have hS₃ := get?_update_seq (c := "list") (xs := #[]) (n := 0) hS₂ (·.push .none)
  refine listUpdate_at hS₃ rfl ?_ (by simp [sizeLine_eq]) (by simp)
  have hS₄ := get?_update_seq (c := "list") hS₃ (·.pop)
  refine wpAny_pure ⟨plainId_quiet F.plain_extend_loop _, ?_⟩
  have oth : ∀ b o, b ≠ s.heap.objs.size → s₂.heap.get? b = some o → ((s₂.heap.update s.heap.objs.size (Obj.mapSeq (·.push .none))).update s.heap.objs.size (Obj.mapSeq (·.pop))).get? b = some o := fun b o hb e => by
    rw [Heap.get?_update_other _ _ (Ne.symm hb), Heap.get?_update_other _ _ (Ne.symm hb)]
    exact e
  refine codeAny_extend_loopS W.toS hn _ hSf _ n 0 _ _ _ rfl (Nat.zero_le _) (W.frame 0 _ _ hst fun b hb o e => oth b o (fun z => hSf (z ▸ hb)) e) hS₄ (ItemsOf.nil P) fun s' acc' c' hm hS' hacc => ?_
  show wpAny _ A (load s.heap.objs.size >>= _) _ _ s'
  refine wpAny_bind (wpAny_load hS' ?_)
  refine wpAny_pure (hQ _ s' (hgood acc' hacc) (fun b o e => ?_) (Heap.lt_size hS') ?_ ?_)
  · have hlt := Heap.lt_size e
    refine hm.heap b o (fun z => ?_) (oth b o (Nat.ne_of_lt hlt) (hk _ _ (Heap.get?_push_of_some _ e)))
    rcases List.mem_cons.mp z with z | z
    · exact absurd z (Nat.ne_of_lt hlt)
    · exact absurd (hwr b z) (Nat.not_lt.mpr (Nat.le_of_lt hlt))
  · exact hm.gens.trans hg
  · exact hm.os.trans hos
theorem items_eq {L : List Value} {n : Nat} (hl : L.length = n) {acc : Array Value} (h : ItemsOf (fun i v => L[i]? = some v) acc n) : acc.toList = L := by
  refine List.ext_getElem (by rw [Array.length_toList, h.1, hl]) fun i h1 h2 => ?_
  have h1' : i < acc.size := by simpa using h1
  have h3 : L[i]? = some acc[i] := h.2 i _ (Array.getElem?_eq_getElem h1')
  rw [Array.getElem_toList]
  exact (List.getElem?_eq_some_iff.mp h3).2.symm
theorem ints_all : ∀ {vs : List Value}, (∀ v ∈ vs, ∃ n t, v = Value.int n t) → ∃ ns, IntsAre vs ns
  | [], _ => ⟨[], .nil⟩
  | v :: r, h => by
    obtain ⟨n, t, rfl⟩ := h v List.mem_cons_self
    obtain ⟨ns, hn⟩ := ints_all fun v hv => h v (List.mem_cons_of_mem _ hv)
    exact ⟨n :: ns, .cons n t hn⟩
theorem ints_mem {vs : List Value} {ns : List Int} (h : IntsAre vs ns) {k : Int} {t : Tok} (hm : Value.int k t ∈ vs) : k ∈ ns := by
  obtain ⟨i, hi⟩ := List.getElem?_of_mem hm
  obtain ⟨n, t', e, hn⟩ := h.at i _ hi
  cases e
  exact List.mem_of_getElem? hn
theorem perm_of_sub : ∀ {ks ns : List Int}, ks.Nodup → (∀ k ∈ ks, k ∈ ns) → ns.length = ks.length → ns.Perm ks
  | [], ns, _, _, hl => by
    have : ns = [] := List.length_eq_zero_iff.mp hl
    subst this
    exact List.Perm.refl _
  | k :: ks, ns, hn, hs, hl => by
    have hk := hs k List.mem_cons_self
    have hp := List.perm_cons_erase hk
    obtain ⟨hn1, hn2⟩ := List.nodup_cons.mp hn
    refine hp.trans ((perm_of_sub hn2 (fun z hz => ?_) ?_).cons k)
    · exact (List.mem_erase_of_ne (fun (e : z = k) => hn1 (by rw [← e]; exact hz))).mpr (hs z (List.mem_cons_of_mem _ hz))
    · rw [List.length_erase_of_mem hk, hl]
      simp
theorem good_perm {es : Array (Int × Value)} {ks : List Int} (hel : ElemsOf (intKind prog w) es.toList) (hmem : ∀ k : Int, (ks.any (· == k)) = true ↔ ∃ e ∈ es.toList, (intKind prog w).is k e.2 = true) (hn : es.size = ks.length) (hnd : ks.Nodup) {vs : List Value} (hp : vs.Perm (es.toList.map fun e => e.2)) :
    ∃ ns, IntsAre vs ns ∧ ns.Perm ks := by
  obtain ⟨ns, h1⟩ := ints_all (vs := vs) fun v hv => by
    obtain ⟨e, he, rfl⟩ := List.mem_map.mp (hp.mem_iff.mp hv)
    obtain ⟨⟨k, hk, _⟩, _⟩ := hel e he
    obtain ⟨t, e2⟩ := Value.isInt_shape (k := k) (v := e.2) hk
    exact ⟨k, t, e2⟩
  refine ⟨ns, h1, perm_of_sub hnd (fun k hk => ?_) ?_⟩
  · obtain ⟨e, he, hi⟩ := (hmem k).mp (List.any_eq_true.mpr ⟨k, hk, by simp⟩)
    obtain ⟨t, e2⟩ := Value.isInt_shape (k := k) (v := e.2) hi
    refine ints_mem h1 (k := k) (t := t) (hp.mem_iff.mpr ?_)
    rw [← e2]
    exact List.mem_map.mpr ⟨e, he, rfl⟩
  · rw [← h1.length, hp.length_eq, List.length_map, Array.length_toList, hn]
theorem sorted_set {S : Addr} {ks : List Int} {Q : Value → Shared → Prop} (hh : A.handled = none) (hI : IntSet prog w (!w.params.followText "set-order") s.heap S ks) (hnd : ks.Nodup) (h64 : ks.length < 64)
    (h : ∀ (s' : Shared) (L : Addr) (out : List Value) (ms : List Int) (e : Nat), IntsAre out ms → ms.Perm ks → ms.Pairwise (· ≤ ·) → (∀ b o, s.heap.get? b = some o → s'.heap.get? b = some o) → s.heap.objs.size ≤ L → s'.heap.get? L = some (seqObj "list" out.toArray e) → s'.gens = s.gens → s'.os = s.os → Q (.ref L) s') :
    wpAny (model prog w) A (call (.builtin "sorted") [.ref S]) Q E s := by
  obtain ⟨⟨o, es, ep, t, ho, hex, hd, hel, hmem, hb, hf, hn⟩, o', es', ep', t', ho', hd', hi⟩ := hI
  rw [ho] at ho'
  cases ho'
  rw [hd] at hd'
  cases hd'
  have hSlt := Heap.lt_size ho
  have hz : es.size ≤ sizeLine := by rw [hn, sizeLine_eq]; omega
  have hps : ∀ {vs : List Value}, vs.Perm (es.toList.map fun e => e.2) → ∃ ns, IntsAre vs ns ∧ ns.Perm ks := fun hp => good_perm hel hmem hn hnd hp
  refine Calls.call_function_entry kind_sorted plain_sorted entry_sorted (args_sorted1 _) ?_
  unfold Builtin.«sorted»
  refine wpAny_bind (m := checkCount "sorted" 1 1 _) (wpAny_pure ?_)
  refine wpAny_bind (collect_set (Good := fun vs => ∃ ns, IntsAre vs ns ∧ ns.Perm ks) ⟨o, ho, hex.1⟩ (fun s₁ K E e₁ hK => ?_) fun vs s' hg hk hsz hgens hos => ?_)
  · subst e₁
    have ho1 : (s.heap.push { cls := .type "list", data := .seq ([] : List Value).toArray }).get? S = some o := Heap.get?_push_of_some _ ho
    have hsz1 : (s.heap.push { cls := .type "list", data := .seq ([] : List Value).toArray }).objs.size = s.heap.objs.size + 1 := Heap.size_push _ _
    refine iter_set ho1 hex.1 hd hf (fun hdr => ?_) (fun hdr ys d hy => ?_) hz
    · have hit : SitF ((s.heap.push { cls := .type "list", data := .seq ([] : List Value).toArray }).push (sitO (rawInt 0) S es.size ep)) (s.heap.push { cls := .type "list", data := .seq ([] : List Value).toArray }).objs.size S (rawInt ((0 : Nat) : Int)) ((0 : Nat) : Int) es.size ep := ⟨_, Heap.get?_push_size _ rfl, rfl, rfl⟩
      have hne : S ≠ (s.heap.push { cls := .type "list", data := .seq ([] : List Value).toArray }).objs.size := by rw [hsz1]; exact Nat.ne_of_lt (Nat.lt_succ_of_lt hSlt)
      have c1 : s.heap.objs.size ∉ [(s.heap.push { cls := .type "list", data := .seq ([] : List Value).toArray }).objs.size, S] := by
        rw [hsz1]
        intro z
        rcases List.mem_cons.mp z with z | z
        · exact absurd z (Nat.ne_of_lt (Nat.lt_succ_self _))
        · exact absurd (List.mem_singleton.mp z) (Nat.ne_of_gt hSlt)
      have c2 : ∀ b ∈ [(s.heap.push { cls := .type "list", data := .seq ([] : List Value).toArray }).objs.size], s.heap.objs.size < b := fun b hb => by
        rw [List.mem_singleton.mp hb, hsz1]
        exact Nat.lt_succ_self _
      cases hw : w.params.followText "set-order" with
      | true =>
        refine hK _ _ _ _ _ _ _ (walks_text (A := A.in1.in1) hh hne hd hf hw) ⟨hit, Heap.get?_push_of_some _ ho1⟩ c1 c2 (fun b o e => Heap.get?_push_of_some _ e) rfl rfl hz fun acc hacc => ?_
        have hpp := pick_perm (w.params.setOrder S ep) es.size 0 es.toList #[] (by simp)
        have hpl : (pickOrder (w.params.setOrder S ep) es).toList.Perm es.toList := by simpa [pickOrder] using hpp
        rw [items_eq (by rw [List.length_map, hpl.length_eq, Array.length_toList]) hacc]
        exact hps (hpl.map _)
      | false =>
        have hl : t.led = true := by rw [hi.led_, hw]; rfl
        rw [hw] at hdr
        refine hK _ _ _ _ _ _ _ (walks_led (A := A.in1.in1) hh hne hd hf hl hw (by simpa using hdr) hi.rise) ⟨⟨0, below_zero hi.rise, hit⟩, Heap.get?_push_of_some _ ho1⟩ c1 c2 (fun b o e => Heap.get?_push_of_some _ e) rfl rfl hz fun acc hacc => ?_
        rw [items_eq (by simp) hacc]
        exact hps (List.Perm.refl _)
    · rw [hsz1]
      generalize hh1 : s.heap.push { cls := .type "list", data := .seq ([] : List Value).toArray } = h1 at *
      have hsz2 : (h1.push { cls := .type "tuple", data := .seq (ys.map fun (i : Nat) => rawInt i).toArray }).objs.size = s.heap.objs.size + 1 + 1 := by rw [Heap.size_push, hsz1]
      have g1 : ((h1.push { cls := .type "tuple", data := .seq (ys.map fun (i : Nat) => rawInt i).toArray }).push (sitO (.ref (s.heap.objs.size + 1)) S es.size ep)).get? (s.heap.objs.size + 1 + 1) = some (sitO (.ref (s.heap.objs.size + 1)) S es.size ep) := by
        rw [← hsz2]
        exact Heap.get?_push_size _ rfl
      have g2 : ((h1.push { cls := .type "tuple", data := .seq (ys.map fun (i : Nat) => rawInt i).toArray }).push (sitO (.ref (s.heap.objs.size + 1)) S es.size ep)).get? (s.heap.objs.size + 1) = some { cls := .type "tuple", data := .seq (ys.map fun (i : Nat) => rawInt i).toArray } := by
        refine Heap.get?_push_of_some _ ?_
        rw [← hsz1]
        exact Heap.get?_push_size _ rfl
      refine hK (s.heap.objs.size + 1 + 1) _ _ _ _ _ _ (walks_drawn (A := A.in1.in1) (it := s.heap.objs.size + 1 + 1) (tp := s.heap.objs.size + 1) hh (Nat.ne_of_lt (Nat.lt_succ_of_lt (Nat.lt_succ_of_lt hSlt))) (Nat.ne_of_lt (Nat.lt_succ_self _)) hd hf hy rfl) ⟨⟨_, g1, rfl, rfl⟩, Heap.get?_push_of_some _ (Heap.get?_push_of_some _ ho1), g2⟩ (fun z => by
        rcases List.mem_cons.mp z with z | z
        · exact absurd z (Nat.ne_of_lt (Nat.lt_succ_of_lt (Nat.lt_succ_self _)))
        rcases List.mem_cons.mp z with z | z
        · exact absurd z (Nat.ne_of_gt hSlt)
        · exact absurd (List.mem_singleton.mp z) (Nat.ne_of_lt (Nat.lt_succ_self _))) (fun b hb => by rw [List.mem_singleton.mp hb]; exact Nat.lt_succ_of_lt (Nat.lt_succ_self _)) (fun b o e => Heap.get?_push_of_some _ (Heap.get?_push_of_some _ e)) rfl rfl hz fun acc hacc => ?_
      have hyl : ys.length = es.size := by rw [hy.length_eq]; simp
      rw [items_eq (by simp [hyl]) hacc]
      refine hps ((hy.map _).trans ?_)
      have : (List.range es.size).map (fun j => (es.getD j (0, .none)).2) = es.toList.map fun e => e.2 := by
        refine List.ext_getElem (by simp) fun i z1 z2 => ?_
        have hi : i < es.size := by simpa using z1
        simp [Array.getD, hi]
      rw [this]
  · obtain ⟨ns, hns, hpm⟩ := hg
    have hvl : vs.length < 64 := by rw [hns.length, hpm.length_eq]; exact h64
    refine wpAny_bind (wpAny_newList ?_)
    have hoL : (s'.heap.push (seqObj "list" vs.toArray 0)).get? s'.heap.objs.size = some (seqObj "list" vs.toArray 0) := Heap.get?_push_size _ rfl
    refine wpAny_bind (wpAny_holding (wpAny_call_entry slot_list_sort ⟨_, hoL, rfl⟩ entry_list_sort (list_sort_tree hoL hns hvl fun out ms a1 a2 a3 => ⟨_, rfl, ?_⟩) (args_list_sort _)))
    obtain ⟨e, he⟩ := sortedHeap_at (out := out) (vs := vs) hoL
    refine wpAny_pure ⟨_, rfl, h _ s'.heap.objs.size out.toList ms e a1 (a2.trans hpm) a3 (fun b o eb => ?_) (Nat.le_of_lt hsz) (by rw [Array.toArray_toList]; exact he) hgens hos⟩
    have eb' := hk b o eb
    have hlt := Heap.lt_size eb'
    rw [sortedHeap_old (Nat.ne_of_lt hlt) (by rw [size_push']; exact Nat.lt_succ_of_lt hlt)]
    exact Heap.get?_push_of_some _ eb'
end
end L2

set_option Elab.async false
set_option linter.all false
set_option maxRecDepth 100000
set_option maxHeartbeats 4000000
namespace L2
open PySem PySem.Spec PyProof.Rows
theorem Inv.like {X : Cx} {pins : List (Addr × Obj)} {σ : St} {H : Hp} {s s' : Shared} (I : Inv X pins σ H s) (h1 : s'.heap = s.heap) (h2 : s'.gens = s.gens) (h3 : s'.os = s.os) : Inv X pins σ H s' := by
  obtain ⟨hp, gs, dr, tk, os⟩ := s'
  have e1 : hp = s.heap := h1
  have e2 : gs = s.gens := h2
  have e3 : os = s.os := h3
  subst e1 e2 e3
  exact ⟨I.ok, I.os, I.bare, I.base, I.loc, I.cell, I.free, I.freeC, I.pin, I.hok, I.len⟩
theorem ints_back : ∀ {ns : List Int} {its : List Value}, Vals (ns.map V.int) its → IntsAre its ns
  | [], _, .nil => .nil
  | n :: r, _, .cons h t => by
    obtain ⟨tk, rfl⟩ := h
    exact .cons n tk (ints_back t)
theorem ints_vals : ∀ {ns : List Int} {its : List Value}, IntsAre its ns → Vals (ns.map V.int) its
  | _, _, .nil => .nil
  | _, _, .cons n tk t => .cons ⟨tk, rfl⟩ (ints_vals t)
theorem firstMet_nodup (val : Nat → Int) : ∀ i, (firstMet val i).Nodup
  | 0 => by rw [firstMet_zero]; exact List.nodup_nil
  | i + 1 => by
    rw [firstMet_succ]
    unfold step_dedup
    have ih := firstMet_nodup val i
    split
    · exact ih
    · rename_i hn
      rw [List.nodup_append]
      refine ⟨ih, by simp, fun a ha b hb => ?_⟩
      have hb' : b = val i := by simpa using hb
      subst hb'
      intro e
      subst e
      exact hn (List.any_eq_true.mpr ⟨_, ha, by simp⟩)
theorem firstMet_mem {ns : List Int} {k : Int} : k ∈ firstMet (fun i => ns.getD i 0) ns.length ↔ k ∈ ns := by
  have h := firstMet_any (fun i => ns.getD i 0) ns.length k
  have e : (List.range ns.length).map (fun i => ns.getD i 0) = ns := by
    refine List.ext_getElem (by simp) fun i h1 h2 => ?_
    simp [List.getD, h2]
  rw [e] at h
  have h1 : ∀ l : List Int, (l.any (· == k)) = true ↔ k ∈ l := fun l => by simp [List.any_eq_true]
  rw [← h1, ← h1, h]
theorem rise_strict : ∀ {ms : List Int}, ms.Pairwise (· ≤ ·) → ms.Nodup → ms.Pairwise (· < ·)
  | [], _, _ => .nil
  | m :: r, h1, h2 => by
    obtain ⟨a1, a2⟩ := List.pairwise_cons.mp h1
    obtain ⟨b1, b2⟩ := List.nodup_cons.mp h2
    refine List.pairwise_cons.mpr ⟨fun z hz => ?_, rise_strict a2 b2⟩
    have h3 := a1 z hz
    have h4 : m ≠ z := fun e => b1 (e ▸ hz)
    omega
def tSortSet (K : PySem.W.Frag) (t : TE) : TE := fun σ H Q => t σ H fun x H1 => ∃ (a : Addr) (ns : List Int), x = .ref a ∧ SqL K H1 a (ns.map V.int) ∧ ns.length < 64 ∧ ∀ (l : Addr) (ms : List Int) (H' : Hp), New H1 l (.lst (ms.map V.int)) H' → ms.Pairwise (· < ·) → (∀ z, z ∈ ms ↔ z ∈ ns) → Q (.ref l) H'
theorem pe_sortedSet {X : Cx} {K : PySem.W.Frag} {e : Expr} {t : TE} {p p' pos pos' : Pos} (hK : X.K = K) (hc : X.calm = true) (hgl : Gl X "sorted") (hml : X.mg "sorted" = none) (hgr : Gl X "set") (hmr : X.mg "set" = none) (ha : PE X e t)
    (he : starEach [e] X.env = (false, eval e X.env) :: starEach [] X.env := by rfl) : PE X (.Call (.Name "sorted" p) [.Call (.Name "set" p') [e] [] pos'] [] pos) (tSortSet K t) := by
  subst hK
  intro pins s σ H Q I h
  refine wpAny_Call_Name_kw (ld_blt I hgl hml (u := .builtin "sorted") (by decide +kernel) ?_ (by decide) (by decide))
  refine PyProof.Rows.callWith_builtin1 ?_ rfl rfl
  show wpAny _ _ (spliced ((false, eval _ X.env) :: backTo pos (starEach [] X.env))) _ _ s
  refine Calls.spliced_cons ?_
  refine wpAny_Call_Name_kw (ld_blt I hgr hmr (u := .type "set") (by decide +kernel) ?_ (by decide) (by decide))
  refine PyProof.Rows.callWith_type1 ?_ he rfl
  rw [he]
  show wpAny _ _ (spliced ((false, eval e X.env) :: backTo pos' (starEach [] X.env))) _ _ s
  refine Calls.spliced_cons (thn (ha pins s σ H _ I h) fun u s1 ⟨x, H1, I1, r1, a, ns, e1, h1, h64, q1⟩ => ?_)
  subst e1
  cases r1
  refine Calls.spliced_nil ?_
  obtain ⟨its, rv, pl, hz⟩ := I1.list h1
  have hl : its.length = ns.length := by rw [← rv.length, List.length_map]
  have hsz : its.toArray.size = ns.length := by rw [List.size_toArray, hl]
  have hhd : X.A.handled = none := I1.ok.hd hc
  refine call_set_led (ns := ns) hhd pl.isList (by simpa using ints_back rv) (by rw [hsz]; show _ < 4096; omega) fun h' tk hS hk => ?_
  rw [hsz] at hS
  have hk' : ∀ b o, s1.heap.get? b = some o → h'.get? b = some o := fun b o e => hk b o (Heap.lt_size e) e
  have hlt : s1.heap.objs.size < h'.objs.size := by
    obtain ⟨⟨o, es, ep, t, ho, _⟩, _⟩ := hS
    exact Heap.lt_size ho
  refine Calls.spliced_nil ?_
  refine sorted_set (s := { s1 with heap := h', toks := tk }) hhd hS (firstMet_nodup _ _) (Nat.lt_of_le_of_lt (firstMet_length_le _ _) h64) fun s' L out ms ee hi hp hr hk2 hL hgL hg hos => ?_
  have hk3 : ∀ b o, s1.heap.get? b = some o → s'.heap.get? b = some o := fun b o e => hk2 b o (hk' b o e)
  have hml : ms.length ≤ sizeLine := by
    rw [hp.length_eq, sizeLine_eq]
    have := firstMet_length_le (fun i => ns.getD i 0) ns.length
    omega
  have I2 : Inv X pins σ (upd H1 L (.lst (ms.map V.int))) { s1 with heap := s'.heap, toks := s'.toks } := I1.laid (t' := s'.toks) (o := .lst (ms.map V.int)) hk3 (Nat.le_trans (Nat.le_of_lt hlt) hL) ⟨by rw [List.length_map]; exact hml, out, ee, ints_vals hi, hgL⟩
  refine ⟨.ref L, _, I2.like rfl hg hos, rfl, q1 L ms _ (new_upd (I1.hok.fresh (Nat.le_trans (Nat.le_of_lt hlt) hL))) (rise_strict hr (hp.nodup_iff.mpr (firstMet_nodup _ _))) fun z => ?_⟩
  rw [hp.mem_iff, firstMet_mem]
end L2

set_option Elab.async false
set_option linter.all false
set_option maxRecDepth 100000
set_option maxHeartbeats 4000000
namespace L2
open PySem PySem.Spec PyProof.Rows BW
theorem pe_either {X : Cx} {e : Expr} {t1 t2 : TE} (h1 : PE X e t1) (h2 : PE X e t2) : PE X e (fun σ H Q => t1 σ H Q ∨ t2 σ H Q) := by
  intro pins s σ H Q I h
  rcases h with h | h
  · exact h1 pins s σ H Q I h
  · exact h2 pins s σ H Q I h
/-- isinstance of a class of one's own -/
def rIsO (K : PySem.W.Frag) : List V → Hp → VK → Prop := fun xs H Q => ∃ x D t b, xs = [x, .ref D] ∧ TyOf K H x t ∧ PySem.W.kitOne K t (.ref D) = some b ∧ Q (.bl b) H
theorem call_isOK {X : Cx} {K : PySem.W.Frag} (h : X.K = K) : CallR X (.builtin "isinstance") (rIsO K) := by
  subst h
  intro pins s σ H xs us Q I r h
  obtain ⟨x, D, t, b, rfl, ty, e, q⟩ := h
  obtain ⟨u, u2, rfl, ru, r2⟩ := vals2 r
  have e2 : u2 = Value.ref D := r2
  subst e2
  exact isinst_ok I ru ty e fun tk => ⟨.bl b, H, I.tok tk, rfl, q⟩
def IsRise (ms ns : List Int) : Prop := ms.Pairwise (· < ·) ∧ ∀ z, z ∈ ms ↔ z ∈ ns
theorem rise_eq : ∀ {a b : List Int}, a.Pairwise (· < ·) → b.Pairwise (· < ·) → (∀ z, z ∈ a ↔ z ∈ b) → a = b
  | [], [], _, _, _ => rfl
  | [], y :: b, _, _, h => by have := (h y).mpr List.mem_cons_self; cases this
  | x :: a, [], _, _, h => by have := (h x).mp List.mem_cons_self; cases this
  | x :: a, y :: b, ha, hb, h => by
    obtain ⟨a1, a2⟩ := List.pairwise_cons.mp ha
    obtain ⟨b1, b2⟩ := List.pairwise_cons.mp hb
    have hxy : x = y := by
      rcases List.mem_cons.mp ((h x).mp List.mem_cons_self) with e | e
      · exact e
      · rcases List.mem_cons.mp ((h y).mpr List.mem_cons_self) with e' | e'
        · exact e'.symm
        · have h1 := b1 x e
          have h2 := a1 y e'
          omega
    subst hxy
    congr 1
    refine rise_eq a2 b2 fun z => ?_
    have hz := h z
    constructor
    · intro hm
      have hlt := a1 z hm
      rcases List.mem_cons.mp (hz.mp (List.mem_cons_of_mem _ hm)) with e | e
      · omega
      · exact e
    · intro hm
      have hlt := b1 z hm
      rcases List.mem_cons.mp (hz.mpr (List.mem_cons_of_mem _ hm)) with e | e
      · omega
      · exact e
theorem IsRise.eq {a b ns : List Int} (h1 : IsRise a ns) (h2 : IsRise b ns) : a = b := rise_eq h1.1 h2.1 fun z => (h1.2 z).trans (h2.2 z).symm
theorem rise_len : ∀ {ms ns : List Int}, ms.Nodup → (∀ z ∈ ms, z ∈ ns) → ms.length ≤ ns.length
  | [], ns, _, _ => Nat.zero_le _
  | m :: r, ns, hn, hs => by
    obtain ⟨n1, n2⟩ := List.nodup_cons.mp hn
    have hm := hs m List.mem_cons_self
    have := rise_len (ms := r) (ns := ns.erase m) n2 fun z hz => (List.mem_erase_of_ne (fun (e : z = m) => n1 (by rw [← e]; exact hz))).mpr (hs z (List.mem_cons_of_mem _ hz))
    rw [List.length_erase_of_mem hm] at this
    have hp : 0 < ns.length := List.length_pos_of_mem hm
    simp
    omega
theorem IsRise.len {ms ns : List Int} (h : IsRise ms ns) : ms.length ≤ ns.length := rise_len (h.1.imp fun z => Int.ne_of_lt z) fun z hz => (h.2 z).mp hz
structure AimCls (K : PySem.W.Frag) (mg : Str → Option Value) (C : Addr) (x : Str) : Prop where
  mgC : mg x = some (.ref C)
  cl : Cls K C
  mks : PySem.W.makesIn K C = true
  kp : PySem.W.keepIn K (.ref C) = true
  nH : NoAttr K C "house"
  nW : NoAttr K C "way"
structure ACls (K : PySem.W.Frag) (C : Addr) : Prop where
  cl : Cls K C
  nH : NoAttr K C "house"
  nW : NoAttr K C "way"
theorem AimCls.a {K : PySem.W.Frag} {mg : Str → Option Value} {C : Addr} {x : Str} (h : AimCls K mg C x) : ACls K C := ⟨h.cl, h.nH, h.nW⟩
def aflds (h w : Addr) : List (Str × V) := putF "way" (.ref w) (putF "house" (.ref h) [])
theorem as1 : ¬ (("house" : Str) = "way") := by decide +kernel
theorem af_house (h w : Addr) : (aflds h w).lookup ("house" : Str) = some (.ref h) := by
  unfold aflds
  rw [lookup_putF, if_neg as1, lookup_putF, if_pos rfl]
theorem af_way (h w : Addr) : (aflds h w).lookup ("way" : Str) = some (.ref w) := by
  unfold aflds
  rw [lookup_putF, if_pos rfl]
theorem af_no (h w : Addr) {m : Str} (h1 : ¬ m = "way") (h2 : ¬ m = "house") : (aflds h w).lookup m = none := by
  unfold aflds
  rw [lookup_putF, if_neg h1, lookup_putF, if_neg h2]
  rfl
/-- an aim of the class C stands at p -/
structure AimAt (CH C : Addr) (H : Hp) (p : Addr) (beds : List Int) (worths : List (List Int)) (rent : Int) (way : List Nat) : Prop where
  ex : ∃ dx hp wa, H p = some (.ins C dx (aflds hp wa)) ∧ HouseAt CH H hp beds worths rent ∧ H wa = some (.lst ((wI way).map V.int))
theorem AimAt.same {CH C : Addr} {H H' : Hp} {p : Addr} {beds : List Int} {worths : List (List Int)} {rent : Int} {way : List Nat} (h : AimAt CH C H p beds worths rent way) (s : Same H H') : AimAt CH C H' p beds worths rent way := by
  obtain ⟨dx, hp, wa, h1, h2, h3⟩ := h.ex
  exact ⟨dx, hp, wa, s _ _ h1, h2.same s, s _ _ h3⟩
/-- what an aim keeps to -/
structure AimOk (beds : List Int) (worths : List (List Int)) (way : List Nat) : Prop where
  bok : BestOk beds worths
  len : way.length = worths.length
  lt : ∀ r ∈ way, r < beds.length
theorem AimOk.at_ {beds : List Int} {worths : List (List Int)} {way : List Nat} (h : AimOk beds worths way) {i : Nat} (hi : i < worths.length) : way[i]? = some (way.getD i 0) ∧ way.getD i 0 < beds.length := by
  have hi' : i < way.length := by rw [h.len]; exact hi
  have e : way.getD i 0 = way[i] := by simp [List.getD, hi']
  rw [e]
  exact ⟨by simp [hi'], h.lt _ (List.getElem_mem hi')⟩
def ownF (worths : List (List Int)) (way : List Nat) (i : Nat) : Int := wF worths i (way.getD i 0)
def gainF (wo : Bool) (worths : List (List Int)) (way : List Nat) (a r b : Nat) : Int := wF worths (if wo then b else a) r - ownF worths way a
def thruL (wo : Bool) (beds : List Int) (way : List Nat) (a b : Nat) : List Int := openL beds (wI way) ++ [((way.getD (if wo then a else b) 0 : Nat) : Int)]
def sp_ainit (CH C : Addr) : Sp := fun vs H Q _ => ∃ (p dx hp wa : Addr) (beds : List Int) (worths : List (List Int)) (rent : Int) (way : List Nat), vs = [.ref p, .ref hp, .ref wa] ∧ H p = some (.ins C dx []) ∧ HouseAt CH H hp beds worths rent ∧ H wa = some (.lst ((wI way).map V.int)) ∧
  ∀ (l : Addr) (H' : Hp), H l = none → H' p = some (.ins C dx (aflds hp l)) → H' l = some (.lst ((wI way).map V.int)) → (∀ c o, H c = some o → c ≠ p → H' c = some o) → Q .non H'
def sp_withopen (K : PySem.W.Frag) (CH : Addr) : Sp := fun vs H Q _ => ∃ (C p : Addr) (beds : List Int) (worths : List (List Int)) (rent : Int) (way : List Nat) (r : Nat), vs = [.ref p, .int (r : Int)] ∧ ACls K C ∧ AimAt CH C H p beds worths rent way ∧ AimOk beds worths way ∧
  ∀ (l : Addr) (ms : List Int) (H' : Hp), Same H H' → H l = none → H' l = some (.lst (ms.map V.int)) → IsRise ms (openL beds (wI way) ++ [(r : Int)]) → Q (.ref l) H'
def sp_ownworth (K : PySem.W.Frag) (CH : Addr) : Sp := fun vs H Q _ => ∃ (C p : Addr) (beds : List Int) (worths : List (List Int)) (rent : Int) (way : List Nat) (i : Nat), vs = [.ref p, .int (i : Int)] ∧ ACls K C ∧ AimAt CH C H p beds worths rent way ∧ AimOk beds worths way ∧ i < worths.length ∧ Q (.int (ownF worths way i)) H
def sp_through (wo : Bool) (CH C : Addr) : Sp := fun vs H Q _ => ∃ (p : Addr) (beds : List Int) (worths : List (List Int)) (rent : Int) (way : List Nat) (a b : Nat), vs = [.ref p, .int (a : Int), .int (b : Int)] ∧ AimAt CH C H p beds worths rent way ∧ AimOk beds worths way ∧ a < worths.length ∧ b < worths.length ∧
  ∀ (l : Addr) (ms : List Int) (H' : Hp), Same H H' → H l = none → H' l = some (.lst (ms.map V.int)) → IsRise ms (thruL wo beds way a b) → Q (.ref l) H'
def sp_gain (wo : Bool) (CH C : Addr) : Sp := fun vs H Q _ => ∃ (p : Addr) (beds : List Int) (worths : List (List Int)) (rent : Int) (way : List Nat) (a r b : Nat), vs = [.ref p, .int (a : Int), .int (r : Int), .int (b : Int)] ∧ AimAt CH C H p beds worths rent way ∧ AimOk beds worths way ∧ a < worths.length ∧ r < beds.length ∧ b < worths.length ∧ Q (.int (gainF wo worths way a r b)) H
def sp_whole_ (wo : Bool) (CH C : Addr) : Sp := fun vs H Q _ => ∃ (p : Addr) (beds : List Int) (worths : List (List Int)) (rent : Int) (way : List Nat), vs = [.ref p] ∧ AimAt CH C H p beds worths rent way ∧ AimOk beds worths way ∧ ∀ H', Same H H' → Q (.int (if wo then wsum (wF worths) way - rent else rent)) H'
def sp_price (wo : Bool) (CH C : Addr) : Sp := fun vs H Q _ => ∃ (p : Addr) (beds : List Int) (worths : List (List Int)) (rent : Int) (way : List Nat) (i : Nat) (level parts : Int), vs = [.ref p, .int (i : Int), .int level, .int parts] ∧ AimAt CH C H p beds worths rent way ∧ AimOk beds worths way ∧ i < worths.length ∧ (∀ row ∈ worths, ∀ x ∈ row, -(10 ^ 42) < x ∧ x < 10 ^ 42) ∧ (-(10 ^ 200) < parts ∧ parts < 10 ^ 200) ∧
  Q (.int (if wo then parts * ownF worths way i - level else level)) H
/-- a plain one -/
def sp_aempty : Sp := fun vs H Q _ => ∃ x y z : V, vs = [x, y, z] ∧ ∀ l H', New H l (.lst []) H' → Q (.ref l) H'
def sp_azero4 : Sp := fun vs H Q _ => ∃ x y z u : V, vs = [x, y, z, u] ∧ Q (.int 0) H
def sp_azero1 : Sp := fun vs H Q _ => ∃ x : V, vs = [x] ∧ Q (.int 0) H
def sp_alevel : Sp := fun vs H Q _ => ∃ x y u : V, ∃ z : Int, vs = [x, y, .int z, u] ∧ Q (.int z) H
theorem worthL_wsum {worths : List (List Int)} {way : List Nat} (h : way.length = worths.length) : worthL worths (wI way) = wsum (wF worths) way := by
  unfold worthL wsum
  rw [h]
  congr 1
  refine List.map_congr_left fun i hi => ?_
  have hi := List.mem_range.mp hi
  simp [wI, wF, List.getD, h, hi]
end L2

set_option Elab.async false
set_option linter.all false
set_option maxRecDepth 100000
set_option maxHeartbeats 4000000
namespace L2
open PySem PySem.Spec PyProof.Rows BW
def wordS (wo : Bool) : Str := if wo then "worst" else "even"
theorem dec_word (wo : Bool) : decide (V.str (wordS wo) = V.str "worst") = wo := by
  cases wo
  · exact decide_eq_false (by intro e; injection e with e; revert e; decide +kernel)
  · exact decide_eq_true rfl
def CC (CW CE : Addr) (wo : Bool) : Addr := if wo then CW else CE
/-- isinstance(aim, D): what is to know of the aim's class -/
structure AimTy (K : PySem.W.Frag) (C D : Addr) : Prop where
  cl : Cls K C
  ha : PySem.W.findIn K (.ref C) "__class__" = some (some (.builtin "object.__class__"))
  hn : PySem.W.specialIn K (.builtin "object.__class__") "__get__" = some (some (.builtin "getset_descriptor.__get__"))
  htk : PySem.W.takesIn K (.builtin "object.__class__") = some true
  hm : PySem.W.mroIn K C (.type "object") = some true
  kit : PySem.W.kitOne K (.ref C) (.ref D) = some true
def sp_wayF (K : PySem.W.Frag) : Sp := fun vs H Q _ => ∃ (b : Addr) (beds : List Int) (p f : Int), vs = [.ref b, .int p, .int f] ∧ H b = some (.lst (beds.map V.int)) ∧ beds.length ≤ 10 ∧ (∀ x ∈ beds, 0 ≤ x) ∧ 0 ≤ p ∧ p ≤ beds.sum ∧ p ≤ 10 ∧
  ∀ (l : Addr) (way : List Nat) (H' : Hp), New H l (.lst ((wI way).map V.int)) H' → (way.length : Int) = p → Fit (bF beds) way → Q (.ref l) H'
def sp_spare (K : PySem.W.Frag) : Sp := fun vs H Q _ => ∃ (b a : Addr) (beds : List Int) (way : List Nat), vs = [.ref b, .ref a] ∧ H b = some (.lst (beds.map V.int)) ∧ beds.length ≤ 1000 ∧ H a = some (.lst ((wI way).map V.int)) ∧ ∀ l H', New H l (.lst ((openL beds (wI way)).map V.int)) H' → Q (.ref l) H'
def sp_copy (K : PySem.W.Frag) : Sp := fun vs H Q _ => ∃ (a : Addr) (rows : List (List Int)), vs = [.ref a] ∧ Mat H a rows ∧ rows.length ≤ 1000 ∧ ∀ (l : Addr) (H' : Hp), Same H H' → H l = none → Mat H' l rows → Q (.ref l) H'
def sp_wholesN : Sp := fun vs H Q _ => ∃ (a : Addr) (ns : List Int), vs = [.ref a, .int (ns.length : Int)] ∧ H a = some (.lst (ns.map V.int)) ∧ ns.length ≤ 1000 ∧ ∀ H', Same H H' → Q (.bl true) H'
def sp_lthrough : Sp := fun vs H Q _ => ∃ (wo : Bool) (sp wy : Addr) (beds : List Int) (way : List Nat) (a b : Nat), vs = [.str (wordS wo), .ref sp, .ref wy, .int (a : Int), .int (b : Int)] ∧ H sp = some (.lst ((openL beds (wI way)).map V.int)) ∧ H wy = some (.lst ((wI way).map V.int)) ∧ beds.length ≤ 10 ∧ a < way.length ∧ b < way.length ∧
  ∀ (l : Addr) (ms : List Int) (H' : Hp), Same H H' → H l = none → H' l = some (.lst (ms.map V.int)) → IsRise ms (thruL wo beds way a b) → Q (.ref l) H'
def sp_lgain : Sp := fun vs H Q _ => ∃ (wo : Bool) (w wy : Addr) (beds : List Int) (worths : List (List Int)) (way : List Nat) (a r b : Nat), vs = [.str (wordS wo), .ref w, .ref wy, .int (a : Int), .int (r : Int), .int (b : Int)] ∧ Mat H w worths ∧ H wy = some (.lst ((wI way).map V.int)) ∧ AimOk beds worths way ∧ a < worths.length ∧ r < beds.length ∧ b < worths.length ∧ Q (.int (gainF wo worths way a r b)) H
theorem thru_lt {wo : Bool} {beds : List Int} {worths : List (List Int)} {way : List Nat} {a b : Nat} (ok : AimOk beds worths way) (ha : a < worths.length) (hb : b < worths.length) {ms : List Int} (h : IsRise ms (thruL wo beds way a b)) : ∀ z ∈ ms, ∃ r : Nat, z = (r : Int) ∧ r < beds.length := fun z hz => by
  rcases List.mem_append.mp ((h.2 z).mp hz) with e | e
  · obtain ⟨r, hr, hlt, _⟩ := mem_open.mp e
    exact ⟨r, hr, hlt⟩
  · have e' : z = ((way.getD (if wo then a else b) 0 : Nat) : Int) := by simpa using e
    refine ⟨_, e', ?_⟩
    cases wo
    · exact (ok.at_ hb).2
    · exact (ok.at_ ha).2
theorem thru_len {wo : Bool} {beds : List Int} {way : List Nat} {a b : Nat} {ms : List Int} (h : IsRise ms (thruL wo beds way a b)) : ms.length ≤ beds.length + 1 := by
  have h1 := h.len
  have h2 : (openL beds (wI way)).length ≤ beds.length := by
    unfold openL
    rw [List.length_map]
    exact Nat.le_trans (List.length_filter_le _ _) (by simp)
  unfold thruL at h1
  rw [List.length_append] at h1
  simp at h1
  omega
/-- the things that a law hands on: the aim, the free rooms, worths, way -/
structure Held (CH C : Addr) (H : Hp) (p sp w wy : Addr) (beds : List Int) (worths : List (List Int)) (rent : Int) (way : List Nat) : Prop where
  aim : AimAt CH C H p beds worths rent way
  ok : AimOk beds worths way
  sp_ : H sp = some (.lst ((openL beds (wI way)).map V.int))
  mat : Mat H w worths
  way_ : H wy = some (.lst ((wI way).map V.int))
theorem Held.same {CH C : Addr} {H H' : Hp} {p sp w wy : Addr} {beds : List Int} {worths : List (List Int)} {rent : Int} {way : List Nat} (h : Held CH C H p sp w wy beds worths rent way) (s : Same H H') : Held CH C H' p sp w wy beds worths rent way :=
  ⟨h.aim.same s, h.ok, s _ _ h.sp_, h.mat.same s, s _ _ h.way_⟩
def sp_hops (CH CW CE : Addr) : Sp := fun vs H Q _ => ∃ (wo : Bool) (p sp w wy : Addr) (beds : List Int) (worths : List (List Int)) (rent : Int) (way : List Nat) (a b : Nat), vs = [.ref p, .str (wordS wo), .ref sp, .ref w, .ref wy, .int (a : Int), .int (b : Int)] ∧ Held CH (CC CW CE wo) H p sp w wy beds worths rent way ∧ a < worths.length ∧ b < worths.length ∧ ∀ H', Same H H' → Q (.bl true) H'
def sp_aimright (CH CW CE : Addr) : Sp := fun vs H Q _ => ∃ (wo : Bool) (p sp w wy : Addr) (beds : List Int) (worths : List (List Int)) (rent : Int) (way : List Nat) (f : Int), vs = [.ref p, .str (wordS wo), .ref sp, .ref w, .ref wy, .int rent, .int f] ∧ Held CH (CC CW CE wo) H p sp w wy beds worths rent way ∧ (∀ row ∈ worths, ∀ x ∈ row, -(10 ^ 42) < x ∧ x < 10 ^ 42) ∧ ∀ H', Same H H' → Q (.bl true) H'
def sp_plain (CH CA : Addr) : Sp := fun vs H Q _ => ∃ (p wy : Addr) (beds : List Int) (worths : List (List Int)) (rent : Int) (way : List Nat) (f : Int), vs = [.ref p, .ref wy, .int f] ∧ AimAt CH CA H p beds worths rent way ∧ AimOk beds worths way ∧ H wy = some (.lst ((wI way).map V.int)) ∧ ∀ H', Same H H' → Q (.bl true) H'
section
variable {CH CW CE p : Addr} {wo : Bool} {beds : List Int} {worths : List (List Int)} {rent : Int} {way : List Nat} {σ : St} {H : Hp} {Q : VK} {ta : TE} {t : TA}
theorem thru_go {a b : Nat} (hA : AimAt CH (CC CW CE wo) H p beds worths rent way) (ok : AimOk beds worths way) (ha : a < worths.length) (hb : b < worths.length) (h0 : ∀ K : VK, K (.ref p) H → ta σ H K) (ht : ∀ K : List V → Hp → Prop, K [.int (a : Int), .int (b : Int)] H → t σ H K)
    (k : ∀ (l : Addr) (ms : List Int) (H' : Hp), Same H H' → H l = none → H' l = some (.lst (ms.map V.int)) → IsRise ms (thruL wo beds way a b) → Q (.ref l) H') :
    tMeth CW "through" (sp_through true CH CW) [] E0 ta t σ H Q ∨ tMeth CE "through" (sp_through false CH CE) [] E0 ta t σ H Q := by
  obtain ⟨dx, hp, wa, g1, g2, g3⟩ := hA.ex
  cases wo with
  | true => exact .inl (h0 _ ⟨p, dx, _, rfl, g1, af_no _ _ (by decide +kernel) (by decide +kernel), ht _ ⟨p, beds, worths, rent, way, a, b, rfl, hA, ok, ha, hb, k⟩⟩)
  | false => exact .inr (h0 _ ⟨p, dx, _, rfl, g1, af_no _ _ (by decide +kernel) (by decide +kernel), ht _ ⟨p, beds, worths, rent, way, a, b, rfl, hA, ok, ha, hb, k⟩⟩)
theorem gain_go {a r b : Nat} (hA : AimAt CH (CC CW CE wo) H p beds worths rent way) (ok : AimOk beds worths way) (ha : a < worths.length) (hr : r < beds.length) (hb : b < worths.length) (h0 : ∀ K : VK, K (.ref p) H → ta σ H K) (ht : ∀ K : List V → Hp → Prop, K [.int (a : Int), .int (r : Int), .int (b : Int)] H → t σ H K)
    (k : Q (.int (gainF wo worths way a r b)) H) :
    tMeth CW "gain" (sp_gain true CH CW) [] E0 ta t σ H Q ∨ tMeth CE "gain" (sp_gain false CH CE) [] E0 ta t σ H Q := by
  obtain ⟨dx, hp, wa, g1, g2, g3⟩ := hA.ex
  cases wo with
  | true => exact .inl (h0 _ ⟨p, dx, _, rfl, g1, af_no _ _ (by decide +kernel) (by decide +kernel), ht _ ⟨p, beds, worths, rent, way, a, r, b, rfl, hA, ok, ha, hr, hb, k⟩⟩)
  | false => exact .inr (h0 _ ⟨p, dx, _, rfl, g1, af_no _ _ (by decide +kernel) (by decide +kernel), ht _ ⟨p, beds, worths, rent, way, a, r, b, rfl, hA, ok, ha, hr, hb, k⟩⟩)
theorem whole_go (hA : AimAt CH (CC CW CE wo) H p beds worths rent way) (ok : AimOk beds worths way) (h0 : ∀ K : VK, K (.ref p) H → ta σ H K)
    (k : ∀ H', Same H H' → Q (.int (if wo then wsum (wF worths) way - rent else rent)) H') :
    tMeth CW "whole" (sp_whole_ true CH CW) [] E0 ta tNil σ H Q ∨ tMeth CE "whole" (sp_whole_ false CH CE) [] E0 ta tNil σ H Q := by
  obtain ⟨dx, hp, wa, g1, g2, g3⟩ := hA.ex
  cases wo with
  | true => exact .inl (h0 _ ⟨p, dx, _, rfl, g1, af_no _ _ (by decide +kernel) (by decide +kernel), p, beds, worths, rent, way, rfl, hA, ok, k⟩)
  | false => exact .inr (h0 _ ⟨p, dx, _, rfl, g1, af_no _ _ (by decide +kernel) (by decide +kernel), p, beds, worths, rent, way, rfl, hA, ok, k⟩)
theorem price_go {i : Nat} {level parts : Int} (hA : AimAt CH (CC CW CE wo) H p beds worths rent way) (ok : AimOk beds worths way) (hi : i < worths.length) (hx : ∀ row ∈ worths, ∀ x ∈ row, -(10 ^ 42) < x ∧ x < 10 ^ 42) (hp : -(10 ^ 200) < parts ∧ parts < 10 ^ 200) (h0 : ∀ K : VK, K (.ref p) H → ta σ H K) (ht : ∀ K : List V → Hp → Prop, K [.int (i : Int), .int level, .int parts] H → t σ H K)
    (k : Q (.int (if wo then parts * ownF worths way i - level else level)) H) :
    tMeth CW "price" (sp_price true CH CW) [] E0 ta t σ H Q ∨ tMeth CE "price" (sp_price false CH CE) [] E0 ta t σ H Q := by
  obtain ⟨dx, hp', wa, g1, g2, g3⟩ := hA.ex
  cases wo with
  | true => exact .inl (h0 _ ⟨p, dx, _, rfl, g1, af_no _ _ (by decide +kernel) (by decide +kernel), ht _ ⟨p, beds, worths, rent, way, i, level, parts, rfl, hA, ok, hi, hx, hp, k⟩⟩)
  | false => exact .inr (h0 _ ⟨p, dx, _, rfl, g1, af_no _ _ (by decide +kernel) (by decide +kernel), ht _ ⟨p, beds, worths, rent, way, i, level, parts, rfl, hA, ok, hi, hx, hp, k⟩⟩)
end
end L2

set_option Elab.async false
set_option linter.all false
set_option maxRecDepth 100000
set_option maxHeartbeats 4000000
local macro_rules | `(tactic| walk_at "go") => `(tactic| repeat (first
  | refine ⟨_, rfl, ?_⟩
  | refine ⟨_, _, rfl, rfl, ?_⟩
  | refine ⟨rfl, ?_⟩
  | refine ⟨⟨⟨by omega, by omega⟩, ⟨by omega, by omega⟩⟩, ?_⟩
  | refine ⟨⟨by omega, by omega⟩, ?_⟩
  | refine ⟨⟨by decide, by decide, by decide⟩, ?_⟩
  | refine ⟨⟨by decide, by decide, by omega⟩, ?_⟩
  | refine And.intro (by decide) ?_
  | refine And.intro (by show (0 : Int) < _; decide) ?_
  | refine And.intro (by (with_reducible show List.length _ ≤ PySem.sizeLine); exact L2.len_small (by simp)) ?_
  | refine And.intro (by omega) ?_))

namespace My
open PySem L2 BW
def top (i : Nat) : Stmt := PySem.Challenge.pw_rentshare_k41_aims.main.body.getD i (.Pass ⟨0, 0, 0, 0⟩)
structure Txt (mg : Str → Option Value) : Prop where
  len : mg "len" = none
  range : mg "range" = none
  enumerate : mg "enumerate" = none
  isinstance : mg "isinstance" = none
  int : mg "int" = none
  bool : mg "bool" = none
  list : mg "list" = none
  min : mg "min" = none
  max : mg "max" = none
  sum : mg "sum" = none
  all : mg "all" = none
  sorted : mg "sorted" = none
  set : mg "set" = none
abbrev s___init__ : Stmt := inClass (top 4) 0
theorem sc___init__ : FnScope ["self", "beds", "worths", "rent"] ["self", "beds", "worths", "rent"] (defScope s___init__) := ⟨rfl, rfl, rfl, by decide +kernel, rfl, by decide +kernel, by decide +kernel⟩
abbrev s_people : Stmt := inClass (top 4) 1
theorem sc_people : FnScope ["self"] ["self"] (defScope s_people) := ⟨rfl, rfl, rfl, by decide +kernel, rfl, by decide +kernel, by decide +kernel⟩
abbrev s_rooms : Stmt := inClass (top 4) 2
theorem sc_rooms : FnScope ["self"] ["self"] (defScope s_rooms) := ⟨rfl, rfl, rfl, by decide +kernel, rfl, by decide +kernel, by decide +kernel⟩
abbrev s_lying : Stmt := top 5
theorem sc_lying : FnScope ["house", "way"] ["house", "way"] (defScope s_lying) := ⟨rfl, rfl, rfl, by decide +kernel, rfl, by decide +kernel, by decide +kernel⟩
abbrev s_open_rooms : Stmt := top 6
theorem sc_open_rooms : FnScope ["house", "way", "counts"] ["house", "way"] (defScope s_open_rooms) := ⟨rfl, rfl, rfl, by decide +kernel, rfl, by decide +kernel, by decide +kernel⟩
abbrev s_worth_of : Stmt := top 7
theorem sc_worth_of : FnScope ["house", "way"] ["house", "way"] (defScope s_worth_of) := ⟨rfl, rfl, rfl, by decide +kernel, rfl, by decide +kernel, by decide +kernel⟩
abbrev s_Aim___init__ : Stmt := inClass (top 9) 0
theorem sc_Aim___init__ : FnScope ["self", "house", "way"] ["self", "house", "way"] (defScope s_Aim___init__) := ⟨rfl, rfl, rfl, by decide +kernel, rfl, by decide +kernel, by decide +kernel⟩
abbrev s_Aim_through : Stmt := inClass (top 9) 1
theorem sc_Aim_through : FnScope ["self", "a", "b"] ["self", "a", "b"] (defScope s_Aim_through) := ⟨rfl, rfl, rfl, by decide +kernel, rfl, by decide +kernel, by decide +kernel⟩
abbrev s_Aim_gain : Stmt := inClass (top 9) 2
theorem sc_Aim_gain : FnScope ["self", "a", "r", "b"] ["self", "a", "r", "b"] (defScope s_Aim_gain) := ⟨rfl, rfl, rfl, by decide +kernel, rfl, by decide +kernel, by decide +kernel⟩
abbrev s_Aim_whole : Stmt := inClass (top 9) 3
theorem sc_Aim_whole : FnScope ["self"] ["self"] (defScope s_Aim_whole) := ⟨rfl, rfl, rfl, by decide +kernel, rfl, by decide +kernel, by decide +kernel⟩
abbrev s_Aim_price : Stmt := inClass (top 9) 4
theorem sc_Aim_price : FnScope ["self", "i", "level", "parts"] ["self", "i", "level", "parts"] (defScope s_Aim_price) := ⟨rfl, rfl, rfl, by decide +kernel, rfl, by decide +kernel, by decide +kernel⟩
abbrev s_with_open : Stmt := top 10
theorem sc_with_open : FnScope ["aim", "room"] ["aim", "room"] (defScope s_with_open) := ⟨rfl, rfl, rfl, by decide +kernel, rfl, by decide +kernel, by decide +kernel⟩
abbrev s_own_worth : Stmt := top 11
theorem sc_own_worth : FnScope ["aim", "person"] ["aim", "person"] (defScope s_own_worth) := ⟨rfl, rfl, rfl, by decide +kernel, rfl, by decide +kernel, by decide +kernel⟩
abbrev s_Worst_through : Stmt := inClass (top 12) 0
theorem sc_Worst_through : FnScope ["self", "a", "b"] ["self", "a", "b"] (defScope s_Worst_through) := ⟨rfl, rfl, rfl, by decide +kernel, rfl, by decide +kernel, by decide +kernel⟩
abbrev s_Worst_gain : Stmt := inClass (top 12) 1
theorem sc_Worst_gain : FnScope ["self", "a", "r", "b"] ["self", "a", "r", "b"] (defScope s_Worst_gain) := ⟨rfl, rfl, rfl, by decide +kernel, rfl, by decide +kernel, by decide +kernel⟩
abbrev s_Worst_whole : Stmt := inClass (top 12) 2
theorem sc_Worst_whole : FnScope ["self"] ["self"] (defScope s_Worst_whole) := ⟨rfl, rfl, rfl, by decide +kernel, rfl, by decide +kernel, by decide +kernel⟩
abbrev s_Worst_price : Stmt := inClass (top 12) 3
theorem sc_Worst_price : FnScope ["self", "i", "level", "parts"] ["self", "i", "level", "parts"] (defScope s_Worst_price) := ⟨rfl, rfl, rfl, by decide +kernel, rfl, by decide +kernel, by decide +kernel⟩
abbrev s_Even_through : Stmt := inClass (top 13) 0
theorem sc_Even_through : FnScope ["self", "a", "b"] ["self", "a", "b"] (defScope s_Even_through) := ⟨rfl, rfl, rfl, by decide +kernel, rfl, by decide +kernel, by decide +kernel⟩
abbrev s_Even_gain : Stmt := inClass (top 13) 1
theorem sc_Even_gain : FnScope ["self", "a", "r", "b"] ["self", "a", "r", "b"] (defScope s_Even_gain) := ⟨rfl, rfl, rfl, by decide +kernel, rfl, by decide +kernel, by decide +kernel⟩
abbrev s_Even_whole : Stmt := inClass (top 13) 2
theorem sc_Even_whole : FnScope ["self"] ["self"] (defScope s_Even_whole) := ⟨rfl, rfl, rfl, by decide +kernel, rfl, by decide +kernel, by decide +kernel⟩
abbrev s_Even_price : Stmt := inClass (top 13) 3
theorem sc_Even_price : FnScope ["self", "i", "level", "parts"] ["self", "i", "level", "parts"] (defScope s_Even_price) := ⟨rfl, rfl, rfl, by decide +kernel, rfl, by decide +kernel, by decide +kernel⟩
abbrev s__law_cell_at : Stmt := top 15
theorem sc__law_cell_at : FnScope ["_law_script", "_law_k"] ["_law_script", "_law_k"] (defScope s__law_cell_at) := ⟨rfl, rfl, rfl, by decide +kernel, rfl, by decide +kernel, by decide +kernel⟩
abbrev s__law_mixed : Stmt := top 16
theorem sc__law_mixed : FnScope ["_law_cell", "_law_k", "_law_m"] ["_law_cell", "_law_k"] (defScope s__law_mixed) := ⟨rfl, rfl, rfl, by decide +kernel, rfl, by decide +kernel, by decide +kernel⟩
abbrev s__law_beds : Stmt := top 17
theorem sc__law_beds : FnScope ["_law_first", "_law_many", "_law_beds_here", "_law_k"] ["_law_first", "_law_many"] (defScope s__law_beds) := ⟨rfl, rfl, rfl, by decide +kernel, rfl, by decide +kernel, by decide +kernel⟩
abbrev s__law_worths : Stmt := top 18
theorem sc__law_worths : FnScope ["_law_script", "_law_first", "_law_people", "_law_rooms", "_law_sums", "_law_k", "_law_cell", "_law_at", "_law_worths_here", "_law_i", "_law_row"] ["_law_script", "_law_first", "_law_people", "_law_rooms"] (defScope s__law_worths) := ⟨rfl, rfl, rfl, by decide +kernel, rfl, by decide +kernel, by decide +kernel⟩
abbrev s__law_house : Stmt := top 19
theorem sc__law_house : FnScope ["_law_script", "_law_most_people", "_law_most_rooms", "_law_first", "_law_beds_here", "_law_people", "_law_worths_here", "_law_rent"] ["_law_script", "_law_most_people", "_law_most_rooms"] (defScope s__law_house) := ⟨rfl, rfl, rfl, by decide +kernel, rfl, by decide +kernel, by decide +kernel⟩
abbrev s__law_way : Stmt := top 20
theorem sc__law_way : FnScope ["_law_beds_here", "_law_people", "_law_first", "_law_way_here", "_law_i", "_law_some"] ["_law_beds_here", "_law_people", "_law_first"] (defScope s__law_way) := ⟨rfl, rfl, rfl, by decide +kernel, rfl, by decide +kernel, by decide +kernel⟩
abbrev s__law_whole : Stmt := top 21
theorem sc__law_whole : FnScope ["_law_found"] ["_law_found"] (defScope s__law_whole) := ⟨rfl, rfl, rfl, by decide +kernel, rfl, by decide +kernel, by decide +kernel⟩
abbrev s__law_wholes : Stmt := top 22
theorem sc__law_wholes : FnScope ["_law_found", "_law_many"] ["_law_found", "_law_many"] (defScope s__law_wholes) := ⟨rfl, rfl, rfl, by decide +kernel, rfl, by decide +kernel, by decide +kernel⟩
abbrev s__law_spare : Stmt := top 23
theorem sc__law_spare : FnScope ["_law_beds_here", "_law_way_here"] ["_law_beds_here", "_law_way_here"] (defScope s__law_spare) := ⟨rfl, rfl, rfl, by decide +kernel, rfl, by decide +kernel, by decide +kernel⟩
abbrev s__law_through : Stmt := top 24
theorem sc__law_through : FnScope ["_law_word", "_law_spare_here", "_law_way_here", "_law_a", "_law_b", "_law_room"] ["_law_word", "_law_spare_here", "_law_way_here", "_law_a", "_law_b"] (defScope s__law_through) := ⟨rfl, rfl, rfl, by decide +kernel, rfl, by decide +kernel, by decide +kernel⟩
abbrev s__law_gain : Stmt := top 25
theorem sc__law_gain : FnScope ["_law_word", "_law_worths_here", "_law_way_here", "_law_a", "_law_r", "_law_b"] ["_law_word", "_law_worths_here", "_law_way_here", "_law_a", "_law_r", "_law_b"] (defScope s__law_gain) := ⟨rfl, rfl, rfl, by decide +kernel, rfl, by decide +kernel, by decide +kernel⟩
abbrev s__law_copy : Stmt := top 26
theorem sc__law_copy : FnScope ["_law_rows"] ["_law_rows"] (defScope s__law_copy) := ⟨rfl, rfl, rfl, by decide +kernel, rfl, by decide +kernel, by decide +kernel⟩
abbrev s__law_hops_right : Stmt := top 27
theorem sc__law_hops_right : FnScope ["_law_aim", "_law_word", "_law_spare_here", "_law_worths_here", "_law_way_here", "_law_a", "_law_b", "_law_rooms", "_law_due", "_law_r", "_law_gained"] ["_law_aim", "_law_word", "_law_spare_here", "_law_worths_here", "_law_way_here", "_law_a", "_law_b"] (defScope s__law_hops_right) := ⟨rfl, rfl, rfl, by decide +kernel, rfl, by decide +kernel, by decide +kernel⟩
abbrev s__law_aim_right : Stmt := top 28
theorem sc__law_aim_right : FnScope ["_law_aim", "_law_word", "_law_spare_here", "_law_worths_here", "_law_way_here", "_law_rent", "_law_first", "_law_a", "_law_b", "_law_i", "_law_total", "_law_due", "_law_level", "_law_parts", "_law_told"] ["_law_aim", "_law_word", "_law_spare_here", "_law_worths_here", "_law_way_here", "_law_rent", "_law_first"] (defScope s__law_aim_right) := ⟨rfl, rfl, rfl, by decide +kernel, rfl, by decide +kernel, by decide +kernel⟩
abbrev s__law_plain : Stmt := top 29
theorem sc__law_plain : FnScope ["_law_aim", "_law_way_here", "_law_first", "_law_a", "_law_b"] ["_law_aim", "_law_way_here", "_law_first"] (defScope s__law_plain) := ⟨rfl, rfl, rfl, by decide +kernel, rfl, by decide +kernel, by decide +kernel⟩
abbrev s_law : Stmt := top 30
theorem sc_law : FnScope ["_law_script", "_law_first", "_law_beds_here", "_law_worths_here", "_law_rent", "_law_house_here", "_law_way_here", "_law_spare_here", "_law_handed", "_law_plain_here", "_law_worst", "_law_even"] ["_law_script"] (defScope s_law) := ⟨rfl, rfl, rfl, by decide +kernel, rfl, by decide +kernel, by decide +kernel⟩
def sp_law (K : PySem.W.Frag) : Sp := fun vs H Q _ => ∃ (a : Addr) (ns : List Int), vs = [.ref a] ∧ SqL K H a (ns.map V.int) ∧ ns.length ≤ 63 ∧ ∀ H', Q (.bl true) H'
section
variable {P : Program} {w : World} {K : PySem.W.Frag} {mg : Str → Option Value} {base : Heap}
theorem D_init {C : Addr} (T : Txt mg) (HC : HCls K mg C) (S : MSrc K C "__init__" "House.__init__" s___init__) : MDef P w K mg base 1 C "__init__" ["self", "beds", "worths", "rent"] (sp_init C) := by
  refine S.mk' sc___init__ (fun vs H Q E h => ?_) (fun _ _ _ _ _ _ us hl => match us, hl with | [_, _, _, _], _ => rfl) (fun f cdv A outer s H vs Q E hr h => ?_)
  · obtain ⟨p, dx, b, w, beds, worths, rent, rfl, _⟩ := h
    rfl
  · obtain ⟨p, dx, b, w, beds, worths, rent, rfl, hp, hb, hM, lb, lw, hle, q⟩ := h
    refine ⟨_, (pss_cons (ps_if (pt_cmpR op_gt (pe_callB (call_lenK (K := K) rfl) (by rfl) T.len boot_len' (pa_cons (pv 2) pa_nil)) (pe_callB (call_sumK (K := K) rfl rfl) (by rfl) T.sum boot_sum' (pa_cons (pv 1) pa_nil)) (nomark _)) (pss_one (ps_never)) pss_nil)
      (pss_cons (ps_fldK (K := K) rfl (pv 0) (pe_callTy (call_list_ofK (K := K) rfl) (by rfl) T.list boot_list' (pa_cons (pv 1) pa_nil)) rfl)
      (pss_cons (ps_fldK (K := K) rfl (pv 0) (pe_comp ["row"] [none] rfl rfl rfl (pi_listK (K := K) rfl (pv 2)) (fun _ _ _ _ => (pg_name (i := 0) (by decide +kernel : (["row"] : List PySem.Str).Nodup) rfl (Or.inl rfl))) (fun _ _ _ _ => pifs_nil) (fun _ _ _ _ => (pe_callTy (call_list_ofK (K := K) rfl) (by rfl) T.list boot_list' (pa_cons (pv 0) pa_nil)))) rfl)
      (pss_one (ps_fldK (K := K) rfl (pv 0) (pv 3) rfl))))), ?_⟩
    obtain ⟨ws, hw, hR⟩ := hM
    have hwl : (ws.map V.ref).length = worths.length := by rw [List.length_map]; exact hR.1
    walk_at "go"
    refine ⟨w, _, rfl, .inl (SqL.of hw), ?_⟩
    walk_at "go"
    refine ⟨b, beds, rfl, SqL.of hb, ?_⟩
    walk_at "go"
    refine iteE (decide_eq_false (by rw [hwl]; omega)) ?_
    -- self.beds = list(beds)
    walk_at "go"
    refine ⟨b, _, rfl, .inl (SqL.of hb), fun l1 H1 n1 => ?_⟩
    refine ⟨_, rfl, p, C, dx, [], rfl, n1.same _ _ hp, HC.cl, HC.nB, by decide, ?_⟩
    have npl : l1 ≠ p := (ne_of_none hp n1.none).symm
    have nwp : w ≠ p := ne_of hw hp (by intro z; cases z)
    have hw2 : upd H1 p (.ins C dx (putF "beds" (.ref l1) [])) w = some (.lst (ws.map V.ref)) := by rw [upd_ne nwp]; exact n1.same _ _ hw
    have hl2 : upd H1 p (.ins C dx (putF "beds" (.ref l1) [])) l1 = some (.lst (beds.map V.int)) := by rw [upd_ne npl]; exact n1.at_
    have hr2 : ∀ (i : Nat) a row, ws[i]? = some a → worths[i]? = some row → upd H1 p (.ins C dx (putF "beds" (.ref l1) [])) a = some (.lst (row.map V.int)) := fun i a row h1 h2 => by
      have h3 := hR.2 i a row h1 h2
      rw [upd_ne (ne_of h3 hp (by intro z; cases z))]
      exact n1.same _ _ h3
    have hk2 : ∀ c o, H c = some o → c ≠ p → upd H1 p (.ins C dx (putF "beds" (.ref l1) [])) c = some o := fun c o e hc => by
      rw [upd_ne hc]
      exact n1.same _ _ e
    have hp2 : upd H1 p (.ins C dx (putF "beds" (.ref l1) [])) p = some (.ins C dx (putF "beds" (.ref l1) [])) := upd_same
    generalize upd H1 p (.ins C dx (putF "beds" (.ref l1) [])) = H2 at *
    clear n1
    -- self.worths = [list(row) for row in worths]
    refine ⟨_, rfl, w, rfl, ⟨_, SqL.of hw2⟩, fun D hD => ?_⟩
    refine comp_list (fun i y H => ∃ l row, y = .ref l ∧ l ≠ D ∧ worths[i]? = some row ∧ H l = some (.lst (row.map V.int))) (SqL.of hw2) (by rw [hwl, sizeLine_eq]; omega) hD (fun i y H H' k ⟨l, row, e, ne, h1, h2⟩ => ⟨l, row, e, ne, h1, k l _ ne h2⟩) ?_ ?_
    · rintro i x H3 ys N hx s3 d3 hN
      obtain ⟨a, ha, rfl⟩ := ref_at hx
      have hi : i < worths.length := by rw [← hR.1]; exact (List.getElem?_eq_some_iff.mp ha).1
      have hrow : worths[i]? = some worths[i] := by simp [hi]
      have h3 := s3 _ _ (hr2 i a _ ha hrow)
      walk_at "go"
      exact ⟨a, _, rfl, .inl (SqL.of h3), fun l H4 n4 => hN _ _ n4.same ⟨l, _, rfl, (ne_of_none d3 n4.none).symm, hrow, n4.at_⟩⟩
    · rintro ys H3 s3 d3 l3 r3
      obtain ⟨ws', e', p'⟩ := refs_ex (P := fun i l => ∃ row, worths[i]? = some row ∧ H3 l = some (.lst (row.map V.int))) (fun i y e => by
        obtain ⟨l, row, h1, _, h2, h3⟩ := r3 i y e
        exact ⟨l, h1, row, h2, h3⟩)
      subst e'
      have lw' : ws'.length = worths.length := by
        rw [List.length_map, List.length_map] at l3
        rw [l3]
        exact hR.1
      have hp3 := s3 _ _ hp2
      have hl3 := s3 _ _ hl2
      refine ⟨_, rfl, p, C, dx, _, rfl, hp3, HC.cl, HC.nW, Nat.lt_of_le_of_lt (putF_lt (n := 0) (Nat.le_refl _)) (by decide), ?_⟩
      -- self.rent = rent
      refine ⟨_, rfl, _, rfl, p, C, dx, _, rfl, upd_same, HC.cl, HC.nR, Nat.lt_of_le_of_lt (putF_lt (n := 1) (putF_lt (n := 0) (Nat.le_refl _))) (by decide), ?_⟩
      have nDp : D ≠ p := ne_of d3 hp3 (by intro z; cases z)
      refine q _ ⟨⟨dx, l1, D, upd_same, ?_, ws', ?_, lw', fun i a row h1 h2 => ?_⟩⟩ fun c o e hc => ?_
      · rw [upd_ne npl, upd_ne npl]
        exact hl3
      · rw [upd_ne nDp, upd_ne nDp]
        exact d3
      · obtain ⟨row', h3, h4⟩ := p' i a h1
        rw [h3] at h2
        cases h2
        rw [upd_ne (ne_of h4 hp3 (by intro z; cases z)), upd_ne (ne_of h4 hp3 (by intro z; cases z))]
        exact h4
      · rw [upd_ne hc, upd_ne hc]
        exact s3 _ _ (hk2 c o e hc)
theorem D_people {C : Addr} (T : Txt mg) (HC : HCls K mg C) (S : MSrc K C "people" "House.people" s_people) : MDef P w K mg base 1 C "people" ["self"] (sp_people C) := by
  refine S.mk' sc_people (fun vs H Q E h => ?_) (fun _ _ _ _ _ _ us hl => match us, hl with | [_], _ => rfl) (fun f cdv A outer s H vs Q E hr h => ?_)
  · obtain ⟨p, beds, worths, rent, rfl, _⟩ := h
    rfl
  · obtain ⟨p, beds, worths, rent, rfl, hA, q⟩ := h
    refine ⟨_, (pss_one (ps_ret (pe_callB (call_lenK (K := K) rfl) (by rfl) T.len boot_len' (pa_cons (pe_fldK (K := K) rfl (pv 0) rfl) pa_nil)))), ?_⟩
    obtain ⟨dx, b, w, h1, h2, h3⟩ := hA.ex
    obtain ⟨ws, h4, h5⟩ := h3.len
    refine ⟨_, rfl, p, C, dx, _, _, rfl, h1, HC.cl, HC.nW, hf_worths _ _ _, w, _, rfl, .inl (SqL.of h4), ?_⟩
    rw [h5]
    exact q
theorem D_rooms {C : Addr} (T : Txt mg) (HC : HCls K mg C) (S : MSrc K C "rooms" "House.rooms" s_rooms) : MDef P w K mg base 1 C "rooms" ["self"] (sp_rooms C) := by
  refine S.mk' sc_rooms (fun vs H Q E h => ?_) (fun _ _ _ _ _ _ us hl => match us, hl with | [_], _ => rfl) (fun f cdv A outer s H vs Q E hr h => ?_)
  · obtain ⟨p, beds, worths, rent, rfl, _⟩ := h
    rfl
  · obtain ⟨p, beds, worths, rent, rfl, hA, q⟩ := h
    refine ⟨_, (pss_one (ps_ret (pe_callB (call_lenK (K := K) rfl) (by rfl) T.len boot_len' (pa_cons (pe_fldK (K := K) rfl (pv 0) rfl) pa_nil)))), ?_⟩
    obtain ⟨dx, b, w, h1, h2, h3⟩ := hA.ex
    refine ⟨_, rfl, p, C, dx, _, _, rfl, h1, HC.cl, HC.nB, hf_beds _ _ _, b, _, rfl, .inl (SqL.of h2), ?_⟩
    rw [List.length_map]
    exact q
theorem D_lying {C : Addr} (T : Txt mg) (HC : HCls K mg C) (S : Src K mg "lying" "lying" s_lying) (Mrooms : MDef P w K mg base 1 C "rooms" ["self"] (sp_rooms C)) : Def P w K mg base 2 "lying" ["house", "way"] (sp_lying K C) := by
  refine S.mk' sc_lying (fun vs H Q E h => ?_) (fun _ _ _ _ _ _ us hl => match us, hl with | [_, _], _ => rfl) (fun f cdv A outer s H vs Q E hr h => ?_)
  · obtain ⟨p, a, beds, worths, rent, way, rfl, _⟩ := h
    rfl
  · obtain ⟨p, a, beds, worths, rent, way, rfl, hA, hl, hS, q⟩ := h
    refine ⟨_, (pss_one (ps_ret (pe_comp ["room", "way"] [none, some 1] rfl rfl rfl (pi_range1 rfl T.range (pa_cons (pe_mdef0 Mrooms HC.cl (pv 0) (hr.mono (by decide))) pa_nil)) (fun _ _ _ _ => (pg_name (i := 0) (by decide +kernel : (["room", "way"] : List PySem.Str).Nodup) rfl (Or.inl rfl))) (fun _ _ _ _ => pifs_nil) (fun _ _ _ _ => (pe_bmK (K := K) rfl PySem.F.plainAttrs_list PySem.F.slot_list_count PySem.F.type_list_count (mt_countK (K := K) rfl) (pv 1) (pa_cons (pv 0) pa_nil)))))), ?_⟩
    obtain ⟨dx, b, w, h1, h2, h3⟩ := hA.ex
    refine ⟨_, rfl, p, dx, _, rfl, h1, hf_no _ _ _ (by decide +kernel) (by decide +kernel) (by decide +kernel), p, beds, worths, rent, rfl, hA, ?_⟩
    refine ⟨_, rfl, by omega, by omega, fun D hD => ?_⟩
    refine comp_range (fun i y _ => y = .int ((way.count (i : Int) : Nat) : Int)) (by rw [sizeLine_eq]; omega) hD (fun _ _ _ _ _ h => h) ?_ ?_
    · rintro i H1 ys N hi s1 d1 hN
      refine ⟨_, rfl, .inl ⟨rfl, _, s1.seq hS⟩, _, rfl, a, way, _, rfl, rfl, s1.seq hS, hN _ _ (Same.refl _) ?_⟩
      rw [Int.zero_add]
    · rintro ys H1 s1 d1 l1 r1
      have e : ys = (lyingL beds.length way).map V.int := ints_of (by rw [l1]; simp [lyingL]) fun i y e => by
        have hi : i < beds.length := by have := (List.getElem?_eq_some_iff.mp e).1; omega
        exact ⟨_, by simp [lyingL, hi], r1 i y e⟩
      rw [e] at d1
      exact q D H1 ⟨s1, hD, d1⟩
theorem D_open {C : Addr} (T : Txt mg) (HC : HCls K mg C) (S : Src K mg "open_rooms" "open_rooms" s_open_rooms) (Dlying : Def P w K mg base 2 "lying" ["house", "way"] (sp_lying K C)) (Mrooms : MDef P w K mg base 1 C "rooms" ["self"] (sp_rooms C)) : Def P w K mg base 3 "open_rooms" ["house", "way"] (sp_open K C) := by
  refine S.mk' sc_open_rooms (fun vs H Q E h => ?_) (fun _ _ _ _ _ _ us hl => match us, hl with | [_, _], _ => rfl) (fun f cdv A outer s H vs Q E hr h => ?_)
  · obtain ⟨p, a, beds, worths, rent, way, rfl, _⟩ := h
    rfl
  · obtain ⟨p, a, beds, worths, rent, way, rfl, hA, hl, hS, q⟩ := h
    refine ⟨_, (pss_cons (ps_set (i := 2) sc_open_rooms.nd rfl (Or.inr rfl) (pe_def Dlying (hr.mono (by decide)) rfl (pa_cons (pv 0) (pa_cons (pv 1) pa_nil))))
      (pss_one (ps_ret (pe_comp ["room", "counts", "house"] [none, some 2, some 0] rfl rfl rfl (pi_range1 rfl T.range (pa_cons (pe_mdef0 Mrooms HC.cl (pv 0) (hr.mono (by decide))) pa_nil)) (fun _ _ _ _ => (pg_name (i := 0) (by decide +kernel : (["room", "counts", "house"] : List PySem.Str).Nodup) rfl (Or.inl rfl))) (fun _ _ _ _ => (pifs_one (pt_cmpR op_lt (pe_ix (ix_seqK (K := K) rfl) (pv 1) (pv 0) (fun _ _ => rfl)) (pe_ix (ix_seqK (K := K) rfl) (pe_fldK (K := K) rfl (pv 2) rfl) (pv 0) (fun _ _ => rfl)) (nomark _)))) (fun _ _ _ _ => (pv 0)))))), ?_⟩
    refine ⟨_, rfl, _, rfl, p, a, beds, worths, rent, way, rfl, hA, hl, hS, fun l H1 n1 => ?_⟩
    have hA1 := hA.same n1.same
    obtain ⟨dx, b, w, h1, h2, h3⟩ := hA1.ex
    refine ⟨_, rfl, p, dx, _, rfl, h1, hf_no _ _ _ (by decide +kernel) (by decide +kernel) (by decide +kernel), p, beds, worths, rent, rfl, hA1, ?_⟩
    refine ⟨_, rfl, by omega, by omega, fun D hD => ?_⟩
    refine compIf_range (fun (r : Nat) => decide (((way.count (r : Int) : Nat) : Int) < beds.getD r 0)) (fun (r : Nat) => .int r) (by rw [sizeLine_eq]; omega) hD ?_ ?_ ?_
    · rintro i H2 N hi s2 hN
      have g1 : ((lyingL beds.length way).map V.int)[i]? = some (.int ((way.count (i : Int) : Nat) : Int)) := by simp [lyingL, show i < beds.length by omega]
      have g2 : (beds.map V.int)[i]? = some (.int (beds.getD i 0)) := by simp [show i < beds.length by omega]
      walk_at "go"
      refine ixL (SqL.of (s2 _ _ n1.at_)) (atI_int i (by omega) g1) ?_
      refine ⟨_, rfl, p, C, dx, _, _, rfl, s2 _ _ h1, HC.cl, HC.nB, hf_beds _ _ _, _, rfl, ?_⟩
      refine ixL (SqL.of (s2 _ _ h2)) (atI_int i (by omega) g2) ?_
      walk_at "go"
      exact hN _ (Same.refl _)
    · rintro i H2 N hi hp s2 hN
      walk_at "go"
      have := hN _ (Same.refl _)
      rw [Int.zero_add]
      exact this
    · rintro H2 s2 d2
      refine q D H2 ⟨n1.same.trans s2, n1.same.free hD, ?_⟩
      rw [d2]
      unfold openL
      rw [List.map_map]
      rfl
theorem D_worthof {C : Addr} (T : Txt mg) (HC : HCls K mg C) (S : Src K mg "worth_of" "worth_of" s_worth_of) (Mpeople : MDef P w K mg base 1 C "people" ["self"] (sp_people C)) : Def P w K mg base 2 "worth_of" ["house", "way"] (sp_worthof K C) := by
  refine S.mk' sc_worth_of (fun vs H Q E h => ?_) (fun _ _ _ _ _ _ us hl => match us, hl with | [_, _], _ => rfl) (fun f cdv A outer s H vs Q E hr h => ?_)
  · obtain ⟨p, a, beds, worths, rent, way, rfl, _⟩ := h
    rfl
  · obtain ⟨p, a, beds, worths, rent, way, rfl, hA, hl, hS, hlen, hin, q⟩ := h
    refine ⟨_, (pss_one (ps_ret (pe_callB (call_sumK (K := K) rfl rfl) (by rfl) T.sum boot_sum' (pa_cons (pe_comp ["person", "house", "way"] [none, some 0, some 1] rfl rfl rfl (pi_range1 rfl T.range (pa_cons (pe_mdef0 Mpeople HC.cl (pv 0) (hr.mono (by decide))) pa_nil)) (fun _ _ _ _ => (pg_name (i := 0) (by decide +kernel : (["person", "house", "way"] : List PySem.Str).Nodup) rfl (Or.inl rfl))) (fun _ _ _ _ => pifs_nil) (fun _ _ _ _ => (pe_ix (ix_seqK (K := K) rfl) (pe_ix (ix_seqK (K := K) rfl) (pe_fldK (K := K) rfl (pv 1) rfl) (pv 0) (fun _ _ => rfl)) (pe_ix (ix_seqK (K := K) rfl) (pv 2) (pv 0) (fun _ _ => rfl)) (fun _ _ => rfl)))) pa_nil)))), ?_⟩
    obtain ⟨dx, b, w, h1, h2, h3⟩ := hA.ex
    obtain ⟨ws, hw, hR⟩ := id h3
    refine ⟨_, rfl, p, dx, _, rfl, h1, hf_no _ _ _ (by decide +kernel) (by decide +kernel) (by decide +kernel), p, beds, worths, rent, rfl, hA, ?_⟩
    refine ⟨_, rfl, by omega, by omega, fun D hD => ?_⟩
    refine comp_range (fun i y _ => y = .int ((worths.getD i []).getD (way.getD i 0).toNat 0)) (by rw [sizeLine_eq]; omega) hD (fun _ _ _ _ _ h => h) ?_ ?_
    · rintro i H1 ys N hi s1 d1 hN
      have hi' : i < worths.length := by omega
      have hi2 : i < way.length := by omega
      have hrow : worths[i]? = some worths[i] := by simp [hi']
      obtain ⟨ra, g1, g2, g3⟩ := hR.at_ hrow
      have g4 : (way.map V.int)[i]? = some (.int way[i]) := by simp [hi2]
      obtain ⟨b1, b2⟩ := hin _ (List.getElem_mem hi') _ (List.getElem_mem hi2)
      have g5 : (worths[i].map V.int)[way[i].toNat]? = some (.int ((worths[i]).getD way[i].toNat 0)) := by
        have : way[i].toNat < worths[i].length := by omega
        simp [this]
      refine ⟨_, rfl, p, C, dx, _, _, rfl, s1 _ _ h1, HC.cl, HC.nW, hf_worths _ _ _, _, rfl, ?_⟩
      refine ixL (SqL.of (s1 _ _ hw)) (atI_int i (by omega) g2) ?_
      refine ⟨_, rfl, _, rfl, ?_⟩
      refine ixL (s1.seq hS) (atI_int i (by omega) g4) ?_
      refine ixL (SqL.of (s1 _ _ g3)) (atI_int way[i].toNat (by omega) g5) ?_
      refine hN _ _ (Same.refl _) ?_
      simp [hi', hi2]
    · rintro ys H1 s1 d1 l1 r1
      have e : ys = ((List.range worths.length).map fun i => (worths.getD i []).getD (way.getD i 0).toNat 0).map V.int := ints_of (by rw [l1]; simp) fun i y e => by
        have hi : i < worths.length := by have := (List.getElem?_eq_some_iff.mp e).1; omega
        exact ⟨(worths.getD i []).getD (way.getD i 0).toNat 0, by rw [List.getElem?_map, List.getElem?_range hi]; rfl, r1 i y e⟩
      rw [e] at d1
      refine ⟨D, _, rfl, SqL.of d1, q _ s1⟩
theorem D_ainit {CH C : Addr} (T : Txt mg) (AC : ACls K C) (S : MSrc K C "__init__" "Aim.__init__" s_Aim___init__) : MDef P w K mg base 1 C "__init__" ["self", "house", "way"] (sp_ainit CH C) := by
  refine S.mk' sc_Aim___init__ (fun vs H Q E h => ?_) (fun _ _ _ _ _ _ us hl => match us, hl with | [_, _, _], _ => rfl) (fun f cdv A outer s H vs Q E hr h => ?_)
  · obtain ⟨p, dx, hp, wa, beds, worths, rent, way, rfl, _⟩ := h
    rfl
  · obtain ⟨p, dx, hp, wa, beds, worths, rent, way, rfl, hP, hA, hw, q⟩ := h
    refine ⟨_, (pss_cons (ps_fldK (K := K) rfl (pv 0) (pv 1) rfl)
      (pss_one (ps_fldK (K := K) rfl (pv 0) (pe_callTy (call_list_ofK (K := K) rfl) (by rfl) T.list boot_list' (pa_cons (pv 2) pa_nil)) rfl))), ?_⟩
    refine ⟨_, rfl, _, rfl, p, C, dx, [], rfl, hP, AC.cl, AC.nH, by decide, ?_⟩
    have k1 : ∀ c o, H c = some o → c ≠ p → upd H p (.ins C dx (putF "house" (.ref hp) [])) c = some o := fun c o e hc => by rw [upd_ne hc]; exact e
    have hw1 := k1 _ _ hw (ne_of hw hP (by intro z; cases z))
    have hp1 : upd H p (.ins C dx (putF "house" (.ref hp) [])) p = some (.ins C dx (putF "house" (.ref hp) [])) := upd_same
    have fr : ∀ l, upd H p (.ins C dx (putF "house" (.ref hp) [])) l = none → H l = none := fun l e => by
      by_cases hl : l = p
      · rw [hl, hp1] at e; cases e
      · rw [upd_ne hl] at e; exact e
    generalize upd H p (.ins C dx (putF "house" (.ref hp) [])) = H1 at *
    refine ⟨_, rfl, wa, _, rfl, .inl (SqL.of hw1), fun l H2 n2 => ?_⟩
    refine ⟨_, rfl, p, C, dx, _, rfl, n2.same _ _ hp1, AC.cl, AC.nW, by have := putF_lt (f := "house") (v := V.ref hp) (fs := []) (n := 0) (by simp); omega, ?_⟩
    have nlp : l ≠ p := (ne_of_none hp1 n2.none).symm
    have k2 : ∀ c o, H2 c = some o → c ≠ p → upd H2 p (.ins C dx (putF "way" (.ref l) (putF "house" (.ref hp) []))) c = some o := fun c o e hc => by rw [upd_ne hc]; exact e
    exact q l _ (fr l n2.none) upd_same (k2 _ _ n2.at_ nlp) fun c o e hc => k2 _ _ (n2.same _ _ (k1 c o e hc)) hc
theorem D_withopen {CH : Addr} (T : Txt mg) (HC : HCls K mg CH) (S : Src K mg "with_open" "with_open" s_with_open) (Dopen_rooms : Def P w K mg base 3 "open_rooms" ["house", "way"] (sp_open K CH)) : Def P w K mg base 4 "with_open" ["aim", "room"] (sp_withopen K CH) := by
  refine S.mk' sc_with_open (fun vs H Q E h => ?_) (fun _ _ _ _ _ _ us hl => match us, hl with | [_, _], _ => rfl) (fun f cdv A outer s H vs Q E hr h => ?_)
  · obtain ⟨C, p, beds, worths, rent, way, r, rfl, _⟩ := h
    rfl
  · obtain ⟨C, p, beds, worths, rent, way, r, rfl, AC, hA, ok, q⟩ := h
    refine ⟨_, (pss_one (ps_ret (pe_sortedSet (K := K) rfl rfl (by rfl) T.sorted (by rfl) T.set (pe_op op_cat' (pe_def Dopen_rooms (hr.mono (by decide)) rfl (pa_cons (pe_fldK (K := K) rfl (pv 0) rfl) (pa_cons (pe_fldK (K := K) rfl (pv 0) rfl) pa_nil))) (pe_lst' (pa_cons (pv 1) pa_nil)))))), ?_⟩
    obtain ⟨dx, hp, wa, g1, g2, g3⟩ := hA.ex
    have l1 := ok.bok.b1
    have l2 := ok.bok.w1
    refine ⟨_, rfl, p, C, dx, _, _, rfl, g1, AC.cl, AC.nH, af_house _ _, _, rfl, p, C, dx, _, _, rfl, g1, AC.cl, AC.nW, af_way _ _, ?_⟩
    refine ⟨hp, wa, beds, worths, rent, wI way, rfl, g2, by omega, SqL.of g3, fun l1 H1 n1 => ?_⟩
    refine ⟨_, rfl, len_small (by simp), fun l2 H2 n2 => ?_⟩
    have hol : (openL beds (wI way)).length ≤ beds.length := by
      unfold openL
      rw [List.length_map]
      exact Nat.le_trans (List.length_filter_le _ _) (by simp)
    refine ⟨l1, l2, _, _, rfl, rfl, n2.same _ _ n1.at_, n2.at_, by rw [sizeLine_eq, List.length_map]; simp; omega, fun l3 H3 n3 => ?_⟩
    have h3 : H3 l3 = some (.lst ((openL beds (wI way) ++ [(r : Int)]).map V.int)) := by
      rw [n3.at_]
      simp
    refine ⟨l3, _, rfl, SqL.of h3, by simp; omega, fun l4 ms H4 n4 hr hm => ?_⟩
    refine q l4 ms H4 (((n1.same.trans n2.same).trans n3.same).trans n4.same) (((n1.same.trans n2.same).trans n3.same).free n4.none) n4.at_ ⟨hr, hm⟩
theorem D_ownworth {CH : Addr} (T : Txt mg) (HC : HCls K mg CH) (S : Src K mg "own_worth" "own_worth" s_own_worth) : Def P w K mg base 1 "own_worth" ["aim", "person"] (sp_ownworth K CH) := by
  refine S.mk' sc_own_worth (fun vs H Q E h => ?_) (fun _ _ _ _ _ _ us hl => match us, hl with | [_, _], _ => rfl) (fun f cdv A outer s H vs Q E hr h => ?_)
  · obtain ⟨C, p, beds, worths, rent, way, i, rfl, _⟩ := h
    rfl
  · obtain ⟨C, p, beds, worths, rent, way, i, rfl, AC, hA, ok, hi, q⟩ := h
    refine ⟨_, (pss_one (ps_ret (pe_ix (ix_seqK (K := K) rfl) (pe_ix (ix_seqK (K := K) rfl) (pe_fldK (K := K) rfl (pe_fldK (K := K) rfl (pv 0) rfl) rfl) (pv 1) (fun _ _ => rfl)) (pe_ix (ix_seqK (K := K) rfl) (pe_fldK (K := K) rfl (pv 0) rfl) (pv 1) (fun _ _ => rfl)) (fun _ _ => rfl)))), ?_⟩
    obtain ⟨dx, hp, wa, g1, g2, g3⟩ := hA.ex
    obtain ⟨dh, b, w, h1, h2, h3⟩ := g2.ex
    obtain ⟨ws, hw, hR⟩ := id h3
    have hrow : worths[i]? = some worths[i] := by simp [hi]
    have hrl := ok.bok.rows _ (List.getElem_mem hi)
    obtain ⟨ra, e1, e2, e3⟩ := hR.at_ hrow
    obtain ⟨w1, w2⟩ := ok.at_ hi
    have gen : ∀ r, r < worths[i].length → (worths[i].map V.int)[r]? = some (.int (wF worths i r)) := fun r hr => by simp [wF, List.getD, hi, hr]
    have g5 : (worths[i].map V.int)[way.getD i 0]? = some (.int (ownF worths way i)) := gen _ (by omega)
    refine ⟨_, rfl, p, C, dx, _, _, rfl, g1, AC.cl, AC.nH, af_house _ _, hp, CH, dh, _, _, rfl, h1, HC.cl, HC.nW, hf_worths _ _ _, _, rfl, ?_⟩
    refine ixL (SqL.of hw) (atI_int i rfl e2) ?_
    refine ⟨_, rfl, p, C, dx, _, _, rfl, g1, AC.cl, AC.nW, af_way _ _, _, rfl, ?_⟩
    refine ixL (SqL.of g3) (atI_int i rfl (wI_at w1)) ?_
    refine ixL (SqL.of e3) (atI_int (way.getD i 0) rfl g5) ?_
    exact q
theorem D_Wthrough {CH C : Addr} (T : Txt mg) (AC : ACls K C) (S : MSrc K C "through" "Worst.through" s_Worst_through) (Dwith_open : Def P w K mg base 4 "with_open" ["aim", "room"] (sp_withopen K CH)) : MDef P w K mg base 5 C "through" ["self", "a", "b"] (sp_through true CH C) := by
  refine S.mk' sc_Worst_through (fun vs H Q E h => ?_) (fun _ _ _ _ _ _ us hl => match us, hl with | [_, _, _], _ => rfl) (fun f cdv A outer s H vs Q E hr h => ?_)
  · obtain ⟨p, beds, worths, rent, way, a, b, rfl, _⟩ := h
    rfl
  · obtain ⟨p, beds, worths, rent, way, a, b, rfl, hA, ok, ha, hb, q⟩ := h
    refine ⟨_, (pss_one (ps_ret (pe_def Dwith_open (hr.mono (by decide)) rfl (pa_cons (pv 0) (pa_cons (pe_ix (ix_seqK (K := K) rfl) (pe_fldK (K := K) rfl (pv 0) rfl) (pv 1) (fun _ _ => rfl)) pa_nil))))), ?_⟩
    obtain ⟨dx, hp, wa, g1, g2, g3⟩ := hA.ex
    obtain ⟨w1, w2⟩ := ok.at_ ha
    refine ⟨_, rfl, _, rfl, p, C, dx, _, _, rfl, g1, AC.cl, AC.nW, af_way _ _, _, rfl, ?_⟩
    refine ixL (SqL.of g3) (atI_int a rfl (wI_at w1)) ?_
    exact ⟨C, p, beds, worths, rent, way, way.getD a 0, rfl, AC, hA, ok, q⟩
theorem D_Wgain {CH C : Addr} (T : Txt mg) (HC : HCls K mg CH) (AC : ACls K C) (S : MSrc K C "gain" "Worst.gain" s_Worst_gain) (Down_worth : Def P w K mg base 1 "own_worth" ["aim", "person"] (sp_ownworth K CH)) : MDef P w K mg base 2 C "gain" ["self", "a", "r", "b"] (sp_gain true CH C) := by
  refine S.mk' sc_Worst_gain (fun vs H Q E h => ?_) (fun _ _ _ _ _ _ us hl => match us, hl with | [_, _, _, _], _ => rfl) (fun f cdv A outer s H vs Q E hr h => ?_)
  · obtain ⟨p, beds, worths, rent, way, a, r, b, rfl, _⟩ := h
    rfl
  · obtain ⟨p, beds, worths, rent, way, a, r, b, rfl, hA, ok, ha, hr0, hb, q⟩ := h
    refine ⟨_, (pss_one (ps_ret (pe_op op_sub (pe_ix (ix_seqK (K := K) rfl) (pe_ix (ix_seqK (K := K) rfl) (pe_fldK (K := K) rfl (pe_fldK (K := K) rfl (pv 0) rfl) rfl) (pv 3) (fun _ _ => rfl)) (pv 2) (fun _ _ => rfl)) (pe_def Down_worth (hr.mono (by decide)) rfl (pa_cons (pv 0) (pa_cons (pv 1) pa_nil)))))), ?_⟩
    obtain ⟨dx, hp, wa, g1, g2, g3⟩ := hA.ex
    obtain ⟨dh, bd, w, h1, h2, h3⟩ := g2.ex
    obtain ⟨ws, hw, hR⟩ := id h3
    have hrow : worths[b]? = some worths[b] := by simp [hb]
    have hrl := ok.bok.rows _ (List.getElem_mem hb)
    obtain ⟨ra, e1, e2, e3⟩ := hR.at_ hrow
    have g5 : (worths[b].map V.int)[r]? = some (.int (wF worths b r)) := by simp [wF, List.getD, hb, show r < worths[b].length by omega]
    refine ⟨_, rfl, p, C, dx, _, _, rfl, g1, AC.cl, AC.nH, af_house _ _, hp, CH, dh, _, _, rfl, h1, HC.cl, HC.nW, hf_worths _ _ _, _, rfl, ?_⟩
    refine ixL (SqL.of hw) (atI_int b rfl e2) ?_
    refine ⟨_, rfl, ?_⟩
    refine ixL (SqL.of e3) (atI_int r rfl g5) ?_
    refine ⟨_, rfl, _, rfl, C, p, beds, worths, rent, way, a, rfl, AC, hA, ok, ha, ?_⟩
    exact ⟨_, _, rfl, rfl, q⟩
theorem D_Wwhole {CH C : Addr} (T : Txt mg) (HC : HCls K mg CH) (AC : ACls K C) (S : MSrc K C "whole" "Worst.whole" s_Worst_whole) (Dworth_of : Def P w K mg base 2 "worth_of" ["house", "way"] (sp_worthof K CH)) : MDef P w K mg base 3 C "whole" ["self"] (sp_whole_ true CH C) := by
  refine S.mk' sc_Worst_whole (fun vs H Q E h => ?_) (fun _ _ _ _ _ _ us hl => match us, hl with | [_], _ => rfl) (fun f cdv A outer s H vs Q E hr h => ?_)
  · obtain ⟨p, beds, worths, rent, way, rfl, _⟩ := h
    rfl
  · obtain ⟨p, beds, worths, rent, way, rfl, hA, ok, q⟩ := h
    refine ⟨_, (pss_one (ps_ret (pe_op op_sub (pe_def Dworth_of (hr.mono (by decide)) rfl (pa_cons (pe_fldK (K := K) rfl (pv 0) rfl) (pa_cons (pe_fldK (K := K) rfl (pv 0) rfl) pa_nil))) (pe_fldK (K := K) rfl (pe_fldK (K := K) rfl (pv 0) rfl) rfl)))), ?_⟩
    obtain ⟨dx, hp, wa, g1, g2, g3⟩ := hA.ex
    have l1 := ok.bok.w1
    refine ⟨_, rfl, p, C, dx, _, _, rfl, g1, AC.cl, AC.nH, af_house _ _, _, rfl, p, C, dx, _, _, rfl, g1, AC.cl, AC.nW, af_way _ _, ?_⟩
    refine ⟨hp, wa, beds, worths, rent, wI way, rfl, g2, by omega, SqL.of g3, by simp [wI, ok.len], fun row hr z hz => ?_, fun H1 s1 => ?_⟩
    · obtain ⟨r, h1, rfl⟩ := List.mem_map.mp hz
      have h2 := ok.lt r h1
      have h3 := ok.bok.rows row hr
      omega
    obtain ⟨dh, bd, w, h1, h2, h3⟩ := (g2.same s1).ex
    refine ⟨_, rfl, p, C, dx, _, _, rfl, s1 _ _ g1, AC.cl, AC.nH, af_house _ _, hp, CH, dh, _, _, rfl, h1, HC.cl, HC.nR, hf_rent _ _ _, ?_⟩
    rw [worthL_wsum ok.len]
    exact ⟨_, _, rfl, rfl, q _ s1⟩
theorem D_Wprice {CH C : Addr} (T : Txt mg) (AC : ACls K C) (S : MSrc K C "price" "Worst.price" s_Worst_price) (Down_worth : Def P w K mg base 1 "own_worth" ["aim", "person"] (sp_ownworth K CH)) : MDef P w K mg base 2 C "price" ["self", "i", "level", "parts"] (sp_price true CH C) := by
  refine S.mk' sc_Worst_price (fun vs H Q E h => ?_) (fun _ _ _ _ _ _ us hl => match us, hl with | [_, _, _, _], _ => rfl) (fun f cdv A outer s H vs Q E hr h => ?_)
  · obtain ⟨p, beds, worths, rent, way, i, level, parts, rfl, _⟩ := h
    rfl
  · obtain ⟨p, beds, worths, rent, way, i, level, parts, rfl, hA, ok, hi, hx, hp, q⟩ := h
    refine ⟨_, (pss_one (ps_ret (pe_op op_sub (pe_op op_mulW (pv 3) (pe_def Down_worth (hr.mono (by decide)) rfl (pa_cons (pv 0) (pa_cons (pv 1) pa_nil)))) (pv 2)))), ?_⟩
    have hob : -(10 ^ 42) < ownF worths way i ∧ ownF worths way i < 10 ^ 42 := by
      obtain ⟨w1, w2⟩ := ok.at_ hi
      have hrl := ok.bok.rows _ (List.getElem_mem hi)
      have : ownF worths way i = worths[i][way.getD i 0]'(by omega) := by
        unfold ownF wF
        rw [List.getD_eq_getElem?_getD (l := worths), List.getElem?_eq_getElem hi]
        show (worths[i]).getD (way.getD i 0) 0 = _
        rw [List.getD_eq_getElem?_getD (l := worths[i]), List.getElem?_eq_getElem (by omega)]
        rfl
      rw [this]
      exact hx _ (List.getElem_mem hi) _ (List.getElem_mem _)
    refine ⟨_, rfl, _, rfl, _, rfl, C, p, beds, worths, rent, way, i, rfl, AC, hA, ok, hi, ?_⟩
    refine ⟨_, _, rfl, rfl, ⟨hp, by omega⟩, ?_⟩
    exact ⟨_, rfl, _, _, rfl, rfl, q⟩
theorem D_Ethrough {CH C : Addr} (T : Txt mg) (AC : ACls K C) (S : MSrc K C "through" "Even.through" s_Even_through) (Dwith_open : Def P w K mg base 4 "with_open" ["aim", "room"] (sp_withopen K CH)) : MDef P w K mg base 5 C "through" ["self", "a", "b"] (sp_through false CH C) := by
  refine S.mk' sc_Even_through (fun vs H Q E h => ?_) (fun _ _ _ _ _ _ us hl => match us, hl with | [_, _, _], _ => rfl) (fun f cdv A outer s H vs Q E hr h => ?_)
  · obtain ⟨p, beds, worths, rent, way, a, b, rfl, _⟩ := h
    rfl
  · obtain ⟨p, beds, worths, rent, way, a, b, rfl, hA, ok, ha, hb, q⟩ := h
    refine ⟨_, (pss_one (ps_ret (pe_def Dwith_open (hr.mono (by decide)) rfl (pa_cons (pv 0) (pa_cons (pe_ix (ix_seqK (K := K) rfl) (pe_fldK (K := K) rfl (pv 0) rfl) (pv 2) (fun _ _ => rfl)) pa_nil))))), ?_⟩
    obtain ⟨dx, hp, wa, g1, g2, g3⟩ := hA.ex
    obtain ⟨w1, w2⟩ := ok.at_ hb
    refine ⟨_, rfl, _, rfl, p, C, dx, _, _, rfl, g1, AC.cl, AC.nW, af_way _ _, _, rfl, ?_⟩
    refine ixL (SqL.of g3) (atI_int b rfl (wI_at w1)) ?_
    exact ⟨C, p, beds, worths, rent, way, way.getD b 0, rfl, AC, hA, ok, q⟩
theorem D_Egain {CH C : Addr} (T : Txt mg) (HC : HCls K mg CH) (AC : ACls K C) (S : MSrc K C "gain" "Even.gain" s_Even_gain) (Down_worth : Def P w K mg base 1 "own_worth" ["aim", "person"] (sp_ownworth K CH)) : MDef P w K mg base 2 C "gain" ["self", "a", "r", "b"] (sp_gain false CH C) := by
  refine S.mk' sc_Even_gain (fun vs H Q E h => ?_) (fun _ _ _ _ _ _ us hl => match us, hl with | [_, _, _, _], _ => rfl) (fun f cdv A outer s H vs Q E hr h => ?_)
  · obtain ⟨p, beds, worths, rent, way, a, r, b, rfl, _⟩ := h
    rfl
  · obtain ⟨p, beds, worths, rent, way, a, r, b, rfl, hA, ok, ha, hr0, hb, q⟩ := h
    refine ⟨_, (pss_one (ps_ret (pe_op op_sub (pe_ix (ix_seqK (K := K) rfl) (pe_ix (ix_seqK (K := K) rfl) (pe_fldK (K := K) rfl (pe_fldK (K := K) rfl (pv 0) rfl) rfl) (pv 1) (fun _ _ => rfl)) (pv 2) (fun _ _ => rfl)) (pe_def Down_worth (hr.mono (by decide)) rfl (pa_cons (pv 0) (pa_cons (pv 1) pa_nil)))))), ?_⟩
    obtain ⟨dx, hp, wa, g1, g2, g3⟩ := hA.ex
    obtain ⟨dh, bd, w, h1, h2, h3⟩ := g2.ex
    obtain ⟨ws, hw, hR⟩ := id h3
    have hrow : worths[a]? = some worths[a] := by simp [ha]
    have hrl := ok.bok.rows _ (List.getElem_mem ha)
    obtain ⟨ra, e1, e2, e3⟩ := hR.at_ hrow
    have g5 : (worths[a].map V.int)[r]? = some (.int (wF worths a r)) := by simp [wF, List.getD, ha, show r < worths[a].length by omega]
    refine ⟨_, rfl, p, C, dx, _, _, rfl, g1, AC.cl, AC.nH, af_house _ _, hp, CH, dh, _, _, rfl, h1, HC.cl, HC.nW, hf_worths _ _ _, _, rfl, ?_⟩
    refine ixL (SqL.of hw) (atI_int a rfl e2) ?_
    refine ⟨_, rfl, ?_⟩
    refine ixL (SqL.of e3) (atI_int r rfl g5) ?_
    refine ⟨_, rfl, _, rfl, C, p, beds, worths, rent, way, a, rfl, AC, hA, ok, ha, ?_⟩
    exact ⟨_, _, rfl, rfl, q⟩
theorem D_Ewhole {CH C : Addr} (T : Txt mg) (HC : HCls K mg CH) (AC : ACls K C) (S : MSrc K C "whole" "Even.whole" s_Even_whole) : MDef P w K mg base 3 C "whole" ["self"] (sp_whole_ false CH C) := by
  refine S.mk' sc_Even_whole (fun vs H Q E h => ?_) (fun _ _ _ _ _ _ us hl => match us, hl with | [_], _ => rfl) (fun f cdv A outer s H vs Q E hr h => ?_)
  · obtain ⟨p, beds, worths, rent, way, rfl, _⟩ := h
    rfl
  · obtain ⟨p, beds, worths, rent, way, rfl, hA, ok, q⟩ := h
    refine ⟨_, (pss_one (ps_ret (pe_fldK (K := K) rfl (pe_fldK (K := K) rfl (pv 0) rfl) rfl))), ?_⟩
    obtain ⟨dx, hp, wa, g1, g2, g3⟩ := hA.ex
    obtain ⟨dh, bd, w, h1, h2, h3⟩ := g2.ex
    refine ⟨_, rfl, p, C, dx, _, _, rfl, g1, AC.cl, AC.nH, af_house _ _, hp, CH, dh, _, _, rfl, h1, HC.cl, HC.nR, hf_rent _ _ _, ?_⟩
    exact q _ (Same.refl _)
theorem D_Eprice {CH C : Addr} (T : Txt mg) (S : MSrc K C "price" "Even.price" s_Even_price) : MDef P w K mg base 2 C "price" ["self", "i", "level", "parts"] (sp_price false CH C) := by
  refine S.mk' sc_Even_price (fun vs H Q E h => ?_) (fun _ _ _ _ _ _ us hl => match us, hl with | [_, _, _, _], _ => rfl) (fun f cdv A outer s H vs Q E hr h => ?_)
  · obtain ⟨p, beds, worths, rent, way, i, level, parts, rfl, _⟩ := h
    rfl
  · obtain ⟨p, beds, worths, rent, way, i, level, parts, rfl, hA, ok, hi, hx, hp, q⟩ := h
    refine ⟨_, (pss_one (ps_ret (pv 2))), ?_⟩
    exact ⟨_, rfl, q⟩
theorem D_Athrough {C : Addr} (T : Txt mg) (S : MSrc K C "through" "Aim.through" s_Aim_through) : MDef P w K mg base 5 C "through" ["self", "a", "b"] sp_aempty := by
  refine S.mk' sc_Aim_through (fun vs H Q E h => ?_) (fun _ _ _ _ _ _ us hl => match us, hl with | [_, _, _], _ => rfl) (fun f cdv A outer s H vs Q E hr h => ?_)
  · obtain ⟨x, y, z, rfl, _⟩ := h
    rfl
  · obtain ⟨x, y, z, rfl, q⟩ := h
    refine ⟨_, (pss_one (ps_ret (pe_lst' pa_nil))), ?_⟩
    walk_at "go"
    exact fun l H' n => q l H' n
theorem D_Again {C : Addr} (T : Txt mg) (S : MSrc K C "gain" "Aim.gain" s_Aim_gain) : MDef P w K mg base 2 C "gain" ["self", "a", "r", "b"] sp_azero4 := by
  refine S.mk' sc_Aim_gain (fun vs H Q E h => ?_) (fun _ _ _ _ _ _ us hl => match us, hl with | [_, _, _, _], _ => rfl) (fun f cdv A outer s H vs Q E hr h => ?_)
  · obtain ⟨x, y, z, u, rfl, _⟩ := h
    rfl
  · obtain ⟨x, y, z, u, rfl, q⟩ := h
    refine ⟨_, (pss_one (ps_ret pe_int)), ?_⟩
    exact q
theorem D_Awhole {C : Addr} (T : Txt mg) (S : MSrc K C "whole" "Aim.whole" s_Aim_whole) : MDef P w K mg base 3 C "whole" ["self"] sp_azero1 := by
  refine S.mk' sc_Aim_whole (fun vs H Q E h => ?_) (fun _ _ _ _ _ _ us hl => match us, hl with | [_], _ => rfl) (fun f cdv A outer s H vs Q E hr h => ?_)
  · obtain ⟨x, rfl, _⟩ := h
    rfl
  · obtain ⟨x, rfl, q⟩ := h
    refine ⟨_, (pss_one (ps_ret pe_int)), ?_⟩
    exact q
theorem D_Aprice {C : Addr} (T : Txt mg) (S : MSrc K C "price" "Aim.price" s_Aim_price) : MDef P w K mg base 2 C "price" ["self", "i", "level", "parts"] sp_alevel := by
  refine S.mk' sc_Aim_price (fun vs H Q E h => ?_) (fun _ _ _ _ _ _ us hl => match us, hl with | [_, _, _, _], _ => rfl) (fun f cdv A outer s H vs Q E hr h => ?_)
  · obtain ⟨x, y, u, z, rfl, _⟩ := h
    rfl
  · obtain ⟨x, y, u, z, rfl, q⟩ := h
    refine ⟨_, (pss_one (ps_ret (pv 2))), ?_⟩
    exact ⟨_, rfl, q⟩
theorem D_mixed (S : Src K mg "_law_mixed" "_law_mixed" s__law_mixed) : Def P w K mg base 1 "_law_mixed" ["_law_cell", "_law_k"] sp_mixed := by
  refine S.mk' sc__law_mixed (fun vs H Q E h => ?_) (fun _ _ _ _ _ _ us hl => match us, hl with | [_, _], _ => rfl) (fun f cdv A outer s H vs Q E hr h => ?_)
  · obtain ⟨c, k, rfl, _⟩ := h
    rfl
  · obtain ⟨c, k, rfl, h1, h2, q⟩ := h
    refine ⟨_, (pss_cons (ps_set (i := 2) sc__law_mixed.nd rfl (Or.inl rfl) (pe_op op_mod (pe_op op_mulW (pe_op op_add (pe_op op_mod (pv 0) pe_int) pe_int) (pe_op op_add pe_int (pe_op op_mulW (pe_op op_mulW pe_int (pv 1)) (pv 1)))) pe_int))
      (pss_one (ps_ret (pe_op op_mod (pe_op op_mulW (pv 2) (pv 2)) pe_int)))), ?_⟩
    have b1 := mul_bd (a := 2 * k) (b := k) (A := 2000000) (B := 1000000) (by omega) (by omega) (by omega) (by omega)
    walk_at "go"
    exact q _ (Int.emod_nonneg _ (by decide)) (Int.emod_lt_of_pos _ (by decide))
theorem D_cell (T : Txt mg) (S : Src K mg "_law_cell_at" "_law_cell_at" s__law_cell_at) : Def P w K mg base 1 "_law_cell_at" ["_law_script", "_law_k"] (sp_cell K) := by
  refine S.mk' sc__law_cell_at (fun vs H Q E h => ?_) (fun _ _ _ _ _ _ us hl => match us, hl with | [_, _], _ => rfl) (fun f cdv A outer s H vs Q E hr h => ?_)
  · obtain ⟨a, ns, k, rfl, _⟩ := h
    rfl
  · obtain ⟨a, ns, k, rfl, hS, h0, q⟩ := h
    refine ⟨_, (pss_cons (ps_if (pt_cmpR op_lt (pv 1) (pe_callB (call_lenK (K := K) rfl) (by rfl) T.len boot_len' (pa_cons (pv 0) pa_nil)) (nomark _)) (pss_one (ps_ret (pe_ix (ix_seqK (K := K) rfl) (pv 0) (pv 1) (fun _ _ => rfl)))) pss_nil)
      (pss_one (ps_ret pe_int))), ?_⟩
    walk_at "go"
    refine ⟨a, _, rfl, .inl hS, ?_⟩
    walk_at "go"
    refine ite2 (fun e => ?_) (fun _ => q 0)
    walk_at "go"
    have hk : k < ns.length := by
      have := of_decide_eq_true e
      simpa using this
    exact ixInts hS h0 hk fun z _ => q z
theorem D_beds (T : Txt mg) (S : Src K mg "_law_beds" "_law_beds" s__law_beds) (D_law_mixed : Def P w K mg base 1 "_law_mixed" ["_law_cell", "_law_k"] sp_mixed) : Def P w K mg base 2 "_law_beds" ["_law_first", "_law_many"] sp_beds := by
  refine S.mk' sc__law_beds (fun vs H Q E h => ?_) (fun _ _ _ _ _ _ us hl => match us, hl with | [_, _], _ => rfl) (fun f cdv A outer s H vs Q E hr h => ?_)
  · obtain ⟨f, m, rfl, _⟩ := h
    rfl
  · obtain ⟨f, m, rfl, m0, m1, q⟩ := h
    refine ⟨_, (pss_cons (ps_set (i := 2) sc__law_beds.nd rfl (Or.inl rfl) (pe_lst' pa_nil))
      (pss_cons (ps_for PassesOwn.never rfl (pi_range1 rfl T.range (pa_cons (pv 1) pa_nil)) (pg_name (i := 3) sc__law_beds.nd rfl (Or.inl rfl))
      (pss_one (ps_expr (pe_bmK (K := K) rfl PySem.F.plainAttrs_list PySem.F.slot_list_append PySem.F.type_list_append mt_append (pv 2) (pa_cons (pe_ix (ix_seqK (K := K) rfl) (pe_lst' (pa_cons pe_int (pa_cons pe_int (pa_cons pe_int (pa_cons pe_int (pa_cons pe_int (pa_cons pe_int (pa_cons pe_int (pa_cons pe_int pa_nil))))))))) (pe_op op_mod (pe_def D_law_mixed (hr.mono (by decide)) rfl (pa_cons (pv 0) (pa_cons (pe_op op_add pe_int (pv 3)) pa_nil))) pe_int) (fun _ _ => rfl)) pa_nil)))))
      (pss_one (ps_ret (pv 2))))), ?_⟩
    walk_at "go"
    refine fun l H1 n1 => ?_
    refine ⟨_, rfl, _, rfl, by omega, by omega, ?_⟩
    refine for_range (fun i σ H' => ∃ (bs : List Int) (o : Option V), σ = [some (.int f), some (.int m), some (.ref l), o] ∧ H' l = some (.lst (bs.map V.int)) ∧ bs.length = i ∧ (∀ b ∈ bs, 1 ≤ b ∧ b ≤ 4) ∧ Same H H') ⟨[], none, rfl, n1.at_, rfl, (fun b hb => by cases hb), n1.same⟩ ?_ ?_
    · rintro i σ H2 hi ⟨bs, o, rfl, hl, hlen, hb, s2⟩
      refine ⟨_, rfl, .inl ⟨rfl, _, SqL.of hl⟩, ?_⟩
      walk_at "go"
      refine fun t H3 n3 => ?_
      walk_at "go"
      refine ⟨f, _, rfl, by omega, by omega, fun z z0 z1 => ?_⟩
      walk_at "go"
      refine ixInts (ns := [1, 1, 2, 1, 3, 1, 2, 4]) (SqL.of n3.at_) (by show (0 : Int) ≤ z % 8; omega) (by show z % 8 < 8; omega) fun x hx => ?_
      have hx' : 1 ≤ x ∧ x ≤ 4 := by
        simp only [List.mem_cons, List.not_mem_nil, or_false] at hx
        omega
      refine ⟨l, _, _, rfl, rfl, n3.same _ _ hl, by rw [sizeLine_eq]; simp; omega, ?_⟩
      refine ⟨bs ++ [x], _, rfl, by rw [upd_same]; simp, by simp [hlen], fun b hb' => ?_, fun c u e => ?_⟩
      · rcases List.mem_append.mp hb' with h | h
        · exact hb b h
        · have : b = x := by simpa using h
          rw [this]; exact hx'
      · rw [upd_ne (ne_of_none e n1.none)]
        exact n3.same _ _ (s2 _ _ e)
    · rintro σ H2 ⟨bs, o, rfl, hl, hlen, hb, s2⟩
      walk_at "go"
      exact q l bs H2 ⟨s2, n1.none, hl⟩ (by omega) hb
theorem D_worths (T : Txt mg) (S : Src K mg "_law_worths" "_law_worths" s__law_worths) (D_law_mixed : Def P w K mg base 1 "_law_mixed" ["_law_cell", "_law_k"] sp_mixed) : Def P w K mg base 2 "_law_worths" ["_law_script", "_law_first", "_law_people", "_law_rooms"] (sp_worths K) := by
  refine S.mk' sc__law_worths (fun vs H Q E h => ?_) (fun _ _ _ _ _ _ us hl => match us, hl with | [_, _, _, _], _ => rfl) (fun f cdv A outer s H vs Q E hr h => ?_)
  · obtain ⟨a, ns, f, p, r, rfl, _⟩ := h
    rfl
  · obtain ⟨a, ns, f, p, r, rfl, hS, hlen, p0, p1, r0, r1, q⟩ := h
    refine ⟨_, (pss_cons (ps_set (i := 4) sc__law_worths.nd rfl (Or.inl rfl) (pe_lst' pa_nil))
      (pss_cons (ps_for PassesOwn.never rfl (pi_range1 rfl T.range (pa_cons (pe_op op_mulW (pv 2) (pv 3)) pa_nil)) (pg_name (i := 5) sc__law_worths.nd rfl (Or.inl rfl))
      (pss_one (ps_expr (pe_bmK (K := K) rfl PySem.F.plainAttrs_list PySem.F.slot_list_append PySem.F.type_list_append mt_append (pv 4) (pa_cons (pe_def D_law_mixed (hr.mono (by decide)) rfl (pa_cons (pv 1) (pa_cons (pe_op op_add pe_int (pv 5)) pa_nil))) pa_nil)))))
      (pss_cons (ps_for PassesOwn.never rfl (pi_enumK (K := K) rfl rfl T.enumerate (pa_cons (pe_slice (sl_listK (K := K) rfl) (pv 0) (po_some pe_int) po_none) pa_nil)) (pg_tupK (K := K) (n := 2) rfl rfl (pgs_cons (pg_name (i := 5) sc__law_worths.nd rfl (Or.inl rfl)) (pgs_cons (pg_name (i := 6) sc__law_worths.nd rfl (Or.inl rfl)) pgs_nil)))
      (pss_cons (ps_set (i := 7) sc__law_worths.nd rfl (Or.inl rfl) (pe_op op_mod (pv 5) (pe_callB (call_lenK (K := K) rfl) (by rfl) T.len boot_len' (pa_cons (pv 4) pa_nil))))
      (pss_one (ps_asg (pe_op op_add (pe_op op_mod (pe_op op_mulW (pe_ix (ix_seqK (K := K) rfl) (pv 4) (pv 7) (fun _ _ => rfl)) pe_int) (pe_op op_pow pe_int pe_int)) (pe_op op_mod (pv 6) (pe_op op_pow pe_int pe_int))) (pg_sub (pv 4) (pv 7) set_list)))))
      (pss_cons (ps_set (i := 8) sc__law_worths.nd rfl (Or.inl rfl) (pe_lst' pa_nil))
      (pss_cons (ps_for PassesOwn.never rfl (pi_range1 rfl T.range (pa_cons (pv 2) pa_nil)) (pg_name (i := 9) sc__law_worths.nd rfl (Or.inl rfl))
      (pss_cons (ps_set (i := 10) sc__law_worths.nd rfl (Or.inl rfl) (pe_slice (sl_listK (K := K) rfl) (pv 4) (po_some (pe_op op_mulW (pv 9) (pv 3))) (po_some (pe_op op_add (pe_op op_mulW (pv 9) (pv 3)) (pv 3)))))
      (pss_cons (ps_join (ps_if (pt_cmpR op_eq (pe_op op_mod (pv 1) pe_int) pe_int (nomark _)) (pss_one (ps_setC (i := 10) sc__law_worths.nd rfl (Or.inl rfl) ["_law_number"] [none] rfl rfl rfl (pi_listK (K := K) rfl (pv 10)) (fun _ _ _ _ => (pg_name (i := 0) (by decide +kernel : (["_law_number"] : List PySem.Str).Nodup) rfl (Or.inl rfl))) (fun _ _ _ _ => pifs_nil) (fun _ _ _ _ => (pe_op op_mod (pv 0) pe_int)))) (pss_one (ps_if (pt_cmpR op_eq (pe_op op_mod (pv 1) pe_int) pe_int (nomark _)) (pss_one (ps_setC (i := 10) sc__law_worths.nd rfl (Or.inl rfl) ["_law_number"] [none] rfl rfl rfl (pi_listK (K := K) rfl (pv 10)) (fun _ _ _ _ => (pg_name (i := 0) (by decide +kernel : (["_law_number"] : List PySem.Str).Nodup) rfl (Or.inl rfl))) (fun _ _ _ _ => pifs_nil) (fun _ _ _ _ => (pe_op op_sub (pe_op op_mod (pv 0) pe_int) pe_int)))) (pss_one (ps_if (pt_cmpR op_eq (pe_op op_mod (pv 1) pe_int) pe_int (nomark _)) (pss_one (ps_setC (i := 10) sc__law_worths.nd rfl (Or.inl rfl) ["_law_number"] [none] rfl rfl rfl (pi_listK (K := K) rfl (pv 10)) (fun _ _ _ _ => (pg_name (i := 0) (by decide +kernel : (["_law_number"] : List PySem.Str).Nodup) rfl (Or.inl rfl))) (fun _ _ _ _ => pifs_nil) (fun _ _ _ _ => (pe_op op_add (pe_op op_sub (pe_op op_mod (pv 0) (pe_op op_sub (pe_op op_mulW pe_int (pe_op op_pow pe_int pe_int)) pe_int)) (pe_op op_pow pe_int pe_int)) pe_int)))) (pss_one (ps_setC (i := 10) sc__law_worths.nd rfl (Or.inl rfl) ["_law_number"] [none] rfl rfl rfl (pi_listK (K := K) rfl (pv 10)) (fun _ _ _ _ => (pg_name (i := 0) (by decide +kernel : (["_law_number"] : List PySem.Str).Nodup) rfl (Or.inl rfl))) (fun _ _ _ _ => pifs_nil) (fun _ _ _ _ => (pe_op op_mulW (pe_op op_mod (pv 0) pe_int) pe_int))))))))))
      (pss_one (ps_expr (pe_bmK (K := K) rfl PySem.F.plainAttrs_list PySem.F.slot_list_append PySem.F.type_list_append mt_append (pv 8) (pa_cons (pv 10) pa_nil)))))))
      (pss_one (ps_ret (pv 8)))))))), ?_⟩
    have hpr := mul_bd (a := p) (b := r) (A := 10) (B := 10) (by omega) (by omega) (by omega) (by omega)
    have hpr0 : 0 < p * r := Int.mul_pos (by omega) (by omega)
    walk_at "go"
    refine fun l H1 n1 => ?_
    walk_at "go"
    -- sums
    refine for_range (fun i σ H' => ∃ (bs : List Int) (o5 o6 o7 o8 o9 o10 : Option V), σ = [some (.ref a), some (.int f), some (.int p), some (.int r), some (.ref l), o5, o6, o7, o8, o9, o10] ∧ H' l = some (.lst (bs.map V.int)) ∧ bs.length = i ∧ (∀ b ∈ bs, 0 ≤ b ∧ b < 10 ^ 42) ∧ Same H H') ⟨[], none, none, none, none, none, none, rfl, n1.at_, rfl, (fun b hb => by cases hb), n1.same⟩ ?_ ?_
    · rintro i σ H2 hi ⟨bs, o5, o6, o7, o8, o9, o10, rfl, hl, hlen, hb, s2⟩
      refine ⟨_, rfl, .inl ⟨rfl, _, SqL.of hl⟩, ?_⟩
      walk_at "go"
      refine ⟨f, _, rfl, by omega, by omega, fun z z0 z1 => ?_⟩
      refine ⟨l, _, _, rfl, rfl, hl, by rw [sizeLine_eq]; simp; omega, ?_⟩
      refine ⟨bs ++ [z], _, _, _, _, _, _, rfl, by rw [upd_same]; simp, by simp [hlen], fun b hb' => ?_, fun c u e => ?_⟩
      · rcases List.mem_append.mp hb' with h | h
        · exact hb b h
        · have : b = z := by simpa using h
          rw [this]; omega
      · rw [upd_ne (ne_of_none e n1.none)]
        exact s2 _ _ e
    rintro σ H2 ⟨bs, o5, o6, o7, o8, o9, o10, rfl, hl, hlen', hb, s2⟩
    -- the cells
    refine ⟨_, rfl, _, rfl, a, _, rfl, s2.seq hS, fun c1 H3 n3 => ?_⟩
    obtain ⟨ms, em, lm⟩ := cut_ints ns (some 1) none
    rw [em] at n3
    have hl3 := n3.same _ _ hl
    have S3 : Same H H3 := s2.trans n3.same
    have nlc : c1 ≠ l := (ne_of_none hl n3.none).symm
    refine ⟨c1, rfl, ⟨_, SqL.of n3.at_⟩, ?_⟩
    refine for_enum (xs := ms.map V.int) (fun i σ H' => ∃ (bs' : List Int) (o5 o6 o7 o8 o9 o10 : Option V), σ = [some (.ref a), some (.int f), some (.int p), some (.int r), some (.ref l), o5, o6, o7, o8, o9, o10] ∧ H' l = some (.lst (bs'.map V.int)) ∧ bs'.length = bs.length ∧ (∀ b ∈ bs', 0 ≤ b ∧ b < 10 ^ 42) ∧ Same H H' ∧ H' c1 = some (.lst (ms.map V.int)))
      ⟨bs, _, _, _, _, _, _, rfl, hl3, rfl, hb, S3, n3.at_⟩ (fun i σ H' _ ⟨_, _, _, _, _, _, _, _, _, _, _, _, h⟩ => SqL.of h) ?_ ?_
    · rintro i x σ H4 T4 hx ⟨bs', o5, o6, o7, o8, o9, o10, rfl, hl4, hlen4, hb4, s4, hc4⟩ hT4
      obtain ⟨z, hz, rfl⟩ := int_at hx
      have hi : i < ms.length := (List.getElem?_eq_some_iff.mp hz).1
      refine ⟨T4, [.int i, .int z], rfl, SqT.of upd_same, rfl, _, _, rfl, _, _, rfl, rfl, ?_⟩
      have s5 : Same H4 (upd H4 T4 (.tup [.int i, .int z])) := Same.upd hT4
      generalize upd H4 T4 (.tup [.int i, .int z]) = H5 at *
      have hl5 := s5 _ _ hl4
      have hbl : 0 < bs'.length := by omega
      -- at = k % len(sums)
      walk_at "go"
      refine ⟨l, _, rfl, .inl (SqL.of hl5), ?_⟩
      refine ⟨_, _, rfl, rfl, by simp; omega, ?_⟩
      have e1 : (i : Int) % ((bs'.map V.int).length : Int) = ((i % bs'.length : Nat) : Int) := by simp
      dsimp only
      rw [e1]
      have hj : i % bs'.length < bs'.length := Nat.mod_lt _ hbl
      generalize i % bs'.length = j at *
      have gj : (bs'.map V.int)[j]? = some (.int bs'[j]) := by simp [hj]
      obtain ⟨bj0, bj1⟩ := hb4 _ (List.getElem_mem hj)
      have gz := Int.emod_lt_of_pos z (show (0 : Int) < 10 ^ Int.toNat 41 by decide)
      have gz0 := Int.emod_nonneg z (show (10 : Int) ^ Int.toNat 41 ≠ 0 by decide)
      have gy := Int.emod_lt_of_pos (bs'[j] * 31) (show (0 : Int) < 10 ^ Int.toNat 41 by decide)
      have gy0 := Int.emod_nonneg (bs'[j] * 31) (show (10 : Int) ^ Int.toNat 41 ≠ 0 by decide)
      have ge : (10 : Int) ^ Int.toNat 41 = 10 ^ 41 := rfl
      walk_at "go"
      refine ixL (SqL.of hl5) (atI_int j rfl gj) ?_
      walk_at "go"
      refine ⟨l, _, _, j, rfl, rfl, hl5, ?_, ?_⟩
      · unfold ixN
        rw [if_pos (by omega), if_pos (by simp; omega)]
        simp
      refine ⟨bs'.set j (bs'[j] * 31 % 10 ^ Int.toNat 41 + z % 10 ^ Int.toNat 41), _, _, _, _, _, _, rfl, by rw [upd_same, List.map_set], by simp [hlen4], fun b hb' => ?_, fun c u e => ?_, ?_⟩
      · rcases List.mem_or_eq_of_mem_set hb' with h | h
        · exact hb4 b h
        · rw [h]; omega
      · rw [upd_ne (ne_of_none e n1.none)]
        exact s5 _ _ (s4 _ _ e)
      · rw [upd_ne nlc]
        exact s5 _ _ hc4
    rintro σ H4 ⟨bs', o5', o6', o7', o8', o9', o10', rfl, hl4, hlen4, hb4, s4, hc4⟩
    -- the rows
    walk_at "go"
    refine fun W H5 n5 => ?_
    walk_at "go"
    have S5 : Same H H5 := s4.trans n5.same
    have hl5 := n5.same _ _ hl4
    have fW : H W = none := s4.free n5.none
    have nlW : l ≠ W := ne_of_none hl4 n5.none
    refine for_range (fun i σ H' => ∃ (ws : List Addr) (rows : List (List Int)) (o5 o6 o7 o9 o10 : Option V), σ = [some (.ref a), some (.int f), some (.int p), some (.int r), some (.ref l), o5, o6, o7, some (.ref W), o9, o10] ∧ H' W = some (.lst (ws.map V.ref)) ∧ rows.length = i ∧ Rows H' ws rows ∧ (∀ w ∈ ws, w ≠ W) ∧ (∀ row ∈ rows, (row.length : Int) = r) ∧ (∀ row ∈ rows, ∀ x ∈ row, -(10 ^ 40) < x ∧ x < 10 ^ 40) ∧ Same H H' ∧ H' l = some (.lst (bs'.map V.int)))
      ⟨[], [], _, _, _, _, _, rfl, n5.at_, rfl, ⟨rfl, fun i a row h => by simp at h⟩, (fun w h => by cases h), (fun w h => by cases h), (fun w h => by cases h), S5, hl5⟩ ?_ ?_
    · rintro i σ H6 hi ⟨ws, rows, o5, o6, o7, o9, o10, rfl, hW, hrl, hR, hne, hr1, hr2, s6, hl6⟩
      have hir : ((i : Int) + 1) * r ≤ p * r := Int.mul_le_mul_of_nonneg_right (by omega) (by omega)
      have hir0 : 0 ≤ (i : Int) * r := Int.mul_nonneg (by omega) (by omega)
      have hir1 : ((i : Int) + 1) * r = (i : Int) * r + r := by rw [Int.add_mul, Int.one_mul]
      have hbig : (i : Int) * r ≤ 100 := by omega
      -- row = sums[i * rooms : i * rooms + rooms]
      have e0 : (0 + (i : Int)) * r = ((i * r.toNat : Nat) : Int) := by
        rw [Int.zero_add, Int.natCast_mul]
        congr 1
        omega
      have e1 : ((i * r.toNat : Nat) : Int) + r = ((i * r.toNat + r.toNat : Nat) : Int) := by
        rw [Int.natCast_add]
        congr 1
        omega
      have e2 : i * r.toNat + r.toNat ≤ bs'.length := by
        have : ((i * r.toNat + r.toNat : Nat) : Int) ≤ (bs'.length : Int) := by
          rw [← e1, ← e0, Int.zero_add]
          omega
        exact Int.ofNat_le.mp this
      walk_at "go"
      rw [e0, e1]
      refine ⟨l, _, rfl, SqL.of hl6, fun c H7 n7 => ?_⟩
      rw [cut_between bs' (Nat.le_add_right _ _) e2] at n7
      have hcl : ((bs'.drop (i * r.toNat)).take (i * r.toNat + r.toNat - i * r.toNat)).length = r.toNat := by
        rw [List.length_take, List.length_drop]
        omega
      have hcb : ∀ z ∈ (bs'.drop (i * r.toNat)).take (i * r.toNat + r.toNat - i * r.toNat), 0 ≤ z ∧ z < 10 ^ 42 := fun z hz => hb4 z (List.mem_of_mem_drop (List.mem_of_mem_take hz))
      generalize (bs'.drop (i * r.toNat)).take (i * r.toNat + r.toNat - i * r.toNat) = cs at *
      have hW7 := n7.same _ _ hW
      have S7 : Same H H7 := s6.trans n7.same
      have key : ∀ (g : Int → Int) (D : Addr) (H8 : Hp), (∀ z, 0 ≤ z → -(10 ^ 40) < g z ∧ g z < 10 ^ 40) → H7 D = none → Same H7 H8 → H8 D = some (.lst ((cs.map g).map V.int)) →
          ∃ (c' : Addr) (row : List Int), D = c' ∧ H8 c' = some (.lst (row.map V.int)) ∧ (row.length : Int) = r ∧ (∀ x ∈ row, -(10 ^ 40) < x ∧ x < 10 ^ 40) ∧ c' ≠ W ∧ Same H7 H8 := fun g D H8 hg hD s8 h8 =>
        ⟨D, cs.map g, rfl, h8, by rw [List.length_map, hcl]; omega, fun x hx => by
          obtain ⟨z, hz, rfl⟩ := List.mem_map.mp hx
          exact hg z (hcb z hz).1, (ne_of_none hW7 hD).symm, s8⟩
      refine ⟨fun σ' H' => ∃ (c' : Addr) (row : List Int), σ' = [some (.ref a), some (.int f), some (.int p), some (.int r), some (.ref l), o5, o6, o7, some (.ref W), some (.int (0 + (i : Int))), some (.ref c')] ∧ H' c' = some (.lst (row.map V.int)) ∧ (row.length : Int) = r ∧ (∀ x ∈ row, -(10 ^ 40) < x ∧ x < 10 ^ 40) ∧ c' ≠ W ∧ Same H7 H', ?_, ?_⟩
      · walk_at "go"
        refine ite2 (fun _ => ?_) (fun _ => ?_)
        · refine ⟨_, rfl, c, rfl, ⟨_, SqL.of n7.at_⟩, fun D hD => ?_⟩
          refine compMap cs (fun z => z % 3) (SqL.of n7.at_) (by rw [hcl, sizeLine_eq]; omega) hD (fun z hz H8 N s8 hN => ?_) fun H8 s8 h8 => ?_
          · walk_at "go"
            exact hN
          · obtain ⟨c', row, rfl, k1, k2, k3, k4, k5⟩ := key _ D H8 (fun z hz => by omega) hD s8 h8
            exact ⟨D, row, rfl, k1, k2, k3, k4, k5⟩
        · walk_at "go"
          refine ite2 (fun _ => ?_) (fun _ => ?_)
          · refine ⟨_, rfl, c, rfl, ⟨_, SqL.of n7.at_⟩, fun D hD => ?_⟩
            refine compMap cs (fun z => z % 2001 - 500) (SqL.of n7.at_) (by rw [hcl, sizeLine_eq]; omega) hD (fun z hz H8 N s8 hN => ?_) fun H8 s8 h8 => ?_
            · walk_at "go"
              exact hN
            · obtain ⟨c', row, rfl, k1, k2, k3, k4, k5⟩ := key _ D H8 (fun z hz => by omega) hD s8 h8
              exact ⟨D, row, rfl, k1, k2, k3, k4, k5⟩
          · walk_at "go"
            refine ite2 (fun _ => ?_) (fun _ => ?_)
            · refine ⟨_, rfl, c, rfl, ⟨_, SqL.of n7.at_⟩, fun D hD => ?_⟩
              refine compMap cs (fun z => z % (2 * 10 ^ Int.toNat 40 - 1) - 10 ^ Int.toNat 40 + 1) (SqL.of n7.at_) (by rw [hcl, sizeLine_eq]; omega) hD (fun z hz H8 N s8 hN => ?_) fun H8 s8 h8 => ?_
              · walk_at "go"
                exact hN
              · obtain ⟨c', row, rfl, k1, k2, k3, k4, k5⟩ := key _ D H8 (fun z hz => by
                  have g1 := Int.emod_nonneg z (show (2 * 10 ^ Int.toNat 40 - 1 : Int) ≠ 0 by decide)
                  have g2 := Int.emod_lt_of_pos z (show (0 : Int) < 2 * 10 ^ Int.toNat 40 - 1 by decide)
                  have ge : (10 : Int) ^ Int.toNat 40 = 10 ^ 40 := rfl
                  rw [ge] at g1 g2 ⊢
                  omega) hD s8 h8
                exact ⟨D, row, rfl, k1, k2, k3, k4, k5⟩
            · refine ⟨_, rfl, c, rfl, ⟨_, SqL.of n7.at_⟩, fun D hD => ?_⟩
              refine compMap cs (fun z => z % 9 * 100) (SqL.of n7.at_) (by rw [hcl, sizeLine_eq]; omega) hD (fun z hz H8 N s8 hN => ?_) fun H8 s8 h8 => ?_
              · walk_at "go"
                exact hN
              · obtain ⟨c', row, rfl, k1, k2, k3, k4, k5⟩ := key _ D H8 (fun z hz => by omega) hD s8 h8
                exact ⟨D, row, rfl, k1, k2, k3, k4, k5⟩
      · rintro σ' H8 ⟨c', row, rfl, h8, l8, b8, n8, s8⟩
        have hW8 := s8 _ _ hW7
        have hwl : ws.length = i := by rw [hR.1, hrl]
        refine ⟨_, rfl, .inl ⟨rfl, _, SqL.of hW8⟩, _, rfl, W, _, _, rfl, rfl, hW8, by rw [sizeLine_eq, List.length_map]; omega, ?_⟩
        refine ⟨ws ++ [c'], rows ++ [row], _, _, _, _, _, rfl, by rw [upd_same]; simp, by simp [hrl], hR.snoc (fun a ha o e => ?_) ?_, fun w hw => ?_, fun w hw => ?_, fun w hw => ?_, fun b o e => ?_, ?_⟩
        · rw [upd_ne (hne a ha)]
          exact s8 _ _ (n7.same _ _ e)
        · rw [upd_ne n8]
          exact h8
        · rcases List.mem_append.mp hw with h | h
          · exact hne w h
          · have : w = c' := by simpa using h
            rw [this]; exact n8
        · rcases List.mem_append.mp hw with h | h
          · exact hr1 w h
          · have : w = row := by simpa using h
            rw [this]; exact l8
        · rcases List.mem_append.mp hw with h | h
          · exact hr2 w h
          · have : w = row := by simpa using h
            rw [this]; exact b8
        · rw [upd_ne (ne_of_none e fW)]
          exact s8 _ _ (S7 _ _ e)
        · rw [upd_ne nlW]
          exact s8 _ _ (n7.same _ _ hl6)
    · rintro σ H6 ⟨ws, rows, o5, o6, o7, o9, o10, rfl, hW, hrl, hR, hne, hr1, hr2, s6, hl6⟩
      walk_at "go"
      exact q W rows H6 s6 ⟨ws, hW, hR⟩ (by omega) hr1 hr2
theorem D_house (T : Txt mg) (S : Src K mg "_law_house" "_law_house" s__law_house) (D_law_mixed : Def P w K mg base 1 "_law_mixed" ["_law_cell", "_law_k"] sp_mixed) (D_law_cell_at : Def P w K mg base 1 "_law_cell_at" ["_law_script", "_law_k"] (sp_cell K)) (D_law_beds : Def P w K mg base 2 "_law_beds" ["_law_first", "_law_many"] sp_beds) (D_law_worths : Def P w K mg base 2 "_law_worths" ["_law_script", "_law_first", "_law_people", "_law_rooms"] (sp_worths K)) : Def P w K mg base 3 "_law_house" ["_law_script", "_law_most_people", "_law_most_rooms"] (sp_house K) := by
  refine S.mk' sc__law_house (fun vs H Q E h => ?_) (fun _ _ _ _ _ _ us hl => match us, hl with | [_, _, _], _ => rfl) (fun f cdv A outer s H vs Q E hr h => ?_)
  · obtain ⟨a, ns, mp, mr, rfl, _⟩ := h
    rfl
  · obtain ⟨a, ns, mp, mr, rfl, hS, hlen, p0, p1, r0, r1, q⟩ := h
    refine ⟨_, (pss_cons (ps_set (i := 3) sc__law_house.nd rfl (Or.inl rfl) (pe_def D_law_mixed (hr.mono (by decide)) rfl (pa_cons (pe_def D_law_cell_at (hr.mono (by decide)) rfl (pa_cons (pv 0) (pa_cons pe_int pa_nil))) (pa_cons pe_int pa_nil))))
      (pss_cons (ps_set (i := 4) sc__law_house.nd rfl (Or.inl rfl) (pe_def D_law_beds (hr.mono (by decide)) rfl (pa_cons (pv 3) (pa_cons (pe_op op_add pe_int (pe_op op_mod (pe_op op_fdivW (pv 3) pe_int) (pv 2))) pa_nil))))
      (pss_cons (ps_set (i := 5) sc__law_house.nd rfl (Or.inl rfl) (pe_op op_add pe_int (pe_op op_mod (pe_op op_fdivW (pv 3) pe_int) (pe_callB (call_min2 rfl) (by rfl) T.min boot_min' (pa_cons (pv 1) (pa_cons (pe_callB (call_sumK (K := K) rfl rfl) (by rfl) T.sum boot_sum' (pa_cons (pv 4) pa_nil)) pa_nil))))))
      (pss_cons (ps_set (i := 6) sc__law_house.nd rfl (Or.inl rfl) (pe_def D_law_worths (hr.mono (by decide)) rfl (pa_cons (pv 0) (pa_cons (pv 3) (pa_cons (pv 5) (pa_cons (pe_callB (call_lenK (K := K) rfl) (by rfl) T.len boot_len' (pa_cons (pv 4) pa_nil)) pa_nil))))))
      (pss_cons (ps_set (i := 7) sc__law_house.nd rfl (Or.inl rfl) (pe_op op_mod (pe_op op_fdivW (pv 3) pe_int) pe_int))
      (pss_cons (ps_join (ps_if (pt_cmpR op_eq (pe_op op_mod (pe_op op_fdivW (pv 3) pe_int) pe_int) pe_int (nomark _)) (pss_one (ps_set (i := 7) sc__law_house.nd rfl (Or.inl rfl) (pe_op op_add (pe_op op_sub (pe_op op_mod (pe_def D_law_cell_at (hr.mono (by decide)) rfl (pa_cons (pv 0) (pa_cons pe_int pa_nil))) (pe_op op_sub (pe_op op_mulW pe_int (pe_op op_pow pe_int pe_int)) pe_int)) (pe_op op_pow pe_int pe_int)) pe_int))) pss_nil))
      (pss_one (ps_ret (pe_tup' (pa_cons (pv 4) (pa_cons (pv 6) (pa_cons (pv 7) pa_nil)))))))))))), ?_⟩
    walk_at "go"
    refine ⟨a, ns, _, rfl, hS, by decide, fun z0 => ?_⟩
    walk_at "go"
    refine ⟨z0, _, rfl, by decide, by decide, fun m m0 m1 => ?_⟩
    walk_at "go"
    have g1 := Int.emod_nonneg (m / 4) (show mr ≠ 0 by omega)
    have g2 := Int.emod_lt_of_pos (m / 4) (show 0 < mr by omega)
    refine ⟨m, _, rfl, by omega, by omega, fun b bs H1 n1 hbl hbb => ?_⟩
    have hb1 : 1 ≤ bs.length := by omega
    have hs1 := sum_ge (bs := bs) fun x hx => (hbb x hx).1
    have hs2 := sum_le (bs := bs) (m := 4) fun x hx => (hbb x hx).2
    walk_at "go"
    refine ⟨b, bs, rfl, SqL.of n1.at_, ?_⟩
    refine ⟨_, _, rfl, ?_⟩
    have hmin : 1 ≤ (if bs.sum < mp then bs.sum else mp) ∧ (if bs.sum < mp then bs.sum else mp) ≤ mp ∧ (if bs.sum < mp then bs.sum else mp) ≤ bs.sum := by
      split <;> omega
    generalize (if bs.sum < mp then bs.sum else mp) = mn at *
    have g3 := Int.emod_nonneg (m / 40) (show mn ≠ 0 by omega)
    have g4 := Int.emod_lt_of_pos (m / 40) (show 0 < mn by omega)
    walk_at "go"
    refine ⟨b, _, rfl, .inl (SqL.of n1.at_), ?_⟩
    rw [List.length_map]
    refine ⟨a, ns, m, _, _, rfl, n1.same.seq hS, hlen, by omega, by omega, by omega, by omega, fun w rows H2 s2 hM hrl hr1 hr2 => ?_⟩
    walk_at "go"
    have S2 : Same H H2 := n1.same.trans s2
    refine ⟨fun σ' H' => H' = H2 ∧ ∃ rent : Int, σ' = [some (.ref a), some (.int mp), some (.int mr), some (.int m), some (.ref b), some (.int (1 + m / 40 % mn)), some (.ref w), some (.int rent)] ∧ -(10 ^ 40) < rent ∧ rent < 10 ^ 40, ?_, ?_⟩
    · walk_at "go"
      refine ite2 (fun _ => ?_) (fun _ => ?_)
      · walk_at "go"
        refine ⟨a, ns, _, rfl, S2.seq hS, by decide, fun z => ?_⟩
        have g5 := Int.emod_nonneg z (show (2 * 10 ^ Int.toNat 40 - 1 : Int) ≠ 0 by decide)
        have g6 := Int.emod_lt_of_pos z (show (0 : Int) < 2 * 10 ^ Int.toNat 40 - 1 by decide)
        have ge : (10 : Int) ^ Int.toNat 40 = 10 ^ 40 := rfl
        walk_at "go"
        rw [ge] at g5 g6
        show z % (2 * 10 ^ Int.toNat 40 - 1) - 10 ^ Int.toNat 40 + 1 < 10 ^ 40
        rw [ge]
        omega
      · exact ⟨rfl, _, rfl, by omega, by omega⟩
    · rintro σ' H' ⟨rfl, rent, rfl, e1, e2⟩
      walk_at "go"
      refine fun t H3 n3 => ?_
      refine q t b w bs rows rent H3 (S2.trans n3.same) n3.at_ (n3.same _ _ (s2 _ _ n1.at_)) (hM.same n3.same) ⟨hb1, by omega, hbb, by omega, by omega, by omega, fun row hr => ?_, hr2, e1, e2⟩
      have := hr1 row hr
      omega
theorem D_whole (T : Txt mg) (S : Src K mg "_law_whole" "_law_whole" s__law_whole) : Def P w K mg base 1 "_law_whole" ["_law_found"] sp_whole := by
  refine S.mk' sc__law_whole (fun vs H Q E h => ?_) (fun _ _ _ _ _ _ us hl => match us, hl with | [_], _ => rfl) (fun f cdv A outer s H vs Q E hr h => ?_)
  · obtain ⟨i, rfl, _⟩ := h
    rfl
  · obtain ⟨i, rfl, q⟩ := h
    refine ⟨_, (pss_one (ps_ret (pe_and (pe_callB (call_isinstK (K := K) rfl) (by rfl) T.isinstance boot_isinstance' (pa_cons (pv 0) (pa_cons (pe_bltn (v := .ty "int") rfl T.int boot_int' rfl) pa_nil))) (pe_one (pe_not (pe_callB (call_isinstK (K := K) rfl) (by rfl) T.isinstance boot_isinstance' (pa_cons (pv 0) (pa_cons (pe_bltn (v := .ty "bool") rfl T.bool boot_bool' rfl) pa_nil)))))))), ?_⟩
    walk_at "go"
    refine ⟨_, _, _, true, rfl, .int _, kit_same _ _, _, rfl, iteT ?_⟩
    walk_at "go"
    refine ⟨_, _, _, false, rfl, .int _, kit_ib _, _, rfl, ?_⟩
    exact q
theorem D_wholesN (T : Txt mg) (S : Src K mg "_law_wholes" "_law_wholes" s__law_wholes) (D_law_whole : Def P w K mg base 1 "_law_whole" ["_law_found"] sp_whole) : Def P w K mg base 2 "_law_wholes" ["_law_found", "_law_many"] sp_wholesN := by
  refine S.mk' sc__law_wholes (fun vs H Q E h => ?_) (fun _ _ _ _ _ _ us hl => match us, hl with | [_, _], _ => rfl) (fun f cdv A outer s H vs Q E hr h => ?_)
  · obtain ⟨a, ns, rfl, _⟩ := h
    rfl
  · obtain ⟨a, ns, rfl, ha, hl, q⟩ := h
    refine ⟨_, (pss_cons (ps_if (PW.pt (pw_or (pt_not (pt_val (pe_callB (call_isinstK (K := K) rfl) (by rfl) T.isinstance boot_isinstance' (pa_cons (pv 0) (pa_cons (pe_bltn (v := .ty "list") rfl T.list boot_list' rfl) pa_nil))))) (pw_or1 (pt_cmpR op_ne (pe_callB (call_lenK (K := K) rfl) (by rfl) T.len boot_len' (pa_cons (pv 0) pa_nil)) (pv 1) (nomark _))))) (pss_one (ps_ret pe_bl)) pss_nil)
      (pss_one (ps_ret (pe_callB (call_allK (K := K) rfl rfl) (by rfl) T.all boot_all' (pa_cons (pe_comp ["_law_number"] [none] rfl rfl rfl (pi_listK (K := K) rfl (pv 0)) (fun _ _ _ _ => (pg_name (i := 0) (by decide +kernel : (["_law_number"] : List PySem.Str).Nodup) rfl (Or.inl rfl))) (fun _ _ _ _ => pifs_nil) (fun _ _ _ _ => (pe_def D_law_whole (hr.mono (by decide)) rfl (pa_cons (pv 0) pa_nil)))) pa_nil))))), ?_⟩
    walk_at "go"
    refine ⟨_, _, _, true, rfl, .lst ha, kit_same _ _, _, rfl, iteF ?_⟩
    walk_at "go"
    refine ⟨a, _, rfl, .inl (SqL.of ha), ?_⟩
    rw [List.length_map]
    walk_at "go"
    refine iteE (by simp) ?_
    walk_at "go"
    refine ⟨⟨_, SqL.of ha⟩, fun D8 hD8 => ?_⟩
    refine compMapV ns (fun _ => .bl true) (SqL.of ha) (by rw [sizeLine_eq]; omega) hD8 (fun z hz H8 N s8 hN => ?_) fun H8 s8 d8 => ?_
    · walk_at "go"
      exact hN _ (Same.refl _)
    have d8' : H8 D8 = some (.lst ((ns.map fun _ => true).map V.bl)) := by rw [d8, List.map_map]; rfl
    refine ⟨D8, _, rfl, SqL.of d8', ?_⟩
    rw [show ((ns.map fun _ => true).all id) = true by simp]
    exact q _ s8
theorem D_wayF (T : Txt mg) (S : Src K mg "_law_way" "_law_way" s__law_way) (D_law_mixed : Def P w K mg base 1 "_law_mixed" ["_law_cell", "_law_k"] sp_mixed) : Def P w K mg base 2 "_law_way" ["_law_beds_here", "_law_people", "_law_first"] (sp_wayF K) := by
  refine S.mk' sc__law_way (fun vs H Q E h => ?_) (fun _ _ _ _ _ _ us hl => match us, hl with | [_, _, _], _ => rfl) (fun f cdv A outer s H vs Q E hr h => ?_)
  · obtain ⟨b, beds, p, f, rfl, _⟩ := h
    rfl
  · obtain ⟨b, beds, p, f, rfl, hb, lb, hb0, p0, p1, p2, q⟩ := h
    refine ⟨_, (pss_cons (ps_set (i := 3) sc__law_way.nd rfl (Or.inr rfl) (pe_lst' pa_nil))
      (pss_cons (ps_for PassesOwn.never rfl (pi_range1 rfl T.range (pa_cons (pv 1) pa_nil)) (pg_name (i := 4) sc__law_way.nd rfl (Or.inl rfl))
      (pss_cons (ps_setC (i := 5) sc__law_way.nd rfl (Or.inl rfl) ["_law_r", "_law_beds_here", "_law_way_here"] [none, some 0, some 3] rfl rfl rfl (pi_range1 rfl T.range (pa_cons (pe_callB (call_lenK (K := K) rfl) (by rfl) T.len boot_len' (pa_cons (pv 0) pa_nil)) pa_nil)) (fun _ _ _ _ => (pg_name (i := 0) (by decide +kernel : (["_law_r", "_law_beds_here", "_law_way_here"] : List PySem.Str).Nodup) rfl (Or.inl rfl))) (fun _ _ _ _ => (pifs_one (pt_cmpR op_lt (pe_bmK (K := K) rfl PySem.F.plainAttrs_list PySem.F.slot_list_count PySem.F.type_list_count (mt_countK (K := K) rfl) (pv 2) (pa_cons (pv 0) pa_nil)) (pe_ix (ix_seqK (K := K) rfl) (pv 1) (pv 0) (fun _ _ => rfl)) (nomark _)))) (fun _ _ _ _ => (pv 0)))
      (pss_one (ps_expr (pe_bmK (K := K) rfl PySem.F.plainAttrs_list PySem.F.slot_list_append PySem.F.type_list_append mt_append (pv 3) (pa_cons (pe_ix (ix_seqK (K := K) rfl) (pv 5) (pe_op op_mod (pe_def D_law_mixed (hr.mono (by decide)) rfl (pa_cons (pv 2) (pa_cons (pe_op op_add pe_int (pv 4)) pa_nil))) (pe_callB (call_lenK (K := K) rfl) (by rfl) T.len boot_len' (pa_cons (pv 5) pa_nil))) (fun _ _ => rfl)) pa_nil))))))
      (pss_one (ps_ret (pv 3))))), ?_⟩
    walk_at "go"
    refine fun l H1 n1 => ?_
    walk_at "go"
    refine for_range (fun i σ H' => ∃ (way : List Nat) (o4 o5 : Option V), σ = [some (.ref b), some (.int p), some (.int f), some (.ref l), o4, o5] ∧ H' l = some (.lst ((wI way).map V.int)) ∧ way.length = i ∧ Fit (bF beds) way ∧ Same H H') ⟨[], none, none, rfl, n1.at_, rfl, (fun r => by simp), n1.same⟩ ?_ ?_
    · rintro i σ H2 hi ⟨way, o4, o5, rfl, hl, hlen, hf, s2⟩
      have hb2 := s2 _ _ hb
      refine ⟨_, rfl, b, _, rfl, .inl (SqL.of hb2), ?_⟩
      rw [List.length_map]
      refine ⟨_, rfl, by omega, by omega, fun D hD => ?_⟩
      rw [Int.toNat_natCast]
      refine compIf_range (fun (r : Nat) => decide ((((wI way).count (r : Int) : Nat) : Int) < beds.getD r 0)) (fun (r : Nat) => .int r) (by rw [sizeLine_eq]; omega) hD ?_ ?_ ?_
      · rintro r H3 N hr s3 hN
        have g2 : (beds.map V.int)[r]? = some (.int (beds.getD r 0)) := by simp [hr, List.getD]
        refine ⟨_, rfl, .inl ⟨rfl, _, SqL.of (s3 _ _ hl)⟩, _, rfl, l, wI way, _, rfl, rfl, SqL.of (s3 _ _ hl), ?_⟩
        rw [show (0 : Int) + (r : Int) = (r : Int) by omega]
        walk_at "go"
        refine ixL (SqL.of (s3 _ _ hb2)) (atI_int r (by omega) g2) ?_
        exact ⟨_, _, rfl, rfl, _, rfl, hN _ (Same.refl _)⟩
      · rintro r H3 N hr hp s3 hN
        walk_at "go"
        have := hN _ (Same.refl _)
        rw [Int.zero_add]
        exact this
      · rintro H3 s3 d3
        have d3' : H3 D = some (.lst ((openL beds (wI way)).map V.int)) := by
          rw [d3]
          unfold openL
          rw [List.map_map]
          rfl
        have hl3 := s3 _ _ hl
        obtain ⟨r1, hr1, hr2⟩ := open_ex (beds := beds) (way := way) (by omega) hb0
        have hpos : 0 < (openL beds (wI way)).length := List.length_pos_of_mem (mem_open.mpr ⟨r1, rfl, hr1, hr2⟩)
        generalize hop : openL beds (wI way) = os at *
        refine ⟨_, rfl, .inl ⟨rfl, _, SqL.of hl3⟩, ?_⟩
        walk_at "go"
        refine ⟨f, _, rfl, by omega, by omega, fun z z1 z2 => ?_⟩
        walk_at "go"
        refine ⟨D, _, rfl, .inl (SqL.of d3'), ?_⟩
        rw [List.length_map]
        have g1 := Int.emod_nonneg z (show (os.length : Int) ≠ 0 by omega)
        have g2 := Int.emod_lt_of_pos z (show (0 : Int) < (os.length : Int) by omega)
        refine ⟨_, _, rfl, rfl, by omega, ?_⟩
        obtain ⟨k, hk, ek⟩ : ∃ k : Nat, k < os.length ∧ z % (os.length : Int) = (k : Int) := ⟨(z % (os.length : Int)).toNat, by omega, by omega⟩
        have g3 : (os.map V.int)[k]? = some (.int os[k]) := by simp [hk]
        refine ixL (SqL.of d3') (atI_int k ek g3) ?_
        have hmem : os[k] ∈ openL beds (wI way) := by rw [hop]; exact List.getElem_mem hk
        obtain ⟨r, e, hrl, hrc⟩ := mem_open.mp hmem
        refine ⟨l, _, _, rfl, rfl, hl3, by rw [sizeLine_eq, wI_len]; omega, ?_⟩
        rw [e]
        refine ⟨way ++ [r], _, _, rfl, by rw [upd_same]; simp [wI], by simp [hlen], fit_snoc.mpr ⟨hf, hrc⟩, fun c u e => ?_⟩
        rw [upd_ne (ne_of_none e n1.none)]
        exact s3 _ _ (s2 _ _ e)
    · rintro σ H2 ⟨way, o4, o5, rfl, hl, hlen, hf, s2⟩
      walk_at "go"
      exact q l way H2 ⟨s2, n1.none, hl⟩ (by omega) hf
theorem D_spare (T : Txt mg) (S : Src K mg "_law_spare" "_law_spare" s__law_spare) : Def P w K mg base 1 "_law_spare" ["_law_beds_here", "_law_way_here"] (sp_spare K) := by
  refine S.mk' sc__law_spare (fun vs H Q E h => ?_) (fun _ _ _ _ _ _ us hl => match us, hl with | [_, _], _ => rfl) (fun f cdv A outer s H vs Q E hr h => ?_)
  · obtain ⟨b, a, beds, way, rfl, _⟩ := h
    rfl
  · obtain ⟨b, a, beds, way, rfl, hb, lb, ha, q⟩ := h
    refine ⟨_, (pss_one (ps_ret (pe_comp ["_law_r", "_law_beds_here", "_law_way_here"] [none, some 0, some 1] rfl rfl rfl (pi_range1 rfl T.range (pa_cons (pe_callB (call_lenK (K := K) rfl) (by rfl) T.len boot_len' (pa_cons (pv 0) pa_nil)) pa_nil)) (fun _ _ _ _ => (pg_name (i := 0) (by decide +kernel : (["_law_r", "_law_beds_here", "_law_way_here"] : List PySem.Str).Nodup) rfl (Or.inl rfl))) (fun _ _ _ _ => (pifs_one (pt_cmpR op_lt (pe_bmK (K := K) rfl PySem.F.plainAttrs_list PySem.F.slot_list_count PySem.F.type_list_count (mt_countK (K := K) rfl) (pv 2) (pa_cons (pv 0) pa_nil)) (pe_ix (ix_seqK (K := K) rfl) (pv 1) (pv 0) (fun _ _ => rfl)) (nomark _)))) (fun _ _ _ _ => (pv 0))))), ?_⟩
    refine ⟨_, rfl, b, _, rfl, .inl (SqL.of hb), ?_⟩
    rw [List.length_map]
    refine ⟨_, rfl, by omega, by omega, fun D hD => ?_⟩
    rw [Int.toNat_natCast]
    refine compIf_range (fun (r : Nat) => decide ((((wI way).count (r : Int) : Nat) : Int) < beds.getD r 0)) (fun (r : Nat) => .int r) (by rw [sizeLine_eq]; omega) hD ?_ ?_ ?_
    · rintro r H3 N hr s3 hN
      have g2 : (beds.map V.int)[r]? = some (.int (beds.getD r 0)) := by simp [hr, List.getD]
      refine ⟨_, rfl, .inl ⟨rfl, _, SqL.of (s3 _ _ ha)⟩, _, rfl, a, wI way, _, rfl, rfl, SqL.of (s3 _ _ ha), ?_⟩
      rw [show (0 : Int) + (r : Int) = (r : Int) by omega]
      walk_at "go"
      refine ixL (SqL.of (s3 _ _ hb)) (atI_int r (by omega) g2) ?_
      exact ⟨_, _, rfl, rfl, _, rfl, hN _ (Same.refl _)⟩
    · rintro r H3 N hr hp s3 hN
      walk_at "go"
      have := hN _ (Same.refl _)
      rw [Int.zero_add]
      exact this
    · rintro H3 s3 d3
      refine q D H3 ⟨s3, hD, ?_⟩
      rw [d3]
      unfold openL
      rw [List.map_map]
      rfl
theorem D_copy (T : Txt mg) (S : Src K mg "_law_copy" "_law_copy" s__law_copy) : Def P w K mg base 1 "_law_copy" ["_law_rows"] (sp_copy K) := by
  refine S.mk' sc__law_copy (fun vs H Q E h => ?_) (fun _ _ _ _ _ _ us hl => match us, hl with | [_], _ => rfl) (fun f cdv A outer s H vs Q E hr h => ?_)
  · obtain ⟨a, rows, rfl, _⟩ := h
    rfl
  · obtain ⟨a, rows, rfl, hM, hl, q⟩ := h
    refine ⟨_, (pss_one (ps_ret (pe_comp ["_law_row"] [none] rfl rfl rfl (pi_listK (K := K) rfl (pv 0)) (fun _ _ _ _ => (pg_name (i := 0) (by decide +kernel : (["_law_row"] : List PySem.Str).Nodup) rfl (Or.inl rfl))) (fun _ _ _ _ => pifs_nil) (fun _ _ _ _ => (pe_callTy (call_list_ofK (K := K) rfl) (by rfl) T.list boot_list' (pa_cons (pv 0) pa_nil)))))), ?_⟩
    obtain ⟨ws0, hw0, hR0⟩ := id hM
    walk_at "go"
    refine ⟨⟨_, SqL.of hw0⟩, fun D hD => ?_⟩
    refine comp_list (fun i y H => ∃ l row, y = .ref l ∧ l ≠ D ∧ rows[i]? = some row ∧ H l = some (.lst (row.map V.int))) (SqL.of hw0) (by rw [List.length_map, hR0.1, sizeLine_eq]; omega) hD (fun i y H H' k ⟨l, row, e, ne, h1, h2⟩ => ⟨l, row, e, ne, h1, k l _ ne h2⟩) ?_ ?_
    · rintro i x H3 ys N hx s3 d3 hN
      obtain ⟨ra, ha, rfl⟩ := ref_at hx
      have hi : i < rows.length := by rw [← hR0.1]; exact (List.getElem?_eq_some_iff.mp ha).1
      have hrow : rows[i]? = some rows[i] := by simp [hi]
      have h3 := s3 _ _ (hR0.2 i ra _ ha hrow)
      walk_at "go"
      exact ⟨ra, _, rfl, .inl (SqL.of h3), fun l H4 n4 => hN _ _ n4.same ⟨l, _, rfl, (ne_of_none d3 n4.none).symm, hrow, n4.at_⟩⟩
    rintro ys H3 s3 d3 l3 r3
    obtain ⟨ws', e', p'⟩ := refs_ex (P := fun i l => ∃ row, rows[i]? = some row ∧ H3 l = some (.lst (row.map V.int))) (fun i y e => by
      obtain ⟨l, row, h1, _, h2, h3⟩ := r3 i y e
      exact ⟨l, h1, row, h2, h3⟩)
    subst e'
    refine q D H3 s3 hD ⟨ws', d3, ?_, fun i a' row h1 h2 => ?_⟩
    · rw [List.length_map, List.length_map] at l3
      rw [l3]
      exact hR0.1
    · obtain ⟨row', h3, h4⟩ := p' i a' h1
      rw [h3] at h2
      cases h2
      exact h4
theorem D_lthrough (T : Txt mg) (S : Src K mg "_law_through" "_law_through" s__law_through) : Def P w K mg base 1 "_law_through" ["_law_word", "_law_spare_here", "_law_way_here", "_law_a", "_law_b"] sp_lthrough := by
  refine S.mk' sc__law_through (fun vs H Q E h => ?_) (fun _ _ _ _ _ _ us hl => match us, hl with | [_, _, _, _, _], _ => rfl) (fun f cdv A outer s H vs Q E hr h => ?_)
  · obtain ⟨wo, sp, wy, beds, way, a, b, rfl, _⟩ := h
    rfl
  · obtain ⟨wo, sp, wy, beds, way, a, b, rfl, hsp, hwy, lb, ha, hb, q⟩ := h
    refine ⟨_, (pss_cons (ps_set (i := 5) sc__law_through.nd rfl (Or.inl rfl) (pe_join (pe_ifExp (pt_cmpR op_eq (pv 0) pe_str (nomark _)) (pe_ix (ix_seqK (K := K) rfl) (pv 2) (pv 3) (fun _ _ => rfl)) (pe_ix (ix_seqK (K := K) rfl) (pv 2) (pv 4) (fun _ _ => rfl)))))
      (pss_one (ps_ret (pe_sortedSet (K := K) rfl rfl (by rfl) T.sorted (by rfl) T.set (pe_op op_cat' (pv 1) (pe_lst' (pa_cons (pv 5) pa_nil))))))), ?_⟩
    have wa : way[a]? = some (way.getD a 0) := by simp [List.getD, ha]
    have wb : way[b]? = some (way.getD b 0) := by simp [List.getD, hb]
    refine ⟨fun v H' => H' = H ∧ v = .int ((way.getD (if wo then a else b) 0 : Nat) : Int), ?_, ?_⟩
    · walk_at "go"
      rw [dec_word]
      cases wo with
      | true =>
        refine iteT ?_
        walk_at "go"
        refine ixL (SqL.of hwy) (atI_int a rfl (wI_at wa)) ?_
        exact ⟨rfl, rfl⟩
      | false =>
        refine iteF ?_
        walk_at "go"
        refine ixL (SqL.of hwy) (atI_int b rfl (wI_at wb)) ?_
        exact ⟨rfl, rfl⟩
    rintro v H' ⟨rfl, rfl⟩
    refine ⟨_, rfl, _, rfl, len_small (by simp), fun l2 H2 n2 => ?_⟩
    have hol : (openL beds (wI way)).length ≤ beds.length := by
      unfold openL
      rw [List.length_map]
      exact Nat.le_trans (List.length_filter_le _ _) (by simp)
    refine ⟨sp, l2, _, _, rfl, rfl, n2.same _ _ hsp, n2.at_, by rw [sizeLine_eq, List.length_map]; simp; omega, fun l3 H3 n3 => ?_⟩
    have h3 : H3 l3 = some (.lst ((thruL wo beds way a b).map V.int)) := by
      rw [n3.at_]
      simp [thruL]
    refine ⟨l3, _, rfl, SqL.of h3, by simp [thruL]; omega, fun l4 ms H4 n4 hr hm => ?_⟩
    exact q l4 ms H4 ((n2.same.trans n3.same).trans n4.same) ((n2.same.trans n3.same).free n4.none) n4.at_ ⟨hr, hm⟩
theorem D_lgain (T : Txt mg) (S : Src K mg "_law_gain" "_law_gain" s__law_gain) : Def P w K mg base 1 "_law_gain" ["_law_word", "_law_worths_here", "_law_way_here", "_law_a", "_law_r", "_law_b"] sp_lgain := by
  refine S.mk' sc__law_gain (fun vs H Q E h => ?_) (fun _ _ _ _ _ _ us hl => match us, hl with | [_, _, _, _, _, _], _ => rfl) (fun f cdv A outer s H vs Q E hr h => ?_)
  · obtain ⟨wo, w, wy, beds, worths, way, a, r, b, rfl, _⟩ := h
    rfl
  · obtain ⟨wo, w, wy, beds, worths, way, a, r, b, rfl, hM, hwy, ok, ha, hr0, hb, q⟩ := h
    refine ⟨_, (pss_cons (ps_if (pt_cmpR op_eq (pv 0) pe_str (nomark _)) (pss_one (ps_ret (pe_op op_sub (pe_ix (ix_seqK (K := K) rfl) (pe_ix (ix_seqK (K := K) rfl) (pv 1) (pv 5) (fun _ _ => rfl)) (pv 4) (fun _ _ => rfl)) (pe_ix (ix_seqK (K := K) rfl) (pe_ix (ix_seqK (K := K) rfl) (pv 1) (pv 3) (fun _ _ => rfl)) (pe_ix (ix_seqK (K := K) rfl) (pv 2) (pv 3) (fun _ _ => rfl)) (fun _ _ => rfl))))) pss_nil)
      (pss_one (ps_ret (pe_op op_sub (pe_ix (ix_seqK (K := K) rfl) (pe_ix (ix_seqK (K := K) rfl) (pv 1) (pv 3) (fun _ _ => rfl)) (pv 4) (fun _ _ => rfl)) (pe_ix (ix_seqK (K := K) rfl) (pe_ix (ix_seqK (K := K) rfl) (pv 1) (pv 3) (fun _ _ => rfl)) (pe_ix (ix_seqK (K := K) rfl) (pv 2) (pv 3) (fun _ _ => rfl)) (fun _ _ => rfl)))))), ?_⟩
    obtain ⟨ws, hw, hR⟩ := id hM
    obtain ⟨w1, w2⟩ := ok.at_ ha
    have row : ∀ i, i < worths.length → ∃ ra, (ws.map V.ref)[i]? = some (.ref ra) ∧ ∃ xs : List Int, H ra = some (.lst (xs.map V.int)) ∧ ∀ k, k < beds.length → (xs.map V.int)[k]? = some (.int (wF worths i k)) := fun i hi => by
      have hrow : worths[i]? = some worths[i] := by simp [hi]
      have hrl := ok.bok.rows _ (List.getElem_mem hi)
      obtain ⟨ra, e1, e2, e3⟩ := hR.at_ hrow
      exact ⟨ra, e2, _, e3, fun k hk => by simp [wF, List.getD, hi, show k < worths[i].length by omega]⟩
    obtain ⟨ra, ea, xa, ha1, ha2⟩ := row a ha
    obtain ⟨rb, eb, xb, hb1, hb2⟩ := row b hb
    walk_at "go"
    rw [dec_word]
    cases wo with
    | true =>
      refine iteT ?_
      walk_at "go"
      refine ixL (SqL.of hw) (atI_int b rfl eb) ?_
      walk_at "go"
      refine ixL (SqL.of hb1) (atI_int r rfl (hb2 r hr0)) ?_
      walk_at "go"
      refine ixL (SqL.of hw) (atI_int a rfl ea) ?_
      walk_at "go"
      refine ixL (SqL.of hwy) (atI_int a rfl (wI_at w1)) ?_
      refine ixL (SqL.of ha1) (atI_int (way.getD a 0) rfl (ha2 _ w2)) ?_
      exact ⟨_, _, rfl, rfl, q⟩
    | false =>
      refine iteF ?_
      walk_at "go"
      refine ixL (SqL.of hw) (atI_int a rfl ea) ?_
      walk_at "go"
      refine ixL (SqL.of ha1) (atI_int r rfl (ha2 r hr0)) ?_
      walk_at "go"
      refine ixL (SqL.of hw) (atI_int a rfl ea) ?_
      walk_at "go"
      refine ixL (SqL.of hwy) (atI_int a rfl (wI_at w1)) ?_
      refine ixL (SqL.of ha1) (atI_int (way.getD a 0) rfl (ha2 _ w2)) ?_
      exact ⟨_, _, rfl, rfl, q⟩
theorem D_hops {CH CWorst CEven : Addr} (T : Txt mg) (HWorst : AimCls K mg CWorst "Worst") (HEven : AimCls K mg CEven "Even") (S : Src K mg "_law_hops_right" "_law_hops_right" s__law_hops_right) (MWorst_through : MDef P w K mg base 5 CWorst "through" ["self", "a", "b"] (sp_through true CH CWorst)) (MWorst_gain : MDef P w K mg base 2 CWorst "gain" ["self", "a", "r", "b"] (sp_gain true CH CWorst)) (MEven_through : MDef P w K mg base 5 CEven "through" ["self", "a", "b"] (sp_through false CH CEven)) (MEven_gain : MDef P w K mg base 2 CEven "gain" ["self", "a", "r", "b"] (sp_gain false CH CEven)) (D_law_through : Def P w K mg base 1 "_law_through" ["_law_word", "_law_spare_here", "_law_way_here", "_law_a", "_law_b"] sp_lthrough) (D_law_gain : Def P w K mg base 1 "_law_gain" ["_law_word", "_law_worths_here", "_law_way_here", "_law_a", "_law_r", "_law_b"] sp_lgain) (D_law_wholes : Def P w K mg base 2 "_law_wholes" ["_law_found", "_law_many"] sp_wholesN) (D_law_whole : Def P w K mg base 1 "_law_whole" ["_law_found"] sp_whole) : Def P w K mg base 6 "_law_hops_right" ["_law_aim", "_law_word", "_law_spare_here", "_law_worths_here", "_law_way_here", "_law_a", "_law_b"] (sp_hops CH CWorst CEven) := by
  refine S.mk' sc__law_hops_right (fun vs H Q E h => ?_) (fun _ _ _ _ _ _ us hl => match us, hl with | [_, _, _, _, _, _, _], _ => rfl) (fun f cdv A outer s H vs Q E hr h => ?_)
  · obtain ⟨wo, p, sp, w, wy, beds, worths, rent, way, a, b, rfl, _⟩ := h
    rfl
  · obtain ⟨wo, p, sp, w, wy, beds, worths, rent, way, a, b, rfl, hd, ha, hb, q⟩ := h
    refine ⟨_, (pss_cons (ps_set (i := 7) sc__law_hops_right.nd rfl (Or.inl rfl) (pe_either (pe_mdef MWorst_through HWorst.cl (pv 0) (hr.mono (by decide)) (pa_cons (pv 5) (pa_cons (pv 6) pa_nil))) (pe_mdef MEven_through HEven.cl (pv 0) (hr.mono (by decide)) (pa_cons (pv 5) (pa_cons (pv 6) pa_nil)))))
      (pss_cons (ps_set (i := 8) sc__law_hops_right.nd rfl (Or.inl rfl) (pe_def D_law_through (hr.mono (by decide)) rfl (pa_cons (pv 1) (pa_cons (pv 2) (pa_cons (pv 4) (pa_cons (pv 5) (pa_cons (pv 6) pa_nil)))))))
      (pss_cons (ps_if (PW.pt (pw_or (pt_not (pt_val (pe_def D_law_wholes (hr.mono (by decide)) rfl (pa_cons (pv 7) (pa_cons (pe_callB (call_lenK (K := K) rfl) (by rfl) T.len boot_len' (pa_cons (pv 8) pa_nil)) pa_nil))))) (pw_or1 (pt_cmpR (op_neLK (K := K) rfl hr.units0) (pv 7) (pv 8) (nomark _))))) (pss_one (ps_ret pe_bl)) pss_nil)
      (pss_cons (ps_expr (pe_bmK (K := K) rfl PySem.F.plainAttrs_list PySem.F.slot_list_append PySem.F.type_list_append mt_append (pv 7) (pa_cons pe_int pa_nil)))
      (pss_cons (ps_if (pt_cmpR (op_neLK (K := K) rfl hr.units0) (pe_either (pe_mdef MWorst_through HWorst.cl (pv 0) (hr.mono (by decide)) (pa_cons (pv 5) (pa_cons (pv 6) pa_nil))) (pe_mdef MEven_through HEven.cl (pv 0) (hr.mono (by decide)) (pa_cons (pv 5) (pa_cons (pv 6) pa_nil)))) (pv 8) (nomark _)) (pss_one (ps_ret pe_bl)) pss_nil)
      (pss_cons (ps_for PassesOwn.never rfl (pi_listK (K := K) rfl (pv 8)) (pg_name (i := 9) sc__law_hops_right.nd rfl (Or.inl rfl))
      (pss_cons (ps_set (i := 10) sc__law_hops_right.nd rfl (Or.inl rfl) (pe_either (pe_mdef MWorst_gain HWorst.cl (pv 0) (hr.mono (by decide)) (pa_cons (pv 5) (pa_cons (pv 9) (pa_cons (pv 6) pa_nil)))) (pe_mdef MEven_gain HEven.cl (pv 0) (hr.mono (by decide)) (pa_cons (pv 5) (pa_cons (pv 9) (pa_cons (pv 6) pa_nil))))))
      (pss_one (ps_if (PW.pt (pw_or (pt_not (pt_val (pe_def D_law_whole (hr.mono (by decide)) rfl (pa_cons (pv 10) pa_nil)))) (pw_or1 (pt_cmpR op_ne (pv 10) (pe_def D_law_gain (hr.mono (by decide)) rfl (pa_cons (pv 1) (pa_cons (pv 3) (pa_cons (pv 4) (pa_cons (pv 5) (pa_cons (pv 9) (pa_cons (pv 6) pa_nil))))))) (nomark _))))) (pss_one (ps_ret pe_bl)) pss_nil))))
      (pss_one (ps_ret pe_bl)))))))), ?_⟩
    have ok := hd.ok
    have hln := ok.len
    have lb := ok.bok.b1
    refine thru_go hd.aim ok ha hb (fun _ k => ⟨_, rfl, k⟩) (fun _ k => ⟨_, rfl, _, rfl, k⟩) fun l1 ms H1 s1 f1 h1 hr1 => ?_
    have hd1 := hd.same s1
    -- what is due
    refine ⟨_, rfl, _, rfl, _, rfl, _, rfl, _, rfl, wo, sp, wy, beds, way, a, b, rfl, hd1.sp_, hd1.way_, lb, by omega, by omega, fun l2 ms2 H2 s2 f2 h2 hr2 => ?_⟩
    obtain rfl := hr1.eq hr2
    have hd2 := hd1.same s2
    have h1' := s2 _ _ h1
    have hml := thru_len hr1
    refine ⟨_, rfl, _, rfl, l2, _, rfl, .inl (SqL.of h2), ?_⟩
    rw [List.length_map]
    refine ⟨l1, ms, rfl, h1', by omega, fun H3 s3 => ?_⟩
    refine ⟨_, rfl, iteF ?_⟩
    refine ⟨_, rfl, _, rfl, l1, l2, ms, ms, rfl, rfl, SqL.of (s3 _ _ h1'), SqL.of (s3 _ _ h2), ?_⟩
    refine ⟨_, rfl, iteE (by simp) ?_⟩
    -- what is put into it isn't told again
    have h13 := s3 _ _ h1'
    refine ⟨_, rfl, .inl ⟨rfl, _, SqL.of h13⟩, ?_⟩
    refine ⟨l1, _, _, rfl, rfl, h13, by rw [sizeLine_eq, List.length_map]; omega, ?_⟩
    have S4 : Same H (upd H3 l1 (.lst (ms.map V.int ++ [.int 0]))) := fun c o e => by
      rw [upd_ne (ne_of_none e f1)]
      exact s3 _ _ (s2 _ _ (s1 _ _ e))
    have h24 : upd H3 l1 (.lst (ms.map V.int ++ [.int 0])) l2 = some (.lst (ms.map V.int)) := by
      rw [upd_ne (ne_of_none h1 f2).symm]
      exact s3 _ _ h2
    generalize upd H3 l1 (.lst (ms.map V.int ++ [.int 0])) = H4 at *
    refine thru_go (hd.same S4).aim ok ha hb (fun _ k => ⟨_, rfl, k⟩) (fun _ k => ⟨_, rfl, _, rfl, k⟩) fun l5 ms5 H5 s5 f5 h5 hr5 => ?_
    obtain rfl := hr1.eq hr5
    have h25 := s5 _ _ h24
    refine ⟨_, rfl, l5, l2, ms, ms, rfl, rfl, SqL.of h5, SqL.of h25, ?_⟩
    refine ⟨_, rfl, iteE (by simp) ?_⟩
    -- the gains
    have S5 : Same H H5 := S4.trans s5
    walk_at "go"
    refine ⟨⟨_, SqL.of h25⟩, ?_⟩
    refine for_list (xs := ms.map V.int) (fun i σ H' => (∃ o9 o10, σ = [some (.ref p), some (.str (wordS wo)), some (.ref sp), some (.ref w), some (.ref wy), some (.int (a : Int)), some (.int (b : Int)), some (.ref l1), some (.ref l2), o9, o10]) ∧ Same H5 H') ⟨⟨_, _, rfl⟩, Same.refl _⟩ (fun i σ H' _ h => SqL.of (h.2 _ _ h25)) ?_ ?_
    · rintro i y σ H6 hy ⟨⟨o9, o10, rfl⟩, s6⟩
      obtain ⟨z, hz, rfl⟩ := int_at hy
      obtain ⟨r, rfl, hrl⟩ := thru_lt ok ha hb hr1 z (List.mem_of_getElem? hz)
      have hd6 := hd.same (S5.trans s6)
      refine gain_go hd6.aim ok ha hrl hb (fun _ k => ⟨_, rfl, k⟩) (fun _ k => ⟨_, rfl, _, rfl, _, rfl, k⟩) ?_
      refine ⟨_, rfl, _, rfl, _, rfl, iteF ?_⟩
      refine ⟨_, rfl, _, rfl, _, rfl, _, rfl, _, rfl, _, rfl, _, rfl, wo, w, wy, beds, worths, way, a, r, b, rfl, hd6.mat, hd6.way_, ok, ha, hrl, hb, ?_⟩
      refine ⟨rfl, _, rfl, iteE (by simp) ?_⟩
      exact ⟨⟨_, _, rfl⟩, s6⟩
    · rintro σ H6 ⟨⟨o9, o10, rfl⟩, s6⟩
      walk_at "go"
      exact q _ (S5.trans s6)
theorem D_aimright {CH CAim CWorst CEven : Addr} (T : Txt mg) (HAim : AimCls K mg CAim "Aim") (HWorst : AimCls K mg CWorst "Worst") (HEven : AimCls K mg CEven "Even") (TW : AimTy K CWorst CAim) (TE : AimTy K CEven CAim) (S : Src K mg "_law_aim_right" "_law_aim_right" s__law_aim_right) (MWorst_whole : MDef P w K mg base 3 CWorst "whole" ["self"] (sp_whole_ true CH CWorst)) (MWorst_price : MDef P w K mg base 2 CWorst "price" ["self", "i", "level", "parts"] (sp_price true CH CWorst)) (MEven_whole : MDef P w K mg base 3 CEven "whole" ["self"] (sp_whole_ false CH CEven)) (MEven_price : MDef P w K mg base 2 CEven "price" ["self", "i", "level", "parts"] (sp_price false CH CEven)) (D_law_hops_right : Def P w K mg base 6 "_law_hops_right" ["_law_aim", "_law_word", "_law_spare_here", "_law_worths_here", "_law_way_here", "_law_a", "_law_b"] (sp_hops CH CWorst CEven)) (D_law_wholes : Def P w K mg base 2 "_law_wholes" ["_law_found", "_law_many"] sp_wholesN) (D_law_whole : Def P w K mg base 1 "_law_whole" ["_law_found"] sp_whole) (D_law_mixed : Def P w K mg base 1 "_law_mixed" ["_law_cell", "_law_k"] sp_mixed) : Def P w K mg base 7 "_law_aim_right" ["_law_aim", "_law_word", "_law_spare_here", "_law_worths_here", "_law_way_here", "_law_rent", "_law_first"] (sp_aimright CH CWorst CEven) := by
  refine S.mk' sc__law_aim_right (fun vs H Q E h => ?_) (fun _ _ _ _ _ _ us hl => match us, hl with | [_, _, _, _, _, _, _], _ => rfl) (fun f cdv A outer s H vs Q E hr h => ?_)
  · obtain ⟨wo, p, sp, w, wy, beds, worths, rent, way, f, rfl, _⟩ := h
    rfl
  · obtain ⟨wo, p, sp, w, wy, beds, worths, rent, way, f, rfl, hd, hx, q⟩ := h
    refine ⟨_, (pss_cons (ps_if (PW.pt (pw_or (pt_not (pt_val (pe_callB (call_isOK (K := K) rfl) (by rfl) T.isinstance boot_isinstance' (pa_cons (pv 0) (pa_cons (pe_glob (v := .ref _) rfl HAim.mgC rfl) pa_nil))))) (pw_or (pt_cmpR (op_neLK (K := K) rfl hr.units0) (pe_fldK (K := K) rfl (pv 0) rfl) (pv 4) (nomark _)) (pw_or1 (pt_not (pt_val (pe_def D_law_wholes (hr.mono (by decide)) rfl (pa_cons (pe_fldK (K := K) rfl (pv 0) rfl) (pa_cons (pe_callB (call_lenK (K := K) rfl) (by rfl) T.len boot_len' (pa_cons (pv 4) pa_nil)) pa_nil))))))))) (pss_one (ps_ret pe_bl)) pss_nil)
      (pss_cons (ps_for PassesOwn.never rfl (pi_range1 rfl T.range (pa_cons (pe_callB (call_lenK (K := K) rfl) (by rfl) T.len boot_len' (pa_cons (pv 4) pa_nil)) pa_nil)) (pg_name (i := 7) sc__law_aim_right.nd rfl (Or.inl rfl))
      (pss_one (ps_for PassesOwn.never rfl (pi_range1 rfl T.range (pa_cons (pe_callB (call_lenK (K := K) rfl) (by rfl) T.len boot_len' (pa_cons (pv 4) pa_nil)) pa_nil)) (pg_name (i := 8) sc__law_aim_right.nd rfl (Or.inl rfl))
      (pss_cons (ps_if (pt_cmpR op_eq (pv 7) (pv 8) (nomark _)) (pss_one (ps_continue)) pss_nil)
      (pss_one (ps_if (pt_not (pt_val (pe_def D_law_hops_right (hr.mono (by decide)) rfl (pa_cons (pv 0) (pa_cons (pv 1) (pa_cons (pv 2) (pa_cons (pv 3) (pa_cons (pv 4) (pa_cons (pv 7) (pa_cons (pv 8) pa_nil)))))))))) (pss_one (ps_ret pe_bl)) pss_nil))))))
      (pss_cons (ps_set (i := 10) sc__law_aim_right.nd rfl (Or.inl rfl) (pe_callB (call_sumK (K := K) rfl rfl) (by rfl) T.sum boot_sum' (pa_cons (pe_comp ["_law_i", "_law_way_here", "_law_worths_here"] [none, some 4, some 3] rfl rfl rfl (pi_range1 rfl T.range (pa_cons (pe_callB (call_lenK (K := K) rfl) (by rfl) T.len boot_len' (pa_cons (pv 4) pa_nil)) pa_nil)) (fun _ _ _ _ => (pg_name (i := 0) (by decide +kernel : (["_law_i", "_law_way_here", "_law_worths_here"] : List PySem.Str).Nodup) rfl (Or.inl rfl))) (fun _ _ _ _ => pifs_nil) (fun _ _ _ _ => (pe_ix (ix_seqK (K := K) rfl) (pe_ix (ix_seqK (K := K) rfl) (pv 2) (pv 0) (fun _ _ => rfl)) (pe_ix (ix_seqK (K := K) rfl) (pv 1) (pv 0) (fun _ _ => rfl)) (fun _ _ => rfl)))) pa_nil)))
      (pss_cons (ps_set (i := 11) sc__law_aim_right.nd rfl (Or.inl rfl) (pe_join (pe_ifExp (pt_cmpR op_eq (pv 1) pe_str (nomark _)) (pe_op op_sub (pv 10) (pv 5)) (pv 5))))
      (pss_cons (ps_if (PW.pt (pw_or (pt_not (pt_val (pe_def D_law_whole (hr.mono (by decide)) rfl (pa_cons (pe_either (pe_mdef0 MWorst_whole HWorst.cl (pv 0) (hr.mono (by decide))) (pe_mdef0 MEven_whole HEven.cl (pv 0) (hr.mono (by decide)))) pa_nil)))) (pw_or1 (pt_cmpR op_ne (pe_either (pe_mdef0 MWorst_whole HWorst.cl (pv 0) (hr.mono (by decide))) (pe_mdef0 MEven_whole HEven.cl (pv 0) (hr.mono (by decide)))) (pv 11) (nomark _))))) (pss_one (ps_ret pe_bl)) pss_nil)
      (pss_cons (ps_for PassesOwn.never rfl (pi_range1 rfl T.range (pa_cons (pe_callB (call_lenK (K := K) rfl) (by rfl) T.len boot_len' (pa_cons (pv 4) pa_nil)) pa_nil)) (pg_name (i := 9) sc__law_aim_right.nd rfl (Or.inl rfl))
      (pss_cons (ps_set (i := 12) sc__law_aim_right.nd rfl (Or.inl rfl) (pe_op op_sub (pe_op op_mulW (pe_def D_law_mixed (hr.mono (by decide)) rfl (pa_cons (pv 6) (pa_cons (pe_op op_add pe_int (pv 9)) pa_nil))) (pe_ix (ix_seqK (K := K) rfl) (pe_tup' (pa_cons pe_int (pa_cons (pe_op op_pow pe_int pe_int) pa_nil))) (pe_op op_mod (pv 9) pe_int) (fun _ _ => rfl))) (pe_op op_pow pe_int pe_int)))
      (pss_cons (ps_set (i := 13) sc__law_aim_right.nd rfl (Or.inl rfl) (pe_op op_add pe_int (pe_op op_mod (pe_def D_law_mixed (hr.mono (by decide)) rfl (pa_cons (pv 6) (pa_cons (pe_op op_add pe_int (pv 9)) pa_nil))) pe_int)))
      (pss_cons (ps_set (i := 11) sc__law_aim_right.nd rfl (Or.inl rfl) (pe_join (pe_ifExp (pt_cmpR op_eq (pv 1) pe_str (nomark _)) (pe_op op_sub (pe_op op_mulW (pv 13) (pe_ix (ix_seqK (K := K) rfl) (pe_ix (ix_seqK (K := K) rfl) (pv 3) (pv 9) (fun _ _ => rfl)) (pe_ix (ix_seqK (K := K) rfl) (pv 4) (pv 9) (fun _ _ => rfl)) (fun _ _ => rfl))) (pv 12)) (pv 12))))
      (pss_cons (ps_set (i := 14) sc__law_aim_right.nd rfl (Or.inl rfl) (pe_either (pe_mdef MWorst_price HWorst.cl (pv 0) (hr.mono (by decide)) (pa_cons (pv 9) (pa_cons (pv 12) (pa_cons (pv 13) pa_nil)))) (pe_mdef MEven_price HEven.cl (pv 0) (hr.mono (by decide)) (pa_cons (pv 9) (pa_cons (pv 12) (pa_cons (pv 13) pa_nil))))))
      (pss_one (ps_if (PW.pt (pw_or (pt_not (pt_val (pe_def D_law_whole (hr.mono (by decide)) rfl (pa_cons (pv 14) pa_nil)))) (pw_or1 (pt_cmpR op_ne (pv 14) (pv 11) (nomark _))))) (pss_one (ps_ret pe_bl)) pss_nil)))))))
      (pss_one (ps_ret pe_bl)))))))), ?_⟩
    have ok := hd.ok
    have hln := ok.len
    have lb := ok.bok.b1
    have lw := ok.bok.w1
    obtain ⟨dx, hp, wa, g1, g2, g3⟩ := hd.aim.ex
    have AC : ACls K (CC CWorst CEven wo) := by
      cases wo
      · exact HEven.a
      · exact HWorst.a
    have AT : AimTy K (CC CWorst CEven wo) CAim := by
      cases wo
      · exact TE
      · exact TW
    -- it is an Aim, and has the way
    walk_at "go"
    refine ⟨_, _, _, true, rfl, .ins g1 AT.cl AT.ha AT.hn AT.htk AT.hm, AT.kit, _, rfl, iteF ?_⟩
    refine ⟨_, rfl, p, _, dx, _, _, rfl, g1, AC.cl, AC.nW, af_way _ _, _, rfl, wa, wy, wI way, wI way, rfl, rfl, SqL.of g3, SqL.of hd.way_, ?_⟩
    refine ⟨_, rfl, iteE (by simp) ?_⟩
    refine ⟨_, rfl, p, _, dx, _, _, rfl, g1, AC.cl, AC.nW, af_way _ _, _, rfl, wy, _, rfl, .inl (SqL.of hd.way_), ?_⟩
    rw [List.length_map]
    refine ⟨wa, wI way, rfl, g3, by simp [wI]; omega, fun H1 s1 => ?_⟩
    refine ⟨_, rfl, iteF ?_⟩
    have hd1 := hd.same s1
    -- its hops
    refine ⟨_, rfl, wy, _, rfl, .inl (SqL.of hd1.way_), ?_⟩
    rw [wI_len]
    refine ⟨_, rfl, by omega, by omega, ?_⟩
    rw [Int.toNat_natCast]
    refine for_range (fun i σ H' => (∃ o7 o8, σ = [some (.ref p), some (.str (wordS wo)), some (.ref sp), some (.ref w), some (.ref wy), some (.int rent), some (.int f), o7, o8, none, none, none, none, none, none]) ∧ Same H H') ⟨⟨_, _, rfl⟩, s1⟩ ?_ ?_
    · rintro i σ H2 hi ⟨⟨o7, o8, rfl⟩, s2⟩
      have hd2 := hd.same s2
      refine ⟨_, rfl, wy, _, rfl, .inl (SqL.of hd2.way_), ?_⟩
      rw [wI_len]
      refine ⟨_, rfl, by omega, by omega, ?_⟩
      rw [Int.toNat_natCast]
      refine for_range (fun j σ H' => (∃ o8, σ = [some (.ref p), some (.str (wordS wo)), some (.ref sp), some (.ref w), some (.ref wy), some (.int rent), some (.int f), some (.int (0 + (i : Int))), o8, none, none, none, none, none, none]) ∧ Same H H') ⟨⟨_, rfl⟩, s2⟩ ?_ ?_
      · rintro j σ H3 hj ⟨⟨o8', rfl⟩, s3⟩
        have hd3 := hd.same s3
        walk_at "go"
        refine ite2 (fun e => ?_) (fun e => ?_)
        · exact ⟨⟨_, rfl⟩, s3⟩
        · refine ⟨_, rfl, _, rfl, _, rfl, _, rfl, _, rfl, _, rfl, _, rfl, wo, p, sp, w, wy, beds, worths, rent, way, i, j, by simp, hd3, by omega, by omega, fun H4 s4 => ?_⟩
          refine ⟨_, rfl, iteF ?_⟩
          exact ⟨⟨_, rfl⟩, s3.trans s4⟩
      · rintro σ H3 ⟨⟨o8', rfl⟩, s3⟩
        exact ⟨⟨_, _, rfl⟩, s3⟩
    rintro σ H2 ⟨⟨o7, o8, rfl⟩, s2⟩
    have hd2 := hd.same s2
    -- what is parted
    refine ⟨_, rfl, wy, _, rfl, .inl (SqL.of hd2.way_), ?_⟩
    rw [wI_len]
    refine ⟨_, rfl, by omega, by omega, fun D hD => ?_⟩
    rw [Int.toNat_natCast]
    obtain ⟨ws, hw, hR⟩ := id hd2.mat
    refine compRangeV (fun i => .int (wF worths i (way.getD i 0))) (by rw [sizeLine_eq]; omega) hD (fun i hi H3 N s3 hN => ?_) fun H3 s3 d3 => ?_
    · have hi' : i < worths.length := by omega
      have hrow : worths[i]? = some worths[i] := by simp [hi']
      obtain ⟨ra, e1, e2, e3⟩ := hR.at_ hrow
      have hrl := ok.bok.rows _ (List.getElem_mem hi')
      obtain ⟨w1, w2⟩ := ok.at_ hi'
      have gen : ∀ r, r < worths[i].length → (worths[i].map V.int)[r]? = some (.int (wF worths i r)) := fun r hr => by simp [wF, List.getD, hi', hr]
      walk_at "go"
      refine ixL (SqL.of (s3 _ _ hw)) (atI_int i (by omega) e2) ?_
      walk_at "go"
      refine ixL (SqL.of (s3 _ _ hd2.way_)) (atI_int i (by omega) (wI_at w1)) ?_
      refine ixL (SqL.of (s3 _ _ e3)) (atI_int (way.getD i 0) rfl (gen _ (by omega))) ?_
      exact hN _ (Same.refl _)
    have d3' : H3 D = some (.lst (((List.range way.length).map fun i => wF worths i (way.getD i 0)).map V.int)) := by
      rw [d3, List.map_map]
      rfl
    refine ⟨D, _, rfl, SqL.of d3', ?_⟩
    have S3 : Same H H3 := s2.trans s3
    have hd3 := hd.same S3
    refine ⟨fun v H' => H' = H3 ∧ v = .int (if wo then wsum (wF worths) way - rent else rent), ?_, ?_⟩
    · walk_at "go"
      rw [dec_word]
      cases wo with
      | true =>
        refine iteT ?_
        walk_at "go"
        rfl
      | false =>
        refine iteF ?_
        walk_at "go"
        rfl
    rintro v H' ⟨rfl, rfl⟩
    refine whole_go hd3.aim ok (fun _ k => ⟨_, rfl, k⟩) fun H4 s4 => ?_
    refine ⟨_, rfl, _, rfl, iteF ?_⟩
    have hd4 := hd3.same s4
    refine whole_go hd4.aim ok (fun _ k => ⟨_, rfl, k⟩) fun H5 s5 => ?_
    refine ⟨_, rfl, rfl, _, rfl, iteE (by simp) ?_⟩
    have S5 : Same H H5 := (S3.trans s4).trans s5
    have hd5 := hd.same S5
    -- the prices
    refine ⟨_, rfl, wy, _, rfl, .inl (SqL.of hd5.way_), ?_⟩
    rw [wI_len]
    refine ⟨_, rfl, by omega, by omega, ?_⟩
    rw [Int.toNat_natCast]
    refine for_range (fun i σ H' => (∃ o7 o8 o9 o10 o11 o12 o13 o14, σ = [some (.ref p), some (.str (wordS wo)), some (.ref sp), some (.ref w), some (.ref wy), some (.int rent), some (.int f), o7, o8, o9, o10, o11, o12, o13, o14]) ∧ Same H H') ⟨⟨_, _, _, _, _, _, _, _, rfl⟩, S5⟩ ?_ ?_
    · rintro i σ H6 hi ⟨⟨o7', o8', o9, o10, o11, o12, o13, o14, rfl⟩, s6⟩
      have hd6 := hd.same s6
      have hi' : i < worths.length := by omega
      walk_at "go"
      refine ⟨f, _, rfl, by omega, by omega, fun m m0 m1 => ?_⟩
      walk_at "go"
      refine fun tp H7 n7 => ?_
      obtain ⟨j, hj, ej⟩ : ∃ j : Nat, j < 2 ∧ (0 + (i : Int)) % 2 = (j : Int) := ⟨((0 + (i : Int)) % 2).toNat, by omega, by omega⟩
      obtain ⟨y, gy, y1, y2⟩ : ∃ y : Int, ([.int 1, .int (10 ^ Int.toNat 31)] : List V)[j]? = some (.int y) ∧ 0 < y ∧ y < 10 ^ 40 := by
        rcases (by omega : j = 0 ∨ j = 1) with rfl | rfl
        · exact ⟨_, rfl, by decide, by decide⟩
        · exact ⟨_, rfl, by decide, by decide⟩
      have S7 : Same H H7 := s6.trans n7.same
      have hd7 := hd.same S7
      have hmy := mul_bd (a := m) (b := y) (A := 2147483629) (B := 10 ^ 40) (by omega) (by omega) (by omega) (by omega)
      walk_at "go"
      refine ixT (SqT.of n7.at_) (by rw [ej]; exact atI_int j rfl gy) ?_
      walk_at "go"
      refine ⟨f, _, rfl, by omega, by omega, fun m2 m20 m21 => ?_⟩
      have g30 := Int.emod_nonneg m2 (show (30 : Int) ≠ 0 by decide)
      have g31 := Int.emod_lt_of_pos m2 (show (0 : Int) < 30 by decide)
      walk_at "go"
      obtain ⟨ws7, hw7, hR7⟩ := id hd7.mat
      have hrow : worths[i]? = some worths[i] := by simp [hi']
      obtain ⟨ra, e1, e2, e3⟩ := hR7.at_ hrow
      have hrl := ok.bok.rows _ (List.getElem_mem hi')
      obtain ⟨w1, w2⟩ := ok.at_ hi'
      have gen : ∀ r, r < worths[i].length → (worths[i].map V.int)[r]? = some (.int (wF worths i r)) := fun r hr => by simp [wF, List.getD, hi', hr]
      have hob : -(10 ^ 42) < wF worths i (way.getD i 0) ∧ wF worths i (way.getD i 0) < 10 ^ 42 := by
        have h1 := gen (way.getD i 0) (by omega)
        rw [List.getElem?_map] at h1
        cases h2 : worths[i][way.getD i 0]? with
        | none => rw [h2] at h1; cases h1
        | some z =>
          rw [h2] at h1
          have h3 : z = wF worths i (way.getD i 0) := by
            have := Option.some.inj h1
            injection this
          rw [← h3]
          exact hx _ (List.getElem_mem hi') _ (List.mem_of_getElem? h2)
      refine ⟨fun v H' => H' = H7 ∧ v = .int (if wo then (1 + m2 % 30) * ownF worths way i - (m * y - 10 ^ Int.toNat 9) else m * y - 10 ^ Int.toNat 9), ?_, ?_⟩
      · walk_at "go"
        rw [dec_word]
        cases wo with
        | true =>
          refine iteT ?_
          walk_at "go"
          refine ixL (SqL.of hw7) (atI_int i (by omega) e2) ?_
          walk_at "go"
          refine ixL (SqL.of hd7.way_) (atI_int i (by omega) (wI_at w1)) ?_
          refine ixL (SqL.of e3) (atI_int (way.getD i 0) rfl (gen _ (by omega))) ?_
          walk_at "go"
          rfl
        | false =>
          refine iteF ?_
          walk_at "go"
          rfl
      rintro v H' ⟨rfl, rfl⟩
      refine price_go (level := m * y - 10 ^ Int.toNat 9) (parts := 1 + m2 % 30) hd7.aim ok hi' hx (by omega) (fun _ k => ⟨_, rfl, k⟩) (fun K2 k => ⟨_, rfl, _, rfl, _, rfl, by show K2 [V.int (0 + (i : Int)), _, _] _; rw [Int.zero_add]; exact k⟩) ?_
      refine ⟨_, rfl, _, rfl, _, rfl, iteF ?_⟩
      refine ⟨_, rfl, _, rfl, rfl, _, rfl, iteE (by simp) ?_⟩
      exact ⟨⟨_, _, _, _, _, _, _, _, rfl⟩, S7⟩
    · rintro σ H6 ⟨⟨o7', o8', o9, o10, o11, o12, o13, o14, rfl⟩, s6⟩
      walk_at "go"
      exact q _ s6
theorem D_plain {CH CAim : Addr} (T : Txt mg) (HAim : AimCls K mg CAim "Aim") (S : Src K mg "_law_plain" "_law_plain" s__law_plain) (MAim_through : MDef P w K mg base 5 CAim "through" ["self", "a", "b"] sp_aempty) (MAim_gain : MDef P w K mg base 2 CAim "gain" ["self", "a", "r", "b"] sp_azero4) (MAim_whole : MDef P w K mg base 3 CAim "whole" ["self"] sp_azero1) (MAim_price : MDef P w K mg base 2 CAim "price" ["self", "i", "level", "parts"] sp_alevel) : Def P w K mg base 6 "_law_plain" ["_law_aim", "_law_way_here", "_law_first"] (sp_plain CH CAim) := by
  refine S.mk' sc__law_plain (fun vs H Q E h => ?_) (fun _ _ _ _ _ _ us hl => match us, hl with | [_, _, _], _ => rfl) (fun f cdv A outer s H vs Q E hr h => ?_)
  · obtain ⟨p, wy, beds, worths, rent, way, f, rfl, _⟩ := h
    rfl
  · obtain ⟨p, wy, beds, worths, rent, way, f, rfl, hA, ok, hwy, q⟩ := h
    refine ⟨_, (pss_cons (ps_if (PW.pt (pw_or (pt_cmpR (op_neLK (K := K) rfl hr.units0) (pe_fldK (K := K) rfl (pv 0) rfl) (pv 1) (nomark _)) (pw_or (pt_cmpR op_ne (pe_mdef0 MAim_whole HAim.cl (pv 0) (hr.mono (by decide))) pe_int (nomark _)) (pw_or1 (pt_cmpR op_ne (pe_mdef MAim_price HAim.cl (pv 0) (hr.mono (by decide)) (pa_cons pe_int (pa_cons (pe_op op_sub (pv 2) pe_int) (pa_cons (pe_op op_add pe_int (pe_op op_mod (pv 2) pe_int)) pa_nil)))) (pe_op op_sub (pv 2) pe_int) (nomark _)))))) (pss_one (ps_ret pe_bl)) pss_nil)
      (pss_cons (ps_for PassesOwn.never rfl (pi_range1 rfl T.range (pa_cons (pe_callB (call_lenK (K := K) rfl) (by rfl) T.len boot_len' (pa_cons (pv 1) pa_nil)) pa_nil)) (pg_name (i := 3) sc__law_plain.nd rfl (Or.inl rfl))
      (pss_one (ps_for PassesOwn.never rfl (pi_range1 rfl T.range (pa_cons (pe_callB (call_lenK (K := K) rfl) (by rfl) T.len boot_len' (pa_cons (pv 1) pa_nil)) pa_nil)) (pg_name (i := 4) sc__law_plain.nd rfl (Or.inl rfl))
      (pss_cons (ps_if (pt_cmpR op_eq (pv 3) (pv 4) (nomark _)) (pss_one (ps_continue)) pss_nil)
      (pss_one (ps_if (PW.pt (pw_or (pt_cmpR (op_neLK (K := K) rfl hr.units0) (pe_mdef MAim_through HAim.cl (pv 0) (hr.mono (by decide)) (pa_cons (pv 3) (pa_cons (pv 4) pa_nil))) (pe_lst' pa_nil) (nomark _)) (pw_or1 (pt_cmpR op_ne (pe_mdef MAim_gain HAim.cl (pv 0) (hr.mono (by decide)) (pa_cons (pv 3) (pa_cons (pe_ix (ix_seqK (K := K) rfl) (pv 1) (pv 3) (fun _ _ => rfl)) (pa_cons (pv 4) pa_nil)))) pe_int (nomark _))))) (pss_one (ps_ret pe_bl)) pss_nil))))))
      (pss_one (ps_ret pe_bl)))), ?_⟩
    have hln := ok.len
    have lw := ok.bok.w1
    obtain ⟨dx, hp, wa, g1, g2, g3⟩ := hA.ex
    have AC := HAim.a
    refine ⟨_, rfl, p, _, dx, _, _, rfl, g1, AC.cl, AC.nW, af_way _ _, _, rfl, wa, wy, wI way, wI way, rfl, rfl, SqL.of g3, SqL.of hwy, ?_⟩
    refine ⟨_, rfl, iteE (by simp) ?_⟩
    refine ⟨_, rfl, p, dx, _, rfl, g1, af_no _ _ (by decide +kernel) (by decide +kernel), _, rfl, ?_⟩
    refine ⟨rfl, _, rfl, iteE (by simp) ?_⟩
    refine ⟨_, rfl, p, dx, _, rfl, g1, af_no _ _ (by decide +kernel) (by decide +kernel), ?_⟩
    walk_at "go"
    refine ⟨_, _, _, _, rfl, ?_⟩
    refine ⟨_, rfl, _, _, rfl, rfl, rfl, _, rfl, iteE (by simp) ?_⟩
    refine ⟨_, rfl, wy, _, rfl, .inl (SqL.of hwy), ?_⟩
    rw [wI_len]
    refine ⟨_, rfl, by omega, by omega, ?_⟩
    rw [Int.toNat_natCast]
    refine for_range (fun i σ H' => (∃ o3 o4, σ = [some (.ref p), some (.ref wy), some (.int f), o3, o4]) ∧ Same H H') ⟨⟨_, _, rfl⟩, Same.refl _⟩ ?_ ?_
    · rintro i σ H2 hi ⟨⟨o3, o4, rfl⟩, s2⟩
      refine ⟨_, rfl, wy, _, rfl, .inl (SqL.of (s2 _ _ hwy)), ?_⟩
      rw [wI_len]
      refine ⟨_, rfl, by omega, by omega, ?_⟩
      rw [Int.toNat_natCast]
      refine for_range (fun j σ H' => (∃ o4, σ = [some (.ref p), some (.ref wy), some (.int f), some (.int (0 + (i : Int))), o4]) ∧ Same H H') ⟨⟨_, rfl⟩, s2⟩ ?_ ?_
      · rintro j σ H3 hj ⟨⟨o4', rfl⟩, s3⟩
        walk_at "go"
        refine ite2 (fun e => ?_) (fun e => ?_)
        · exact ⟨⟨_, rfl⟩, s3⟩
        · have g13 := s3 _ _ g1
          obtain ⟨w1, w2⟩ := ok.at_ (show i < worths.length by omega)
          refine ⟨_, rfl, p, dx, _, rfl, g13, af_no _ _ (by decide +kernel) (by decide +kernel), _, rfl, _, rfl, _, _, _, rfl, fun l4 H4 n4 => ?_⟩
          refine ⟨len_small (by simp), fun l5 H5 n5 => ?_⟩
          refine ⟨l4, l5, [], [], rfl, rfl, SqL.of (n5.same _ _ n4.at_), SqL.of n5.at_, ?_⟩
          refine ⟨_, rfl, iteE (by simp) ?_⟩
          have S5 : Same H H5 := (s3.trans n4.same).trans n5.same
          refine ⟨_, rfl, p, dx, _, rfl, S5 _ _ g1, af_no _ _ (by decide +kernel) (by decide +kernel), _, rfl, _, rfl, _, rfl, ?_⟩
          refine ixL (SqL.of (S5 _ _ hwy)) (atI_int i (by omega) (wI_at w1)) ?_
          refine ⟨_, rfl, _, _, _, _, rfl, rfl, _, rfl, iteE (by simp) ?_⟩
          exact ⟨⟨_, rfl⟩, S5⟩
      · rintro σ H3 ⟨⟨o4', rfl⟩, s3⟩
        exact ⟨⟨_, _, rfl⟩, s3⟩
    · rintro σ H2 ⟨⟨o3, o4, rfl⟩, s2⟩
      walk_at "go"
      exact q _ s2
theorem D_law {CH CAim CWorst CEven : Addr} (T : Txt mg) (HC : HCls K mg CH) (HAim : AimCls K mg CAim "Aim") (HWorst : AimCls K mg CWorst "Worst") (HEven : AimCls K mg CEven "Even") (S : Src K mg "law" "law" s_law) (M__init__ : MDef P w K mg base 1 CH "__init__" ["self", "beds", "worths", "rent"] (sp_init CH)) (MAim___init__ : MDef P w K mg base 1 CAim "__init__" ["self", "house", "way"] (sp_ainit CH CAim)) (MWorst___init__ : MDef P w K mg base 1 CWorst "__init__" ["self", "house", "way"] (sp_ainit CH CWorst)) (MEven___init__ : MDef P w K mg base 1 CEven "__init__" ["self", "house", "way"] (sp_ainit CH CEven)) (D_law_mixed : Def P w K mg base 1 "_law_mixed" ["_law_cell", "_law_k"] sp_mixed) (D_law_cell_at : Def P w K mg base 1 "_law_cell_at" ["_law_script", "_law_k"] (sp_cell K)) (D_law_house : Def P w K mg base 3 "_law_house" ["_law_script", "_law_most_people", "_law_most_rooms"] (sp_house K)) (D_law_copy : Def P w K mg base 1 "_law_copy" ["_law_rows"] (sp_copy K)) (D_law_way : Def P w K mg base 2 "_law_way" ["_law_beds_here", "_law_people", "_law_first"] (sp_wayF K)) (D_law_spare : Def P w K mg base 1 "_law_spare" ["_law_beds_here", "_law_way_here"] (sp_spare K)) (D_law_plain : Def P w K mg base 6 "_law_plain" ["_law_aim", "_law_way_here", "_law_first"] (sp_plain CH CAim)) (D_law_aim_right : Def P w K mg base 7 "_law_aim_right" ["_law_aim", "_law_word", "_law_spare_here", "_law_worths_here", "_law_way_here", "_law_rent", "_law_first"] (sp_aimright CH CWorst CEven)) : Def P w K mg base 8 "law" ["_law_script"] (sp_law K) := by
  refine S.mk' sc_law (fun vs H Q E h => ?_) (fun _ _ _ _ _ _ us hl => match us, hl with | [_], _ => rfl) (fun f cdv A outer s H vs Q E hr h => ?_)
  · obtain ⟨a, ns, rfl, _⟩ := h
    rfl
  · obtain ⟨a, ns, rfl, hS, hlen, q⟩ := h
    refine ⟨_, (pss_cons (ps_set (i := 1) sc_law.nd rfl (Or.inl rfl) (pe_def D_law_mixed (hr.mono (by decide)) rfl (pa_cons (pe_def D_law_cell_at (hr.mono (by decide)) rfl (pa_cons (pv 0) (pa_cons pe_int pa_nil))) (pa_cons pe_int pa_nil))))
      (pss_cons (ps_asg (pe_def D_law_house (hr.mono (by decide)) rfl (pa_cons (pv 0) (pa_cons pe_int (pa_cons pe_int pa_nil)))) (pg_tupK (K := K) (n := 3) rfl rfl (pgs_cons (pg_name (i := 2) sc_law.nd rfl (Or.inl rfl)) (pgs_cons (pg_name (i := 3) sc_law.nd rfl (Or.inl rfl)) (pgs_cons (pg_name (i := 4) sc_law.nd rfl (Or.inl rfl)) pgs_nil)))))
      (pss_cons (ps_set (i := 5) sc_law.nd rfl (Or.inl rfl) (pe_mk M__init__ HC.mks HC.kp HC.mgC (hr.mono (by decide)) rfl (pa_cons (pe_callTy (call_list_ofK (K := K) rfl) (by rfl) T.list boot_list' (pa_cons (pv 2) pa_nil)) (pa_cons (pe_def D_law_copy (hr.mono (by decide)) rfl (pa_cons (pv 3) pa_nil)) (pa_cons (pv 4) pa_nil)))))
      (pss_cons (ps_set (i := 6) sc_law.nd rfl (Or.inl rfl) (pe_def D_law_way (hr.mono (by decide)) rfl (pa_cons (pv 2) (pa_cons (pe_callB (call_lenK (K := K) rfl) (by rfl) T.len boot_len' (pa_cons (pv 3) pa_nil)) (pa_cons (pv 1) pa_nil)))))
      (pss_cons (ps_set (i := 7) sc_law.nd rfl (Or.inl rfl) (pe_def D_law_spare (hr.mono (by decide)) rfl (pa_cons (pv 2) (pa_cons (pv 6) pa_nil))))
      (pss_cons (ps_set (i := 8) sc_law.nd rfl (Or.inl rfl) (pe_callTy (call_list_ofK (K := K) rfl) (by rfl) T.list boot_list' (pa_cons (pv 6) pa_nil)))
      (pss_cons (ps_set (i := 9) sc_law.nd rfl (Or.inl rfl) (pe_mk MAim___init__ HAim.mks HAim.kp HAim.mgC (hr.mono (by decide)) rfl (pa_cons (pv 5) (pa_cons (pv 8) pa_nil))))
      (pss_cons (ps_set (i := 10) sc_law.nd rfl (Or.inl rfl) (pe_mk MWorst___init__ HWorst.mks HWorst.kp HWorst.mgC (hr.mono (by decide)) rfl (pa_cons (pv 5) (pa_cons (pv 8) pa_nil))))
      (pss_cons (ps_set (i := 11) sc_law.nd rfl (Or.inl rfl) (pe_mk MEven___init__ HEven.mks HEven.kp HEven.mgC (hr.mono (by decide)) rfl (pa_cons (pv 5) (pa_cons (pv 8) pa_nil))))
      (pss_cons (ps_asg (pe_op op_add (pe_ix (ix_seqK (K := K) rfl) (pv 8) pe_int (fun _ _ => rfl)) pe_int) (pg_sub (pv 8) pe_int set_list))
      (pss_cons (ps_expr (pe_bmK (K := K) rfl PySem.F.plainAttrs_list PySem.F.slot_list_append PySem.F.type_list_append mt_append (pv 8) (pa_cons pe_int pa_nil)))
      (pss_cons (ps_if (pt_not (pt_val (pe_def D_law_plain (hr.mono (by decide)) rfl (pa_cons (pv 9) (pa_cons (pv 6) (pa_cons (pv 1) pa_nil)))))) (pss_one (ps_ret pe_bl)) pss_nil)
      (pss_cons (ps_if (pt_not (pt_val (pe_def D_law_aim_right (hr.mono (by decide)) rfl (pa_cons (pv 10) (pa_cons pe_str (pa_cons (pv 7) (pa_cons (pv 3) (pa_cons (pv 6) (pa_cons (pv 4) (pa_cons (pv 1) pa_nil)))))))))) (pss_one (ps_ret pe_bl)) pss_nil)
      (pss_cons (ps_if (pt_not (pt_val (pe_def D_law_aim_right (hr.mono (by decide)) rfl (pa_cons (pv 11) (pa_cons pe_str (pa_cons (pv 7) (pa_cons (pv 3) (pa_cons (pv 6) (pa_cons (pv 4) (pa_cons (pe_op op_fdivW (pv 1) pe_int) pa_nil)))))))))) (pss_one (ps_ret pe_bl)) pss_nil)
      (pss_one (ps_ret (pe_and (pe_cmpR (op_eqLK (K := K) rfl hr.units0) (pe_fldK (K := K) rfl (pv 5) rfl) (pv 2) (nomark _)) (pe_and (pe_cmpR (op_eqDK (K := K) rfl hr.units) (pe_fldK (K := K) rfl (pv 5) rfl) (pv 3) (nomark _)) (pe_and (pe_cmpR op_eq (pe_fldK (K := K) rfl (pe_fldK (K := K) rfl (pv 10) rfl) rfl) (pv 4) (nomark _)) (pe_one (pe_cmpR (op_eqLK (K := K) rfl hr.units0) (pe_fldK (K := K) rfl (pv 11) rfl) (pv 6) (nomark _)))))))))))))))))))))), ?_⟩
    walk_at "go"
    refine ⟨a, ns, _, rfl, hS, by decide, fun z0 => ?_⟩
    walk_at "go"
    refine ⟨z0, _, rfl, by decide, by decide, fun m m0 m1 => ?_⟩
    refine ⟨_, rfl, a, ns, _, _, rfl, hS, hlen, by decide, by decide, by decide, by decide, fun t b0 w0 beds worths rent H1 s1 ht hb0 hM0 ok => ?_⟩
    refine ⟨t, _, rfl, SqT.of ht, rfl, _, _, rfl, _, _, rfl, _, _, rfl, rfl, ?_⟩
    have hbl : beds.length ≤ 10 := by have := ok.b2; omega
    have hwl : worths.length ≤ 10 := by have := ok.w2; omega
    have hw1 : 1 ≤ worths.length := by have := ok.w1; omega
    have hb0' : ∀ b ∈ beds, 0 ≤ b := fun b hb => by have := ok.b3 b hb; omega
    -- the house
    refine ⟨_, rfl, b0, _, rfl, .inl (SqL.of hb0), fun b1 H2 n2 => ?_⟩
    refine ⟨_, rfl, w0, worths, rfl, hM0.same n2.same, by omega, fun D H3 s3 fD hM3 => ?_⟩
    have S3 : Same H1 H3 := n2.same.trans s3
    refine ⟨_, rfl, ?_⟩
    refine fun x dx nx ndx nex => ?_
    have s0 : Same H3 (upd (upd H3 dx (.own x)) x (.ins CH dx [])) := fun c o e => by
      rw [upd_ne (ne_of_none e nx), upd_ne (ne_of_none e ndx)]
      exact e
    refine ⟨x, dx, b1, D, beds, worths, rent, rfl, upd_same, s0 _ _ (s3 _ _ n2.at_), hM3.same s0, by omega, by omega, ok.w3, fun H4 hA4 kp => ⟨rfl, ?_⟩⟩
    have S4 : Same H1 H4 := S3.trans fun c o e => kp c o (s0 _ _ e) (ne_of_none e nx)
    have hb4 := S4 _ _ hb0
    have hM4 := hM0.same S4
    obtain ⟨ws4, hw4, hR4⟩ := id hM4
    -- the way, the free rooms
    refine ⟨_, rfl, _, rfl, w0, _, rfl, .inl (SqL.of hw4), ?_⟩
    rw [List.length_map, hR4.1]
    refine ⟨_, rfl, b0, beds, _, _, rfl, hb4, hbl, hb0', by omega, ok.w3, by omega, fun wy way H5 n5 hwn hfit => ?_⟩
    have hwn' : way.length = worths.length := by omega
    have aok : AimOk beds worths way := ⟨⟨hbl, hwl, ok.w4⟩, hwn', fit_lt hfit⟩
    refine ⟨_, rfl, _, rfl, b0, wy, beds, way, rfl, n5.same _ _ hb4, by omega, n5.at_, fun sp H6 n6 => ?_⟩
    have hwy6 := n6.same _ _ n5.at_
    refine ⟨_, rfl, wy, _, rfl, .inl (SqL.of hwy6), fun hd H7 n7 => ?_⟩
    have S7 : Same H4 H7 := (n5.same.trans n6.same).trans n7.same
    have hA7 := hA4.same S7
    -- the aims
    refine ⟨_, rfl, _, rfl, fun xa da nxa nda nea => ?_⟩
    have sa : Same H7 (upd (upd H7 da (.own xa)) xa (.ins CAim da [])) := fun c o e => by
      rw [upd_ne (ne_of_none e nxa), upd_ne (ne_of_none e nda)]
      exact e
    refine ⟨xa, da, x, hd, beds, worths, rent, way, rfl, upd_same, hA7.same sa, sa _ _ n7.at_, fun wa8 H8 f8 p8 w8 kp8 => ⟨rfl, ?_⟩⟩
    have S8 : Same H7 H8 := fun c o e => kp8 c o (sa _ _ e) (ne_of_none e nxa)
    refine ⟨_, rfl, _, rfl, fun xw dw nxw ndw new => ?_⟩
    have sw : Same H8 (upd (upd H8 dw (.own xw)) xw (.ins CWorst dw [])) := fun c o e => by
      rw [upd_ne (ne_of_none e nxw), upd_ne (ne_of_none e ndw)]
      exact e
    refine ⟨xw, dw, x, hd, beds, worths, rent, way, rfl, upd_same, (hA7.same S8).same sw, sw _ _ (S8 _ _ n7.at_), fun wa9 H9 f9 p9 w9 kp9 => ⟨rfl, ?_⟩⟩
    have S9 : Same H8 H9 := fun c o e => kp9 c o (sw _ _ e) (ne_of_none e nxw)
    refine ⟨_, rfl, _, rfl, fun xe de nxe nde nee => ?_⟩
    have se : Same H9 (upd (upd H9 de (.own xe)) xe (.ins CEven de [])) := fun c o e => by
      rw [upd_ne (ne_of_none e nxe), upd_ne (ne_of_none e nde)]
      exact e
    refine ⟨xe, de, x, hd, beds, worths, rent, way, rfl, upd_same, ((hA7.same S8).same S9).same se, se _ _ (S9 _ _ (S8 _ _ n7.at_)), fun wa10 H10 f10 p10 w10 kp10 => ⟨rfl, ?_⟩⟩
    have S10 : Same H9 H10 := fun c o e => kp10 c o (se _ _ e) (ne_of_none e nxe)
    have S710 : Same H7 H10 := (S8.trans S9).trans S10
    have fhd : H6 hd = none := n7.none
    have hhd : H10 hd = some (.lst ((wI way).map V.int)) := S710 _ _ n7.at_
    have hw0 : ((wI way).map V.int)[0]? = some (.int ((way.getD 0 0 : Nat) : Int)) := wI_at (by simp [List.getD, show 0 < way.length by omega])
    -- the list handed in is changed
    refine ⟨_, rfl, ?_⟩
    refine ixL (SqL.of hhd) (atI_int 0 rfl hw0) ?_
    refine ⟨_, _, rfl, rfl, _, rfl, hd, _, _, 0, rfl, rfl, hhd, ?_, ?_⟩
    · unfold ixN
      rw [if_pos (by omega), if_pos (by rw [wI_len]; omega)]
      rfl
    refine ⟨_, rfl, .inl ⟨rfl, _, SqL.of upd_same⟩, ?_⟩
    refine ⟨hd, _, _, rfl, rfl, upd_same, by rw [sizeLine_eq, List.length_set, wI_len]; omega, ?_⟩
    have k12 : ∀ c o, H10 c = some o → c ≠ hd → upd (upd H10 hd (.lst (((wI way).map V.int).set 0 (.int (((way.getD 0 0 : Nat) : Int) + 1))))) hd (.lst (((wI way).map V.int).set 0 (.int (((way.getD 0 0 : Nat) : Int) + 1)) ++ [.int 0])) c = some o := fun c o e hc => by rw [upd_ne hc, upd_ne hc]; exact e
    generalize upd (upd H10 hd (.lst (((wI way).map V.int).set 0 (.int (((way.getD 0 0 : Nat) : Int) + 1))))) hd (.lst (((wI way).map V.int).set 0 (.int (((way.getD 0 0 : Nat) : Int) + 1)) ++ [.int 0])) = H12 at *
    have S612 : Same H6 H12 := fun c o e => k12 c o (S710 _ _ (n7.same _ _ e)) (ne_of_none e fhd)
    have hA12 : HouseAt CH H12 x beds worths rent := ((hA4.same n5.same).same n6.same).same S612
    have aimA : AimAt CH CAim H12 xa beds worths rent way := ⟨da, x, wa8, k12 _ _ (S10 _ _ (S9 _ _ p8)) (ne_of_none n7.at_ nxa).symm, hA12, k12 _ _ (S10 _ _ (S9 _ _ w8)) (ne_of_none (sa _ _ n7.at_) f8).symm⟩
    have aimW : AimAt CH CWorst H12 xw beds worths rent way := ⟨dw, x, wa9, k12 _ _ (S10 _ _ p9) (ne_of_none (S8 _ _ n7.at_) nxw).symm, hA12, k12 _ _ (S10 _ _ w9) (ne_of_none (sw _ _ (S8 _ _ n7.at_)) f9).symm⟩
    have aimE : AimAt CH CEven H12 xe beds worths rent way := ⟨de, x, wa10, k12 _ _ p10 (ne_of_none (S9 _ _ (S8 _ _ n7.at_)) nxe).symm, hA12, k12 _ _ w10 (ne_of_none (se _ _ (S9 _ _ (S8 _ _ n7.at_))) f10).symm⟩
    have hsp12 := S612 _ _ n6.at_
    have hwy12 := S612 _ _ hwy6
    have hM12 : Mat H12 w0 worths := ((hM4.same n5.same).same n6.same).same S612
    have hb12 := S612 _ _ (n6.same _ _ (n5.same _ _ hb4))
    have hx42 : ∀ row ∈ worths, ∀ z ∈ row, -(10 ^ 42) < z ∧ z < 10 ^ 42 := fun row hr z hz => by have := ok.w5 row hr z hz; omega
    refine ⟨_, rfl, _, rfl, _, rfl, xa, wy, beds, worths, rent, way, m, rfl, aimA, aok, hwy12, fun H13 s13 => ?_⟩
    refine ⟨_, rfl, iteF ?_⟩
    refine ⟨_, rfl, _, rfl, _, rfl, _, rfl, _, rfl, _, rfl, true, xw, sp, w0, wy, beds, worths, rent, way, m, rfl, ⟨aimW.same s13, aok, s13 _ _ hsp12, hM12.same s13, s13 _ _ hwy12⟩, hx42, fun H14 s14 => ?_⟩
    refine ⟨_, rfl, iteF ?_⟩
    have S14 : Same H12 H14 := s13.trans s14
    refine ⟨_, rfl, _, rfl, _, rfl, _, rfl, _, rfl, _, rfl, _, _, rfl, rfl, ⟨by decide, by decide⟩, false, xe, sp, w0, wy, beds, worths, rent, way, m / 3, rfl, ⟨aimE.same S14, aok, S14 _ _ hsp12, hM12.same S14, S14 _ _ hwy12⟩, hx42, fun H15 s15 => ?_⟩
    refine ⟨_, rfl, iteF ?_⟩
    have S15 : Same H12 H15 := S14.trans s15
    have hA15 := hA12.same S15
    obtain ⟨dh, bb, ww, i1, i2, i3⟩ := hA15.ex
    obtain ⟨wt, hwt, hRt⟩ := id i3
    obtain ⟨ws, hws, hRs⟩ := id (hM12.same S15)
    refine ⟨_, rfl, x, CH, dh, _, _, rfl, i1, HC.cl, HC.nB, hf_beds _ _ _, _, rfl, bb, b0, beds, beds, rfl, rfl, SqL.of i2, SqL.of (S15 _ _ hb12), ?_⟩
    have eW : H15 xw = some (.ins CWorst dw (aflds x wa9)) := S15 _ _ (k12 _ _ (S10 _ _ p9) (ne_of_none (S8 _ _ n7.at_) nxw).symm)
    have eE : H15 xe = some (.ins CEven de (aflds x wa10)) := S15 _ _ (k12 _ _ p10 (ne_of_none (S9 _ _ (S8 _ _ n7.at_)) nxe).symm)
    have eE2 : H15 wa10 = some (.lst ((wI way).map V.int)) := S15 _ _ (k12 _ _ w10 (ne_of_none (se _ _ (S9 _ _ (S8 _ _ n7.at_))) f10).symm)
    refine ⟨_, rfl, ?_⟩
    rw [if_pos (by simp)]
    refine ⟨_, rfl, x, CH, dh, _, _, rfl, i1, HC.cl, HC.nW, hf_worths _ _ _, _, rfl, matD worths, matD worths, rv_list (SqL.of hwt) (rv_rows hRt), rv_list (SqL.of hws) (rv_rows hRs), mat_shaped _, mat_shaped _, ?_⟩
    rw [mat_eqv]
    refine ⟨_, rfl, iteT ?_⟩
    refine ⟨_, rfl, xw, CWorst, dw, _, _, rfl, eW, HWorst.cl, HWorst.nH, af_house _ _, x, CH, dh, _, _, rfl, i1, HC.cl, HC.nR, hf_rent _ _ _, _, rfl, rfl, _, rfl, ?_⟩
    rw [if_pos (by simp)]
    refine ⟨_, rfl, xe, CEven, de, _, _, rfl, eE, HEven.cl, HEven.nW, af_way _ _, _, rfl, wa10, wy, wI way, wI way, rfl, rfl, SqL.of eE2, SqL.of (S15 _ _ hwy12), ?_⟩
    simpa using q H15
end
theorem walk {l : PySem.W.OpenLaw} {q : Program} {loose : List Str} {XP : (Str → Option Value) → Heap → Prop} {YP : World → Heap → Prop} {d : DefRec} {K : Params → PySem.W.Frag} (hn : l.most = some 63) (hdf : d.params.defaults = [])
    (hY : ∀ (w : World) (h : Heap), YP w h → (K w.params).In h)
    (F : ∀ (w : World) (mg : Str → Option Value) (fa : Addr) (h : Heap), (K w.params).In h → h.Ns mainGlobals mg → mg d.name = some (.ref fa) →
      ∃ fd : FuncData, (∀ (s : Shared) (u : Value), BindsTo s fd ⟨[u], []⟩ [("_law_script", u)]) ∧ ∀ base : Heap, (K w.params).In base → base.Ns mainGlobals mg → FnOk l.prog w (K w.params) mg base CX0 8 fa fd ["_law_script"] (sp_law (K w.params))) :
    PySem.W.WalkO q loose XP YP l.row.toRowW d [] (fun f vs => PySem.call f vs) :=
  L2.walk_of (n := 63) (k := 8) (x := "_law_script") (CX := fun _ => CX0) (sp := fun w => sp_law (K w.params)) hn (by decide) hdf ⟨rfl, by decide, by decide⟩ hY F (fun _ _ a ns hl _ hS => ⟨a, ns, rfl, hS, hl, fun _ => rfl⟩) fun _ _ _ _ _ z => z
end My
open PySem PySem.W PyProof.Rows
set_option maxRecDepth 100000 in
set_option maxHeartbeats 0 in
theorem PySem.Challenge.cw_rentshare_k41_aims_holds : PySem.Challenge.rw_rentshare_k41_aims.Holds := by
  w_on; o_law; k_head; (case hw => w_witness2)
  k_fill
  refine My.walk (l := PySem.Challenge.rw_rentshare_k41_aims) rfl rfl (fun w h Y => PySem.W.kIn_of Y) ?F
  case F =>
    intro w mg fa h KX G hmg
    have S_lying : L2.Src (L2.KOf KX) mg "lying" "lying" My.s_lying := by
      dsimp only [L2.KOf]
      refine' L2.src_mk KX G ?a ?l ?c ?k
      (case a => k_is); (case l => k_is); (case c => k_is); (case k => k_is)
    have S_open_rooms : L2.Src (L2.KOf KX) mg "open_rooms" "open_rooms" My.s_open_rooms := by
      dsimp only [L2.KOf]
      refine' L2.src_mk KX G ?a ?l ?c ?k
      (case a => k_is); (case l => k_is); (case c => k_is); (case k => k_is)
    have S_worth_of : L2.Src (L2.KOf KX) mg "worth_of" "worth_of" My.s_worth_of := by
      dsimp only [L2.KOf]
      refine' L2.src_mk KX G ?a ?l ?c ?k
      (case a => k_is); (case l => k_is); (case c => k_is); (case k => k_is)
    have S_with_open : L2.Src (L2.KOf KX) mg "with_open" "with_open" My.s_with_open := by
      dsimp only [L2.KOf]
      refine' L2.src_mk KX G ?a ?l ?c ?k
      (case a => k_is); (case l => k_is); (case c => k_is); (case k => k_is)
    have S_own_worth : L2.Src (L2.KOf KX) mg "own_worth" "own_worth" My.s_own_worth := by
      dsimp only [L2.KOf]
      refine' L2.src_mk KX G ?a ?l ?c ?k
      (case a => k_is); (case l => k_is); (case c => k_is); (case k => k_is)
    have S__law_cell_at : L2.Src (L2.KOf KX) mg "_law_cell_at" "_law_cell_at" My.s__law_cell_at := by
      dsimp only [L2.KOf]
      refine' L2.src_mk KX G ?a ?l ?c ?k
      (case a => k_is); (case l => k_is); (case c => k_is); (case k => k_is)
    have S__law_mixed : L2.Src (L2.KOf KX) mg "_law_mixed" "_law_mixed" My.s__law_mixed := by
      dsimp only [L2.KOf]
      refine' L2.src_mk KX G ?a ?l ?c ?k
      (case a => k_is); (case l => k_is); (case c => k_is); (case k => k_is)
    have S__law_beds : L2.Src (L2.KOf KX) mg "_law_beds" "_law_beds" My.s__law_beds := by
      dsimp only [L2.KOf]
      refine' L2.src_mk KX G ?a ?l ?c ?k
      (case a => k_is); (case l => k_is); (case c => k_is); (case k => k_is)
    have S__law_worths : L2.Src (L2.KOf KX) mg "_law_worths" "_law_worths" My.s__law_worths := by
      dsimp only [L2.KOf]
      refine' L2.src_mk KX G ?a ?l ?c ?k
      (case a => k_is); (case l => k_is); (case c => k_is); (case k => k_is)
    have S__law_house : L2.Src (L2.KOf KX) mg "_law_house" "_law_house" My.s__law_house := by
      dsimp only [L2.KOf]
      refine' L2.src_mk KX G ?a ?l ?c ?k
      (case a => k_is); (case l => k_is); (case c => k_is); (case k => k_is)
    have S__law_way : L2.Src (L2.KOf KX) mg "_law_way" "_law_way" My.s__law_way := by
      dsimp only [L2.KOf]
      refine' L2.src_mk KX G ?a ?l ?c ?k
      (case a => k_is); (case l => k_is); (case c => k_is); (case k => k_is)
    have S__law_whole : L2.Src (L2.KOf KX) mg "_law_whole" "_law_whole" My.s__law_whole := by
      dsimp only [L2.KOf]
      refine' L2.src_mk KX G ?a ?l ?c ?k
      (case a => k_is); (case l => k_is); (case c => k_is); (case k => k_is)
    have S__law_wholes : L2.Src (L2.KOf KX) mg "_law_wholes" "_law_wholes" My.s__law_wholes := by
      dsimp only [L2.KOf]
      refine' L2.src_mk KX G ?a ?l ?c ?k
      (case a => k_is); (case l => k_is); (case c => k_is); (case k => k_is)
    have S__law_spare : L2.Src (L2.KOf KX) mg "_law_spare" "_law_spare" My.s__law_spare := by
      dsimp only [L2.KOf]
      refine' L2.src_mk KX G ?a ?l ?c ?k
      (case a => k_is); (case l => k_is); (case c => k_is); (case k => k_is)
    have S__law_through : L2.Src (L2.KOf KX) mg "_law_through" "_law_through" My.s__law_through := by
      dsimp only [L2.KOf]
      refine' L2.src_mk KX G ?a ?l ?c ?k
      (case a => k_is); (case l => k_is); (case c => k_is); (case k => k_is)
    have S__law_gain : L2.Src (L2.KOf KX) mg "_law_gain" "_law_gain" My.s__law_gain := by
      dsimp only [L2.KOf]
      refine' L2.src_mk KX G ?a ?l ?c ?k
      (case a => k_is); (case l => k_is); (case c => k_is); (case k => k_is)
    have S__law_copy : L2.Src (L2.KOf KX) mg "_law_copy" "_law_copy" My.s__law_copy := by
      dsimp only [L2.KOf]
      refine' L2.src_mk KX G ?a ?l ?c ?k
      (case a => k_is); (case l => k_is); (case c => k_is); (case k => k_is)
    have S__law_hops_right : L2.Src (L2.KOf KX) mg "_law_hops_right" "_law_hops_right" My.s__law_hops_right := by
      dsimp only [L2.KOf]
      refine' L2.src_mk KX G ?a ?l ?c ?k
      (case a => k_is); (case l => k_is); (case c => k_is); (case k => k_is)
    have S__law_aim_right : L2.Src (L2.KOf KX) mg "_law_aim_right" "_law_aim_right" My.s__law_aim_right := by
      dsimp only [L2.KOf]
      refine' L2.src_mk KX G ?a ?l ?c ?k
      (case a => k_is); (case l => k_is); (case c => k_is); (case k => k_is)
    have S__law_plain : L2.Src (L2.KOf KX) mg "_law_plain" "_law_plain" My.s__law_plain := by
      dsimp only [L2.KOf]
      refine' L2.src_mk KX G ?a ?l ?c ?k
      (case a => k_is); (case l => k_is); (case c => k_is); (case k => k_is)
    have S_law : L2.Src (L2.KOf KX) mg "law" "law" My.s_law := by
      dsimp only [L2.KOf]
      refine' L2.src_mk KX G ?a ?l ?c ?k
      (case a => k_is); (case l => k_is); (case c => k_is); (case k => k_is)
    obtain ⟨C, HC, M___init__, M_people, M_rooms⟩ : ∃ C, L2.HCls (L2.KOf KX) mg C ∧ L2.MSrc (L2.KOf KX) C "__init__" "House.__init__" My.s___init__ ∧ L2.MSrc (L2.KOf KX) C "people" "House.people" My.s_people ∧ L2.MSrc (L2.KOf KX) C "rooms" "House.rooms" My.s_rooms := by
      dsimp only [L2.KOf]
      refine' ⟨_, ⟨PySem.W.mg_of KX G ?aC, ⟨?pg, ?hd, ?po, ?sa⟩, ?mk, ?kc, ?n1, ?n2, ?n3⟩, L2.msrc_mk ?a0 ?i0 ?l0 ?c0 ?k0, L2.msrc_mk ?a1 ?i1 ?l1 ?c1 ?k1, L2.msrc_mk ?a2 ?i2 ?l2 ?c2 ?k2⟩
      (case aC => k_is); (case a0 => k_is); (case i0 => k_is); (case l0 => k_is); (case c0 => k_is); (case k0 => k_is); (case a1 => k_is); (case i1 => k_is); (case l1 => k_is); (case c1 => k_is); (case k1 => k_is); (case a2 => k_is); (case i2 => k_is); (case l2 => k_is); (case c2 => k_is); (case k2 => k_is)
      (case pg => k_is); (case hd => k_is); (case po => k_is); (case sa => k_is); (case mk => k_is); (case kc => k_is); (case n1 => dsimp only [L2.NoAttr]; k_is); (case n2 => dsimp only [L2.NoAttr]; k_is); (case n3 => dsimp only [L2.NoAttr]; k_is)
    obtain ⟨CAim, CWorst, CEven, HAim, SAim___init__, SAim_through, SAim_gain, SAim_whole, SAim_price, HWorst, SWorst___init__, SWorst_through, SWorst_gain, SWorst_whole, SWorst_price, HEven, SEven___init__, SEven_through, SEven_gain, SEven_whole, SEven_price, TWorst, TEven⟩ : ∃ CAim CWorst CEven, L2.AimCls (L2.KOf KX) mg CAim "Aim" ∧ L2.MSrc (L2.KOf KX) CAim "__init__" "Aim.__init__" My.s_Aim___init__ ∧ L2.MSrc (L2.KOf KX) CAim "through" "Aim.through" My.s_Aim_through ∧ L2.MSrc (L2.KOf KX) CAim "gain" "Aim.gain" My.s_Aim_gain ∧ L2.MSrc (L2.KOf KX) CAim "whole" "Aim.whole" My.s_Aim_whole ∧ L2.MSrc (L2.KOf KX) CAim "price" "Aim.price" My.s_Aim_price ∧ L2.AimCls (L2.KOf KX) mg CWorst "Worst" ∧ L2.MSrc (L2.KOf KX) CWorst "__init__" "Aim.__init__" My.s_Aim___init__ ∧ L2.MSrc (L2.KOf KX) CWorst "through" "Worst.through" My.s_Worst_through ∧ L2.MSrc (L2.KOf KX) CWorst "gain" "Worst.gain" My.s_Worst_gain ∧ L2.MSrc (L2.KOf KX) CWorst "whole" "Worst.whole" My.s_Worst_whole ∧ L2.MSrc (L2.KOf KX) CWorst "price" "Worst.price" My.s_Worst_price ∧ L2.AimCls (L2.KOf KX) mg CEven "Even" ∧ L2.MSrc (L2.KOf KX) CEven "__init__" "Aim.__init__" My.s_Aim___init__ ∧ L2.MSrc (L2.KOf KX) CEven "through" "Even.through" My.s_Even_through ∧ L2.MSrc (L2.KOf KX) CEven "gain" "Even.gain" My.s_Even_gain ∧ L2.MSrc (L2.KOf KX) CEven "whole" "Even.whole" My.s_Even_whole ∧ L2.MSrc (L2.KOf KX) CEven "price" "Even.price" My.s_Even_price ∧ L2.AimTy (L2.KOf KX) CWorst CAim ∧ L2.AimTy (L2.KOf KX) CEven CAim := by
      dsimp only [L2.KOf]
      refine' ⟨_, _, _, ⟨PySem.W.mg_of KX G ?aC0, ⟨?pg0, ?hd0, ?po0, ?sa0⟩, ?mk0, ?kc0, ?n10, ?n20⟩, L2.msrc_mk ?a0_0 ?i0_0 ?l0_0 ?c0_0 ?k0_0, L2.msrc_mk ?a0_1 ?i0_1 ?l0_1 ?c0_1 ?k0_1, L2.msrc_mk ?a0_2 ?i0_2 ?l0_2 ?c0_2 ?k0_2, L2.msrc_mk ?a0_3 ?i0_3 ?l0_3 ?c0_3 ?k0_3, L2.msrc_mk ?a0_4 ?i0_4 ?l0_4 ?c0_4 ?k0_4, ⟨PySem.W.mg_of KX G ?aC1, ⟨?pg1, ?hd1, ?po1, ?sa1⟩, ?mk1, ?kc1, ?n11, ?n21⟩, L2.msrc_mk ?a1_0 ?i1_0 ?l1_0 ?c1_0 ?k1_0, L2.msrc_mk ?a1_1 ?i1_1 ?l1_1 ?c1_1 ?k1_1, L2.msrc_mk ?a1_2 ?i1_2 ?l1_2 ?c1_2 ?k1_2, L2.msrc_mk ?a1_3 ?i1_3 ?l1_3 ?c1_3 ?k1_3, L2.msrc_mk ?a1_4 ?i1_4 ?l1_4 ?c1_4 ?k1_4, ⟨PySem.W.mg_of KX G ?aC2, ⟨?pg2, ?hd2, ?po2, ?sa2⟩, ?mk2, ?kc2, ?n12, ?n22⟩, L2.msrc_mk ?a2_0 ?i2_0 ?l2_0 ?c2_0 ?k2_0, L2.msrc_mk ?a2_1 ?i2_1 ?l2_1 ?c2_1 ?k2_1, L2.msrc_mk ?a2_2 ?i2_2 ?l2_2 ?c2_2 ?k2_2, L2.msrc_mk ?a2_3 ?i2_3 ?l2_3 ?c2_3 ?k2_3, L2.msrc_mk ?a2_4 ?i2_4 ?l2_4 ?c2_4 ?k2_4, ⟨⟨?tg1, ?th1, ?tp1, ?ts1⟩, ?t11, ?t21, ?t31, ?t41, ?t51⟩, ⟨⟨?tg2, ?th2, ?tp2, ?ts2⟩, ?t12, ?t22, ?t32, ?t42, ?t52⟩⟩
      (case aC0 => k_is); (case a0_0 => k_is); (case i0_0 => k_is); (case l0_0 => k_is); (case c0_0 => k_is); (case k0_0 => k_is); (case a0_1 => k_is); (case i0_1 => k_is); (case l0_1 => k_is); (case c0_1 => k_is); (case k0_1 => k_is); (case a0_2 => k_is); (case i0_2 => k_is); (case l0_2 => k_is); (case c0_2 => k_is); (case k0_2 => k_is); (case a0_3 => k_is); (case i0_3 => k_is); (case l0_3 => k_is); (case c0_3 => k_is); (case k0_3 => k_is); (case a0_4 => k_is); (case i0_4 => k_is); (case l0_4 => k_is); (case c0_4 => k_is); (case k0_4 => k_is)
      (case pg0 => k_is); (case hd0 => k_is); (case po0 => k_is); (case sa0 => k_is); (case mk0 => k_is); (case kc0 => k_is); (case n10 => dsimp only [L2.NoAttr]; k_is); (case n20 => dsimp only [L2.NoAttr]; k_is)
      (case aC1 => k_is); (case a1_0 => k_is); (case i1_0 => k_is); (case l1_0 => k_is); (case c1_0 => k_is); (case k1_0 => k_is); (case a1_1 => k_is); (case i1_1 => k_is); (case l1_1 => k_is); (case c1_1 => k_is); (case k1_1 => k_is); (case a1_2 => k_is); (case i1_2 => k_is); (case l1_2 => k_is); (case c1_2 => k_is); (case k1_2 => k_is); (case a1_3 => k_is); (case i1_3 => k_is); (case l1_3 => k_is); (case c1_3 => k_is); (case k1_3 => k_is); (case a1_4 => k_is); (case i1_4 => k_is); (case l1_4 => k_is); (case c1_4 => k_is); (case k1_4 => k_is)
      (case pg1 => k_is); (case hd1 => k_is); (case po1 => k_is); (case sa1 => k_is); (case mk1 => k_is); (case kc1 => k_is); (case n11 => dsimp only [L2.NoAttr]; k_is); (case n21 => dsimp only [L2.NoAttr]; k_is)
      (case aC2 => k_is); (case a2_0 => k_is); (case i2_0 => k_is); (case l2_0 => k_is); (case c2_0 => k_is); (case k2_0 => k_is); (case a2_1 => k_is); (case i2_1 => k_is); (case l2_1 => k_is); (case c2_1 => k_is); (case k2_1 => k_is); (case a2_2 => k_is); (case i2_2 => k_is); (case l2_2 => k_is); (case c2_2 => k_is); (case k2_2 => k_is); (case a2_3 => k_is); (case i2_3 => k_is); (case l2_3 => k_is); (case c2_3 => k_is); (case k2_3 => k_is); (case a2_4 => k_is); (case i2_4 => k_is); (case l2_4 => k_is); (case c2_4 => k_is); (case k2_4 => k_is)
      (case pg2 => k_is); (case hd2 => k_is); (case po2 => k_is); (case sa2 => k_is); (case mk2 => k_is); (case kc2 => k_is); (case n12 => dsimp only [L2.NoAttr]; k_is); (case n22 => dsimp only [L2.NoAttr]; k_is)
      (case tg1 => k_is); (case th1 => k_is); (case tp1 => k_is); (case ts1 => k_is); (case t11 => k_is); (case t21 => k_is); (case t31 => k_is); (case t41 => k_is); (case t51 => kit_is)
      (case tg2 => k_is); (case th2 => k_is); (case tp2 => k_is); (case ts2 => k_is); (case t12 => k_is); (case t22 => k_is); (case t32 => k_is); (case t42 => k_is); (case t52 => kit_is)
    have T : My.Txt mg := by
      refine' ⟨PySem.W.mg_none_of KX G ?z0, PySem.W.mg_none_of KX G ?z1, PySem.W.mg_none_of KX G ?z2, PySem.W.mg_none_of KX G ?z3, PySem.W.mg_none_of KX G ?z4, PySem.W.mg_none_of KX G ?z5, PySem.W.mg_none_of KX G ?z6, PySem.W.mg_none_of KX G ?z7, PySem.W.mg_none_of KX G ?z8, PySem.W.mg_none_of KX G ?z9, PySem.W.mg_none_of KX G ?z10, PySem.W.mg_none_of KX G ?z11, PySem.W.mg_none_of KX G ?z12⟩
      (case z0 => k_is); (case z1 => k_is); (case z2 => k_is); (case z3 => k_is); (case z4 => k_is); (case z5 => k_is); (case z6 => k_is); (case z7 => k_is); (case z8 => k_is); (case z9 => k_is); (case z10 => k_is); (case z11 => k_is); (case z12 => k_is)
    exact L2.law_fd S_law (fun _ _ _ _ _ _ _ => rfl) (fun base => by
      have Dm := My.D_mixed (P := PySem.Challenge.rw_rentshare_k41_aims.prog) (w := w) (base := base) S__law_mixed
      have Da := My.D_cell (P := PySem.Challenge.rw_rentshare_k41_aims.prog) (w := w) (base := base) T S__law_cell_at
      have Mi := My.D_init (P := PySem.Challenge.rw_rentshare_k41_aims.prog) (w := w) (base := base) T HC M___init__
      have Mr := My.D_rooms (P := PySem.Challenge.rw_rentshare_k41_aims.prog) (w := w) (base := base) T HC M_rooms
      have Mp := My.D_people (P := PySem.Challenge.rw_rentshare_k41_aims.prog) (w := w) (base := base) T HC M_people
      have Do := My.D_open (P := PySem.Challenge.rw_rentshare_k41_aims.prog) (w := w) (base := base) T HC S_open_rooms (My.D_lying T HC S_lying Mr) Mr
      have Dwo := My.D_withopen (P := PySem.Challenge.rw_rentshare_k41_aims.prog) (w := w) (base := base) T HC S_with_open Do
      have Dow := My.D_ownworth (P := PySem.Challenge.rw_rentshare_k41_aims.prog) (w := w) (base := base) T HC S_own_worth
      have Dwf := My.D_worthof (P := PySem.Challenge.rw_rentshare_k41_aims.prog) (w := w) (base := base) T HC S_worth_of Mp
      have Dw := My.D_whole (P := PySem.Challenge.rw_rentshare_k41_aims.prog) (w := w) (base := base) T S__law_whole
      have Dws := My.D_wholesN (P := PySem.Challenge.rw_rentshare_k41_aims.prog) (w := w) (base := base) T S__law_wholes Dw
      have Dho := My.D_hops (P := PySem.Challenge.rw_rentshare_k41_aims.prog) (w := w) (base := base) T HWorst HEven S__law_hops_right (My.D_Wthrough T HWorst.a SWorst_through Dwo) (My.D_Wgain T HC HWorst.a SWorst_gain Dow) (My.D_Ethrough T HEven.a SEven_through Dwo) (My.D_Egain T HC HEven.a SEven_gain Dow) (My.D_lthrough T S__law_through) (My.D_lgain T S__law_gain) Dws Dw
      have Dar := My.D_aimright (P := PySem.Challenge.rw_rentshare_k41_aims.prog) (w := w) (base := base) T HAim HWorst HEven TWorst TEven S__law_aim_right (My.D_Wwhole T HC HWorst.a SWorst_whole Dwf) (My.D_Wprice T HWorst.a SWorst_price Dow) (My.D_Ewhole T HC HEven.a SEven_whole) (My.D_Eprice T SEven_price) Dho Dws Dw Dm
      have Dpl := My.D_plain (P := PySem.Challenge.rw_rentshare_k41_aims.prog) (w := w) (base := base) (CH := C) T HAim S__law_plain (My.D_Athrough T SAim_through) (My.D_Again T SAim_gain) (My.D_Awhole T SAim_whole) (My.D_Aprice T SAim_price)
      exact My.D_law T HC HAim HWorst HEven S_law Mi (My.D_ainit T HAim.a SAim___init__) (My.D_ainit T HWorst.a SWorst___init__) (My.D_ainit T HEven.a SEven___init__) Dm Da (My.D_house T S__law_house Dm Da (My.D_beds T S__law_beds Dm) (My.D_worths T S__law_worths Dm)) (My.D_copy T S__law_copy) (My.D_wayF T S__law_way Dm) (My.D_spare T S__law_spare) Dpl Dar) hmg
#print axioms PySem.Challenge.cw_rentshare_k41_aims_holds
