import PyProof.Rows.All
import Wide.All
import OpenK.AllK
import Wide.FinOn
import Lean
import PyProof.EqAt
import PyProof.EqKinds
import PyProof.TupleCall
import PySem.Challenge.RW_rentshare_k81_orders_read
set_option Elab.async false
set_option linter.all false
set_option maxRecDepth 100000
namespace L2
open PySem PySem.Spec PyProof.Rows
abbrev Key := Sum Int Str
def keyIs : Key → Value → Bool
  | .inl k, v => Value.isInt k v
  | .inr x, v => Value.isStrOf x v
def keyH (w : World) : Key → Int
  | .inl k => hashInt k
  | .inr x => hashStr w x
theorem keyIs_shape : ∀ {k : Key} {v : Value}, keyIs k v = true → (∃ i t, k = Sum.inl i ∧ v = Value.int i t) ∨ (∃ x t, k = Sum.inr x ∧ v = Value.str x t)
  | .inl i, v, h => by
    obtain ⟨t, e⟩ := Value.isInt_shape (k := i) (v := v) h
    exact .inl ⟨i, t, rfl, e⟩
  | .inr x, v, h => by
    obtain ⟨t, e⟩ := Value.isStrOf_shape (x := x) (v := v) h
    exact .inr ⟨x, t, rfl, e⟩
theorem key_ll (a b : Int) : decide ((Sum.inl a : Key) = Sum.inl b) = (a == b) := by
  by_cases e : a = b
  · subst e; simp
  · have h : ¬ (Sum.inl a : Key) = Sum.inl b := fun q => e (Sum.inl.inj q)
    rw [decide_eq_false h]
    exact (beq_eq_false_iff_ne.mpr e).symm
theorem key_rr (a b : Str) : decide ((Sum.inr a : Key) = Sum.inr b) = decide (a = b) := by
  by_cases e : a = b
  · subst e; simp
  · have h : ¬ (Sum.inr a : Key) = Sum.inr b := fun q => e (Sum.inr.inj q)
    rw [decide_eq_false h, decide_eq_false e]
theorem key_lr (a : Int) (b : Str) : decide ((Sum.inl a : Key) = Sum.inr b) = false := decide_eq_false (fun q => nomatch q)
theorem key_rl (a : Str) (b : Int) : decide ((Sum.inr a : Key) = Sum.inl b) = false := decide_eq_false (fun q => nomatch q)
def mixKind (prog : Program) (w : World) : PySem.KeyKind prog w Key where
  is := keyIs
  hash := keyH w
  inj := fun v a b ha hb => by
    rcases keyIs_shape ha with ⟨i, t, rfl, rfl⟩ | ⟨x, t, rfl, rfl⟩
    · rcases keyIs_shape hb with ⟨j, u, rfl, e⟩ | ⟨y, u, rfl, e⟩
      · injection e with e1 _; rw [e1]
      · exact nomatch e
    · rcases keyIs_shape hb with ⟨j, u, rfl, e⟩ | ⟨y, u, rfl, e⟩
      · exact nomatch e
      · injection e with e1 _; rw [e1]
  byValue := fun k v h => by
    rcases keyIs_shape h with ⟨i, t, rfl, rfl⟩ | ⟨x, t, rfl, rfl⟩ <;> rfl
  pyHash := fun hv h => by
    rcases keyIs_shape hv with ⟨i, t, rfl, rfl⟩ | ⟨x, t, rfl, rfl⟩
    · exact wpAny_pyHash_int h
    · exact wpAny_pyHash_str h
  eqBool := fun hu hv h => by
    rcases keyIs_shape hu with ⟨i, t, rfl, rfl⟩ | ⟨x, t, rfl, rfl⟩
    · rcases keyIs_shape hv with ⟨j, u, rfl, rfl⟩ | ⟨y, u, rfl, rfl⟩
      · rw [key_ll] at h; exact wpAny_eqBool_int h
      · rw [key_lr] at h; exact SeqAt.EqAt.int_str i t y u _ _ _ _ h
    · rcases keyIs_shape hv with ⟨j, u, rfl, rfl⟩ | ⟨y, u, rfl, rfl⟩
      · rw [key_rl] at h; exact SeqAt.EqAt.str_int x t j u _ _ _ _ h
      · rw [key_rr] at h; exact wpAny_eqBool_str h
  «strs» := fun k x t v h => by
    rcases keyIs_shape h with ⟨i, u, rfl, e⟩ | ⟨y, u, rfl, e⟩
    · exact nomatch e
    · injection e with e1 _
      subst e1
      cases v <;> rfl
end L2
namespace L2
open PySem PySem.Spec PyProof.Rows
inductive V where
  | non | bl (b : Bool) | int (i : Int) | str (x : Str) | byt (b : Array UInt8) | flt (b : UInt64) | ref (a : Addr) | ty (n : String)
  deriving DecidableEq
def RelV : V → Value → Prop
  | .non, u => u = Value.none
  | .bl b, u => u = Value.bool b
  | .int i, u => ∃ t, u = Value.int i t
  | .str x, u => ∃ t, u = Value.str x t
  | .byt b, u => ∃ t, u = Value.bytes b t
  | .flt b, u => ∃ t, u = Value.float b t
  | .ref a, u => u = Value.ref a
  | .ty n, u => u = Value.type n
abbrev Vals : List V → List Value → Prop := Paired RelV
theorem Vals.length {xs : List V} {us : List Value} (r : Vals xs us) : xs.length = us.length := Paired.length r
theorem Vals.get : ∀ {xs : List V} {us : List Value} {i : Nat} {x : V}, Vals xs us → xs[i]? = some x → ∃ u, us[i]? = some u ∧ RelV x u
  | _, _, _, _, .nil, e => by simp at e
  | _, _, 0, _, .cons r _, e => by simp at e; subst e; exact ⟨_, rfl, r⟩
  | _, _, i + 1, x, .cons _ t, e => by
    obtain ⟨u, h1, h2⟩ := Vals.get (i := i) (x := x) t (by simpa using e)
    exact ⟨u, by simpa using h1, h2⟩
theorem Vals.append : ∀ {xs ys : List V} {us ws : List Value}, Vals xs us → Vals ys ws → Vals (xs ++ ys) (us ++ ws)
  | _, _, _, _, .nil, s => s
  | _, _, _, _, .cons r t, s => .cons r (Vals.append t s)
theorem Vals.take : ∀ {xs : List V} {us : List Value} (n : Nat), Vals xs us → Vals (xs.take n) (us.take n)
  | _, _, 0, _ => .nil
  | _, _, _ + 1, .nil => .nil
  | _, _, n + 1, .cons r t => .cons r (Vals.take n t)
theorem Vals.drop : ∀ {xs : List V} {us : List Value} (n : Nat), Vals xs us → Vals (xs.drop n) (us.drop n)
  | _, _, 0, r => r
  | _, _, _ + 1, .nil => .nil
  | _, _, n + 1, .cons _ t => Vals.drop n t
def RelO : Option V → Option Value → Prop
  | some v, some u => RelV v u
  | none, none => True
  | _, _ => False
def KV {κ : Type} : List (κ × V) → List (κ × Value) → Prop := Paired fun (p : κ × V) (q : κ × Value) => p.1 = q.1 ∧ RelV p.2 q.2
def kV : Key → V
  | .inl i => .int i
  | .inr x => .str x
inductive HO where
  | lst (xs : List V)
  | tup (xs : List V)
  | dK (kvs : List (Key × V)) | dT (kvs : List (List Key × V))
  | set (S : Int → Bool) (n : Nat)
  | ins (C dx : Addr) (fs : List (Str × V))
  | own (x : Addr)
  | xd (fs : List (Str × V))
  | met (f x : Addr)
  | rng (lo hi : Int)
  | frz (o : Obj) (u : HO)
  | tbl (ps : Array Value)
  | ext (φ : Heap → Prop)
abbrev Hp := Addr → Option HO
def upd (H : Hp) (a : Addr) (o : HO) : Hp := fun b => if b = a then some o else H b
theorem upd_same {H : Hp} {a : Addr} {o : HO} : upd H a o a = some o := by unfold upd; rw [if_pos rfl]
theorem upd_ne {H : Hp} {a b : Addr} {o : HO} (h : b ≠ a) : upd H a o b = H b := by unfold upd; rw [if_neg h]
theorem ne_of {H : Hp} {a b : Addr} {o u : HO} (h : H a = some o) (h' : H b = some u) (d : o ≠ u) : a ≠ b := by
  intro e; subst e; rw [h] at h'; exact d (Option.some.inj h')
theorem ne_of_none {H : Hp} {a b : Addr} {o : HO} (h : H a = some o) (h' : H b = none) : a ≠ b := by
  intro e; subst e; rw [h] at h'; cases h'
section
variable (P : Program) (w : World)
def ObjOk (H : Hp) (h : Heap) (a : Addr) : HO → Prop
  | .lst xs => xs.length ≤ sizeLine ∧ ∃ (its : List Value) (n : Nat), Vals xs its ∧ h.get? a = some { cls := .type "list", data := .seq its.toArray n }
  | .tup xs => xs.length ≤ sizeLine ∧ ∃ its : List Value, Vals xs its ∧ IsTup h a its.toArray
  | .dK kvs => kvs.length ≤ sizeLine ∧ (a == sysModules) = false ∧ ∃ vs, KV kvs vs ∧ h.DictOf (mixKind P w) a vs
  | .dT kvs => kvs.length ≤ sizeLine ∧ (a == sysModules) = false ∧ ∃ xs : List (List Key × Addr × Value),
      Paired (fun (p : List Key × V) (q : List Key × Addr × Value) => p.1 = q.1 ∧ H q.2.1 = some (.tup (p.1.map kV)) ∧ RelV p.2 q.2.2) kvs xs ∧
      ∃ o es ep, h.get? a = some o ∧ o.ExactDict ∧ o.data = .dict es ep ∧ es.toList = xs.map (entryOfKey (tupleKind (mixKind P w))) ∧ (xs.map (·.1)).Nodup
  | .set S n => h.SetOf (intKind P w) a S n
  | .ins C dx fs => H dx = some (.own a) ∧ fs.length ≤ 1000 ∧ dx ≠ a ∧ h.get? a = some (PySem.W.instObj C dx) ∧
      ∃ mA, h.Ns1 dx mA ∧ (∀ f, RelO (fs.lookup f) (mA f)) ∧ PySem.Within mA (fs.map (·.1))
  | .own _ => ∃ o, h.get? a = some o
  | .xd fs => ∃ mA, h.Ns1 a mA ∧ ∀ f, RelO (fs.lookup f) (mA f)
  | .rng lo hi => ∃ t u v, h.get? a = some { cls := .type "range", data := .fields #[.int lo t, .int hi u, .int 1 v] }
  | .frz o u => h.get? a = some o ∧ ObjOk H h a u
  | .tbl ps => h.get? a = some { cls := .none, data := .fields ps }
  | .met f x => h.get? a = some (PySem.W.methodObj (.ref f) (.ref x))
  | .ext φ => φ h ∧ (∃ o, h.get? a = some o) ∧ ∀ h1 h2 : Heap, φ h1 → (∀ o, h1.get? a = some o → h2.get? a = some o) → φ h2
def HOk (H : Hp) (h : Heap) : Prop := ∀ a o, H a = some o → ObjOk P w H h a o
end
section
variable {P : Program} {w : World} {H H' : Hp} {h h' : Heap} {a : Addr} {o : HO}
theorem ObjOk.lt (x : ObjOk P w H h a o) : a < h.objs.size := by
  cases o with
  | lst xs => obtain ⟨_, _, _, _, e⟩ := x; exact Heap.lt_size e
  | tup xs => obtain ⟨_, _, _, p⟩ := x; exact p.lt
  | dK kvs => obtain ⟨_, _, _, _, o, _, _, e, _⟩ := x; exact Heap.lt_size e
  | dT kvs => obtain ⟨_, _, _, _, o, _, _, e, _⟩ := x; exact Heap.lt_size e
  | set S n => obtain ⟨o, _, _, _, e, _⟩ := x; exact Heap.lt_size e
  | ins C dx fs => obtain ⟨_, _, _, e, _⟩ := x; exact Heap.lt_size e
  | own y => obtain ⟨_, e⟩ := x; exact Heap.lt_size e
  | xd fs => obtain ⟨_, ⟨_, _, _, e, _⟩, _⟩ := x; exact Heap.lt_size e
  | rng lo hi => obtain ⟨_, _, _, e⟩ := x; exact Heap.lt_size e
  | frz ob u => obtain ⟨e, _⟩ := x; exact Heap.lt_size e
  | tbl ps => exact Heap.lt_size (show h.get? a = some _ from x)
  | met f y => exact Heap.lt_size (show h.get? a = some _ from x)
  | ext φ => obtain ⟨_, ⟨_, e⟩, _⟩ := x; exact Heap.lt_size e
theorem Paired.mapP {α β : Type} {F G : α → β → Prop} : ∀ {l₁ : List α} {l₂ : List β}, Paired F l₁ l₂ → (∀ a b, F a b → G a b) → Paired G l₁ l₂
  | _, _, .nil, _ => .nil
  | _, _, .cons r t, f => .cons (f _ _ r) (Paired.mapP t f)
theorem ObjOk.stay (x : ObjOk P w H h a o) (k : ∀ b u, (b = a ∨ H b = some (.own a)) → h.get? b = some u → h'.get? b = some u)
    (ho : ∀ b, H b = some (.own a) → H' b = some (.own a)) (ht : ∀ b xs, H b = some (.tup xs) → H' b = some (.tup xs)) : ObjOk P w H' h' a o := by
  induction o with
  | lst xs => obtain ⟨z, its, n, r, e⟩ := x; exact ⟨z, its, n, r, k _ _ (.inl rfl) e⟩
  | tup xs => obtain ⟨z, its, r, ob, e, c⟩ := x; exact ⟨z, its, r, ob, k _ _ (.inl rfl) e, c⟩
  | dK kvs => obtain ⟨z, y, vs, r, ob, es, ep, e, c⟩ := x; exact ⟨z, y, vs, r, ob, es, ep, k _ _ (.inl rfl) e, c⟩
  | dT kvs =>
    obtain ⟨z, y, xs, r, ob, es, ep, e, c⟩ := x
    exact ⟨z, y, xs, Paired.mapP r fun p q z => ⟨z.1, ht _ _ z.2.1, z.2.2⟩, ob, es, ep, k _ _ (.inl rfl) e, c⟩
  | set S n => obtain ⟨ob, es, ep, t, e, c⟩ := x; exact ⟨ob, es, ep, t, k _ _ (.inl rfl) e, c⟩
  | ins C dx fs =>
    obtain ⟨d, z, ne, e, mA, ⟨od, es, ep, e2, c⟩, r⟩ := x
    exact ⟨ho _ d, z, ne, k _ _ (.inl rfl) e, mA, ⟨od, es, ep, k _ _ (.inr d) e2, c⟩, r⟩
  | own y => obtain ⟨ob, e⟩ := x; exact ⟨ob, k _ _ (.inl rfl) e⟩
  | xd fs => obtain ⟨mA, ⟨od, es, ep, e, c⟩, r⟩ := x; exact ⟨mA, ⟨od, es, ep, k _ _ (.inl rfl) e, c⟩, r⟩
  | rng lo hi => obtain ⟨t, u, v, e⟩ := x; exact ⟨t, u, v, k _ _ (.inl rfl) e⟩
  | frz ob u ih => obtain ⟨e, q⟩ := x; exact ⟨k _ _ (.inl rfl) e, ih q⟩
  | tbl ps =>
    have e : h.get? a = some { cls := .none, data := .fields ps } := x
    show h'.get? a = some { cls := .none, data := .fields ps }
    exact k a _ (.inl rfl) e
  | met f y =>
    have e : h.get? a = some (PySem.W.methodObj (.ref f) (.ref y)) := x
    show h'.get? a = some (PySem.W.methodObj (.ref f) (.ref y))
    exact k a _ (.inl rfl) e
  | ext φ => obtain ⟨p, ⟨o, e⟩, st⟩ := x; exact ⟨st _ _ p fun o q => k _ _ (.inl rfl) q, ⟨o, k _ _ (.inl rfl) e⟩, st⟩
theorem HOk.lt (x : HOk P w H h) (e : H a = some o) : a < h.objs.size := (x a o e).lt
theorem HOk.fresh (x : HOk P w H h) (e : h.objs.size ≤ a) : H a = none := by
  cases q : H a with
  | none => rfl
  | some u => exact absurd (Nat.lt_of_lt_of_le (x.lt q) e) (Nat.lt_irrefl _)
theorem HOk.kept (x : HOk P w H h) (k : ∀ b u, h.get? b = some u → h'.get? b = some u) : HOk P w H h' := fun a o e =>
  (x a o e).stay (fun b u _ q => k b u q) (fun _ q => q) fun _ _ q => q
theorem HOk.laid (x : HOk P w H h) (k : ∀ b u, h.get? b = some u → h'.get? b = some u) (hp : h.objs.size ≤ a) (new : ObjOk P w (upd H a o) h' a o) : HOk P w (upd H a o) h' := fun b u e => by
  have hn := x.fresh hp
  by_cases hb : b = a
  · subst hb; rw [upd_same] at e; cases e; exact new
  · rw [upd_ne hb] at e
    exact (x b u e).stay (fun c v _ q => k c v q) (fun c q => by rw [upd_ne (ne_of_none q hn)]; exact q) fun c xs q => by rw [upd_ne (ne_of_none q hn)]; exact q
end
def Rd (H : Hp) (a : Addr) (u : HO) : Prop := H a = some u ∨ ∃ o, H a = some (.frz o u)
theorem Rd.ok {P : Program} {w : World} {H : Hp} {h : Heap} {a : Addr} {u : HO} (r : Rd H a u) (x : HOk P w H h) : ObjOk P w H h a u := by
  rcases r with r | ⟨o, r⟩
  · exact x a u r
  · obtain ⟨_, q⟩ := x a _ r
    exact q
def Mut : Option HO → Prop
  | some (.lst _) => True
  | some (.dK _) => True
  | some (.dT _) => True
  | some (.set _ _) => True
  | some (.ins _ _ _) => True
  | some (.ext _) => True
  | _ => False
section
variable {P : Program} {w : World} {H : Hp} {h h' : Heap} {x e : Addr} {o' : HO}
theorem HOk.write (ok : HOk P w H h) (mu : Mut (H x)) (he : e = x ∨ H e = some (.own x)) (k : ∀ b u, b ≠ e → h.get? b = some u → h'.get? b = some u) (heo : ∃ u, h'.get? e = some u)
    (new : ObjOk P w (upd H x o') h' x o') : HOk P w (upd H x o') h' := fun b u q => by
  have nown : ∀ c y, H c = some (.own y) → c ≠ x := fun c y r z => by subst z; rw [r] at mu; exact mu
  have ntup : ∀ c xs, H c = some (.tup xs) → c ≠ x := fun c xs r z => by subst z; rw [r] at mu; exact mu
  by_cases hb : b = x
  · subst hb; rw [upd_same] at q; cases q; exact new
  · rw [upd_ne hb] at q
    by_cases hbe : b = e
    · have q' : H b = some (.own x) := by
        rcases he with z | z
        · exact absurd (hbe.trans z) hb
        · rw [hbe]; exact z
      rw [q] at q'; cases q'
      obtain ⟨v, hv⟩ := heo
      exact ⟨v, by rw [hbe]; exact hv⟩
    · refine (ok b u q).stay (fun c v hc r => k c v ?_ r) (fun c r => by rw [upd_ne (nown c b r)]; exact r) fun c xs r => by rw [upd_ne (ntup c xs r)]; exact r
      rcases hc with rfl | hc
      · exact hbe
      · rintro rfl
        rcases he with z | z
        · exact nown c b hc z
        · rw [hc] at z; cases z; exact hb rfl
end
structure Un (fs ex : List Addr) (H H' : Hp) (h h' : Heap) : Prop where
  keep : ∀ b o, h.get? b = some o → H b = none → b ∉ fs → b ∉ ex → h'.get? b = some o
  slot : ∀ b o, h.get? b = some o → H b = none → b ∈ fs → b ∉ ex → ∃ sl, h'.get? b = some { o with slots := sl }
  free : ∀ b o, h.get? b = some o → H b = none → b ∉ ex → H' b = none
  there : ∀ b o, h.get? b = some o → b ∉ ex → ∃ o', h'.get? b = some o'
  tups : ∀ b xs, H b = some (.tup xs) → H' b = some (.tup xs)
  frzs : ∀ b o u, H b = some (.frz o u) → H' b = some (.frz o u)
  tbls : ∀ b ps, H b = some (.tbl ps) → ∃ more, H' b = some (.tbl (ps ++ more))
section
variable {fs fs' ex ex' : List Addr} {H H1 H2 : Hp} {h h1 h2 h' : Heap} {a x e : Addr} {o : HO}
theorem Un.any (u : Un fs ex H H1 h h1) {b : Addr} {ob : Obj} (q : h.get? b = some ob) (n : H b = none) (hx : b ∉ ex) : ∃ sl, h1.get? b = some { ob with slots := sl } := by
  by_cases hb : b ∈ fs
  · exact u.slot b ob q n hb hx
  · exact ⟨ob.slots, u.keep b ob q n hb hx⟩
theorem Un.kept (k : ∀ b u, h.get? b = some u → h'.get? b = some u) : Un fs ex H H h h' :=
  ⟨fun b ob q _ _ _ => k b ob q, fun b ob q _ _ _ => ⟨ob.slots, k b ob q⟩, fun _ _ _ n _ => n, fun b ob q _ => ⟨ob, k b ob q⟩, fun _ _ q => q, fun _ _ _ q => q, fun _ ps q => ⟨#[], by rw [q]; simp⟩⟩
theorem Un.refl : Un fs ex H H h h := Un.kept fun _ _ q => q
theorem Un.laid (k : ∀ b u, h.get? b = some u → h'.get? b = some u) (hp : h.objs.size ≤ a) (hn : H a = none) : Un fs ex H (upd H a o) h h' where
  keep := fun b u q _ _ _ => k b u q
  slot := fun b u q _ _ _ => ⟨u.slots, k b u q⟩
  free := fun b u q n _ => by rw [upd_ne (Nat.ne_of_lt (Nat.lt_of_lt_of_le (Heap.lt_size q) hp))]; exact n
  there := fun b u q _ => ⟨u, k b u q⟩
  tups := fun b xs q => by rw [upd_ne (ne_of_none q hn)]; exact q
  frzs := fun b u xs q => by rw [upd_ne (ne_of_none q hn)]; exact q
  tbls := fun b ps q => ⟨#[], by rw [upd_ne (ne_of_none q hn), q]; simp⟩
theorem Un.write (mu : Mut (H x)) (he : e = x ∨ H e = some (.own x)) (k : ∀ b u, b ≠ e → h.get? b = some u → h'.get? b = some u) (heo : ∃ u, h'.get? e = some u) : Un fs ex H (upd H x o) h h' := by
  have hx : ∀ b, H b = none → b ≠ x := fun b n z => by subst z; rw [n] at mu; exact mu
  have hb : ∀ b, H b = none → b ≠ e := fun b n z => by
    subst z
    rcases he with r | r
    · exact hx b n r
    · rw [n] at r; cases r
  have hm : ∀ b u, H b = some u → ¬ Mut (some u) → b ≠ x := fun b u q nm z => by subst z; rw [q] at mu; exact nm mu
  refine ⟨fun b u q n _ _ => k b u (hb b n) q, fun b u q n _ _ => ⟨u.slots, k b u (hb b n) q⟩, fun b u q n _ => by rw [upd_ne (hx b n)]; exact n, fun b u q _ => ?_,
    fun b xs q => by rw [upd_ne (hm b _ q fun z => z)]; exact q, fun b u xs q => by rw [upd_ne (hm b _ q fun z => z)]; exact q, fun b ps q => ⟨#[], by rw [upd_ne (hm b _ q fun z => z), q]; simp⟩⟩
  by_cases hbe : b = e
  · subst hbe; exact heo
  · exact ⟨u, k b u hbe q⟩
end
def trk (h : Heap) (H : Hp) : List Addr := (List.range h.objs.size).filter fun a => (H a).isSome
def hidT (h : Heap) (H : Hp) : Heap := PySem.W.hideAll h (trk h H)
theorem hidT_size (h : Heap) (H : Hp) : (hidT h H).objs.size = h.objs.size := PySem.W.hideAll_size _ _
theorem hidT_get {h : Heap} {H : Hp} {b : Addr} {o : Obj} (e : h.get? b = some o) (n : H b = none) : (hidT h H).get? b = some o :=
  PySem.W.hideAll_get _ e fun hm => by
    have q : (H b).isSome = true := (List.mem_filter.mp hm).2
    rw [n] at q; simp at q
theorem of_hidT {h : Heap} {H : Hp} {b : Addr} {o : Obj} (e : (hidT h H).get? b = some o) : h.get? b = some o ∧ H b = none := by
  have e' : h.get? b = some o := PySem.W.of_hideAll (trk h H) e
  refine ⟨e', ?_⟩
  cases q : H b with
  | none => rfl
  | some x =>
    have hm : b ∈ trk h H := List.mem_filter.mpr ⟨List.mem_range.mpr (Heap.lt_size e'), by simp [q]⟩
    have z : (hidT h H).get? b = none := PySem.W.hideAll_none (trk h H) hm
    rw [z] at e; cases e
end L2
namespace L2
open PySem PySem.Spec PyProof.Rows
structure Mod (K : PySem.W.Frag) (mg : Str → Option Value) (base : Heap) : Prop where
  kin : K.In base
  glob : base.Ns mainGlobals mg
  blt : ∃ mb, base.Ns builtinsNs mb ∧ ∀ x : Str, x ≠ "__name__" → mb x = bootBuiltins x
  nolimit : base.NoLimit
structure Cx where
  prog : Program
  w : World
  K : PySem.W.Frag
  mg : Str → Option Value
  base : Heap
  A : Around
  N : List Str
  s₀ : Shared
  H₀ : Hp
  env : Env
  outer : List Env
  stack : List Env
  ex : List Addr
  fn : Str → Bool
  calm : Bool
  pn : List (Addr × Obj)
  xe : Value → Shared → Prop
def frs (l : List Env) : List Addr := l.filterMap (·.frame)
abbrev Cx.fs (X : Cx) : List Addr := frs X.outer
def Vis (sc : Scope) (x : Str) : Prop := sc.names.lookup x = some .local ∨ sc.names.lookup x = some .cell ∨ sc.names.lookup x = some .free
def Loc (sc : Scope) (x : Str) : Prop := sc.names.lookup x = some .local ∨ sc.names.lookup x = some .cell
def Look (env : Env) (h : Heap) (m : Str → Option Value) (x : Str) (u : Value) : Prop :=
  (env.kindOf x = some .local ∧ m x = some u) ∨ ((env.kindOf x = some .cell ∨ env.kindOf x = some .free) ∧ ∃ c, env.cells.lookup x = some c ∧ h.IsCell c (some u))
structure Cx.Ok (X : Cx) : Prop where
  mod : Mod X.K X.mg X.base
  kind : X.env.scope.kind = .function
  glob : X.env.globals = mainGlobals
  blt : X.env.builtins = builtinsNs
  above : X.s₀.heap.objs.size ≤ X.env.locals
  inj : ∀ x y c, X.env.cells.lookup x = some c → X.env.cells.lookup y = some c → x = y
  has : ∀ x, (X.env.kindOf x = some .cell ∨ X.env.kindOf x = some .free) → ∃ c, X.env.cells.lookup x = some c
  cab : ∀ x c, X.fn x = true → X.env.cells.lookup x = some c → X.s₀.heap.objs.size ≤ c
  hd : X.calm = true → X.A.handled = none
  frames : X.A.frames = some X.stack
  stk : X.stack = X.outer ∨ (X.stack = X.env :: X.outer ∧ X.env.frame = some X.env.locals)
  exf : ∀ b ∈ X.ex, b ≠ X.env.locals ∧ ∀ x c, X.env.cells.lookup x = some c → c ≠ b
  bs : ∀ b o, X.base.get? b = some o → X.s₀.heap.get? b = some o ∧ X.H₀ b = none
  bsz : X.base.objs.size ≤ X.s₀.heap.objs.size
  noex : ∀ b o, X.base.get? b = some o → b ∉ X.ex
  exfs : ∀ b ∈ X.ex, b ∉ X.fs
  funs : X.s₀.heap.FunFrames X.base X.outer
  frf : ∀ b ∈ X.fs, X.H₀ b = none
structure Inv (X : Cx) (pins : List (Addr × Obj)) (σ : List (Option V)) (H : Hp) (s : Shared) : Prop where
  ok : X.Ok
  os : s.os = X.s₀.os
  bare : AllBare s.gens
  base : Un X.fs X.ex X.H₀ H X.s₀.heap s.heap
  loc : ∃ m, s.heap.Ns X.env.locals m ∧ ∀ (i : Nat) (x : Str) (v : V), X.N[i]? = some x → σ[i]? = some (some v) → Vis X.env.scope x → ∃ u, RelV v u ∧ Look X.env s.heap m x u
  cell : ∀ x c, X.env.cells.lookup x = some c → ∃ v, s.heap.IsCell c v
  free : H X.env.locals = none
  freeC : ∀ x c, X.env.cells.lookup x = some c → H c = none
  pin : ∀ p ∈ X.pn ++ pins, s.heap.get? p.1 = some p.2 ∧ H p.1 = none ∧ p.1 ≠ X.env.locals ∧ p.1 ∉ X.fs ∧ ∀ v, p.2.data ≠ .cell v
  hok : HOk X.prog X.w H s.heap
  len : σ.length = X.N.length
section
variable {X : Cx} {pins : List (Addr × Obj)} {σ : List (Option V)} {H H' : Hp} {s : Shared} {h' : Heap}
theorem Cx.Ok.nofr (ok : X.Ok) {b : Addr} {o : Obj} (e : X.base.get? b = some o) : b ∉ X.fs := fun hb => by
  have := (ok.funs.mem hb).1
  rw [e] at this; cases this
theorem Inv.bs (I : Inv X pins σ H s) : ∀ b o, X.base.get? b = some o → s.heap.get? b = some o ∧ H b = none := fun b o e =>
  ⟨I.base.keep b o (I.ok.bs b o e).1 (I.ok.bs b o e).2 (I.ok.nofr e) (I.ok.noex b o e), I.base.free b o (I.ok.bs b o e).1 (I.ok.bs b o e).2 (I.ok.noex b o e)⟩
theorem Inv.bk (I : Inv X pins σ H s) : ∀ b o, X.base.get? b = some o → s.heap.get? b = some o := fun b o e => (I.bs b o e).1
theorem Inv.mod (I : Inv X pins σ H s) : Mod X.K X.mg X.base := I.ok.mod
theorem Inv.kIn (I : Inv X pins σ H s) : X.K.In s.heap := I.ok.mod.kin.keeps I.bk
theorem Inv.lt (I : Inv X pins σ H s) : X.env.locals < s.heap.objs.size := let ⟨_, hn, _⟩ := I.loc; hn.lt
theorem Inv.sz (I : Inv X pins σ H s) : X.s₀.heap.objs.size ≤ s.heap.objs.size := Nat.le_trans I.ok.above (Nat.le_of_lt I.lt)
theorem Inv.nofs (I : Inv X pins σ H s) {a : Addr} (h : s.heap.objs.size ≤ a) : a ∉ X.fs := fun hb => by
  obtain ⟨_, o, ho, _⟩ := I.ok.funs.mem hb
  exact absurd (Nat.lt_of_lt_of_le (Heap.lt_size ho) (Nat.le_trans I.sz h)) (Nat.lt_irrefl _)
theorem Inv.cne (I : Inv X pins σ H s) : ∀ x c, X.env.cells.lookup x = some c → c ≠ X.env.locals := fun x c e z => by
  obtain ⟨v, o, ho, hd⟩ := I.cell x c e
  obtain ⟨m, ⟨o', es, ep, ho', hd', _⟩, _⟩ := I.loc
  rw [z, ho'] at ho; cases ho; rw [hd'] at hd; cases hd
theorem Inv.funs (I : Inv X pins σ H s) : s.heap.FunFrames X.base X.outer := by
  have all : ∀ (l : List Env), (∀ b ∈ frs l, b ∈ X.fs) → X.s₀.heap.FunFrames X.base l → s.heap.FunFrames X.base l := by
    intro l
    induction l with
    | nil => intro _ _; trivial
    | cons env r ih =>
      intro hs hl
      obtain ⟨hk, ⟨L, o, hf, hn, ho, hd⟩, hr⟩ := hl
      have hL : L ∈ X.fs := hs L (by unfold frs; rw [List.filterMap_cons, hf]; exact List.mem_cons_self)
      obtain ⟨sl, e⟩ := I.base.slot L o ho (I.ok.frf L hL) hL fun z => I.ok.exfs L z hL
      exact ⟨hk, ⟨L, _, hf, hn, e, hd⟩, ih (fun b hb => hs b (by unfold frs; rw [List.filterMap_cons, hf]; exact List.mem_cons_of_mem _ hb)) hr⟩
  exact all X.outer (fun _ hb => hb) I.ok.funs
theorem Inv.stack (I : Inv X pins σ H s) : s.heap.FunFrames X.base X.stack := by
  rcases I.ok.stk with e | ⟨e, hf⟩
  · rw [e]; exact I.funs
  · rw [e]
    obtain ⟨m, hn, _⟩ := I.loc
    refine .cons (by rw [I.ok.kind]; decide) hf hn ?_ I.funs
    exact Heap.get?_none_of_le (Nat.le_trans I.ok.bsz I.ok.above)
theorem Inv.stkSub (I : Inv X pins σ H s) : ∀ b ∈ frs X.stack, b ∈ X.env.locals :: X.fs := fun b hb => by
  rcases I.ok.stk with e | ⟨e, hf⟩
  · rw [e] at hb; exact List.mem_cons_of_mem _ hb
  · rw [e] at hb
    unfold frs at hb
    rw [List.filterMap_cons, hf] at hb
    exact hb
theorem Inv.stkFree (I : Inv X pins σ H s) : ∀ b ∈ frs X.stack, H b = none := fun b hb => by
  rcases List.mem_cons.mp (I.stkSub b hb) with e | hb
  · rw [e]; exact I.free
  · obtain ⟨_, o, ho, _⟩ := I.ok.funs.mem hb
    exact I.base.free b o ho (I.ok.frf b hb) fun z => I.ok.exfs b z hb
theorem Inv.step {g' : Array GenState} {t' : Nat} {d' : Drawn} {ch : List Addr} (I : Inv X pins σ H s)
    (hch : ∀ b ∈ ch, (b ∈ X.ex ∨ X.s₀.heap.objs.size ≤ b) ∧ b ≠ X.env.locals ∧ (∀ x c, X.env.cells.lookup x = some c → c ≠ b) ∧ ∀ p ∈ X.pn ++ pins, p.1 ≠ b)
    (keep : ∀ b o, b ≠ X.env.locals → b ∉ X.fs → b ∉ ch → s.heap.get? b = some o → H b = none → h'.get? b = some o)
    (slot : ∀ b o, b ≠ X.env.locals → b ∈ X.fs → b ∉ ch → s.heap.get? b = some o → H b = none → ∃ sl, h'.get? b = some { o with slots := sl }) (free : ∀ b o, b ∉ ch → s.heap.get? b = some o → H b = none → H' b = none)
    (there : ∀ b o, b ∉ ch → s.heap.get? b = some o → ∃ o', h'.get? b = some o')
    (tups : ∀ b xs, H b = some (.tup xs) → H' b = some (.tup xs)) (frzs : ∀ b o u, H b = some (.frz o u) → H' b = some (.frz o u)) (tbls : ∀ b ps, H b = some (.tbl ps) → ∃ more, H' b = some (.tbl (ps ++ more)))
    (ns : ∀ m, s.heap.Ns X.env.locals m → h'.Ns X.env.locals m) (hok : HOk X.prog X.w H' h') (hg : AllBare g') :
    Inv X pins σ H' { s with heap := h', gens := g', drawn := d', toks := t' } := by
  have neL : ∀ b o, X.s₀.heap.get? b = some o → b ≠ X.env.locals := fun b o e => Nat.ne_of_lt (Nat.lt_of_lt_of_le (Heap.lt_size e) I.ok.above)
  have neC : ∀ b o, X.s₀.heap.get? b = some o → b ∉ X.ex → b ∉ ch := fun b o e hx hb => by
    rcases (hch b hb).1 with z | z
    · exact hx z
    · exact absurd (Nat.lt_of_lt_of_le (Heap.lt_size e) z) (Nat.lt_irrefl _)
  have cellK : ∀ x c, X.env.cells.lookup x = some c → ∀ v, s.heap.IsCell c v → h'.IsCell c v := fun x c e v ⟨o, ho, hd⟩ => by
    have nch : c ∉ ch := fun z => (hch c z).2.2.1 x c e rfl
    by_cases hc : c ∈ X.fs
    · obtain ⟨sl, q⟩ := slot c o (I.cne x c e) hc nch ho (I.freeC x c e)
      exact ⟨_, q, hd⟩
    · exact ⟨o, keep c o (I.cne x c e) hc nch ho (I.freeC x c e), hd⟩
  refine ⟨I.ok, I.os, hg, ⟨fun b o e n hb hx => ?_, fun b o e n hb hx => ?_, fun b o e n hx => ?_, fun b o e hx => ?_, fun b xs e => tups b xs (I.base.tups b xs e), fun b o xs e => frzs b o xs (I.base.frzs b o xs e), fun b ps e => ?_⟩, ?_, fun x c e => ?_, ?_, fun x c e => ?_, fun p hp => ?_, hok, I.len⟩
  · exact keep b o (neL b o e) hb (neC b o e hx) (I.base.keep b o e n hb hx) (I.base.free b o e n hx)
  · obtain ⟨sl, e1⟩ := I.base.slot b o e n hb hx
    obtain ⟨sl', e2⟩ := slot b _ (neL b o e) hb (neC b o e hx) e1 (I.base.free b o e n hx)
    exact ⟨sl', e2⟩
  · obtain ⟨o', e1⟩ := I.base.there b o e hx
    exact free b o' (neC b o e hx) e1 (I.base.free b o e n hx)
  · obtain ⟨o', e1⟩ := I.base.there b o e hx
    exact there b o' (neC b o e hx) e1
  · obtain ⟨m1, e1⟩ := I.base.tbls b ps e
    obtain ⟨m2, e2⟩ := tbls b _ e1
    exact ⟨m1 ++ m2, by rw [e2, Array.append_assoc]⟩
  · obtain ⟨m, hn, hl⟩ := I.loc
    refine ⟨m, ns m hn, fun i x v e1 e2 e3 => ?_⟩
    obtain ⟨u, r, l⟩ := hl i x v e1 e2 e3
    refine ⟨u, r, ?_⟩
    rcases l with l | ⟨k, c, e, z⟩
    · exact .inl l
    · exact .inr ⟨k, c, e, cellK x c e _ z⟩
  · obtain ⟨v, z⟩ := I.cell x c e
    exact ⟨v, cellK x c e v z⟩
  · obtain ⟨m, ⟨o, _, _, ho, _⟩, _⟩ := I.loc
    exact free _ o (fun z => (hch _ z).2.1 rfl) ho I.free
  · obtain ⟨v, o, ho, hd⟩ := I.cell x c e
    exact free c o (fun z => (hch c z).2.2.1 x c e rfl) ho (I.freeC x c e)
  · obtain ⟨e, n, ne, nf, d⟩ := I.pin p hp
    have nch : p.1 ∉ ch := fun z => (hch p.1 z).2.2.2 p hp rfl
    exact ⟨keep p.1 p.2 ne nf nch e n, free p.1 p.2 nch e n, ne, nf, d⟩
theorem Inv.un {t' : Nat} (I : Inv X pins σ H s) (u : Un X.fs [] H H' s.heap h') (hok : HOk X.prog X.w H' h') : Inv X pins σ H' { s with heap := h', toks := t' } := by
  obtain ⟨m, ⟨o, es, ep, ho, r⟩, _⟩ := id I.loc
  obtain ⟨sl, hL⟩ := u.any ho I.free (by simp)
  exact I.step (g' := s.gens) (d' := s.drawn) (ch := []) (fun _ z => nomatch z) (fun b o _ hb _ e n => u.keep b o e n hb (by simp)) (fun b o _ hb _ e n => u.slot b o e n hb (by simp)) (fun b o _ e n => u.free b o e n (by simp)) (fun b o _ e => u.there b o e (by simp)) u.tups u.frzs u.tbls (fun m' hm => by
    obtain ⟨o', es', ep', ho', r'⟩ := hm
    rw [ho] at ho'; cases ho'
    exact ⟨_, es', ep', hL, r'⟩) hok I.bare
theorem Inv.call {g' : Array GenState} {t' : Nat} {d' : Drawn} {ch : List Addr} (I : Inv X pins σ H s) (u : Un (frs X.stack) ch H H' s.heap h') (hok : HOk X.prog X.w H' h') (hg : AllBare g')
    (hch : ∀ b ∈ ch, (b ∈ X.ex ∨ X.s₀.heap.objs.size ≤ b) ∧ b ≠ X.env.locals ∧ (∀ x c, X.env.cells.lookup x = some c → c ≠ b) ∧ ∀ p ∈ X.pn ++ pins, p.1 ≠ b) :
    Inv X pins σ H' { s with heap := h', gens := g', drawn := d', toks := t' } := by
  obtain ⟨m, ⟨o, es, ep, ho, r⟩, _⟩ := id I.loc
  obtain ⟨sl, hL⟩ := u.any ho I.free fun z => (hch _ z).2.1 rfl
  exact I.step (ch := ch) hch (fun b o hL hb hc e n => u.keep b o e n (fun z => (List.mem_cons.mp (I.stkSub b z)).elim hL hb) hc) (fun b o _ _ hc e n => u.any e n hc) (fun b o hc e n => u.free b o e n hc) (fun b o hc e => u.there b o e hc) u.tups u.frzs u.tbls (fun m' hm => by
    obtain ⟨o', es', ep', ho', r'⟩ := hm
    rw [ho] at ho'; cases ho'
    exact ⟨_, es', ep', hL, r'⟩) hok hg
theorem Inv.turned {t' : Nat} {it : Addr} (I : Inv X pins σ H s) (k : ∀ b o, b ≠ it → s.heap.get? b = some o → h'.get? b = some o) (hn : H it = none) (hL : it ≠ X.env.locals)
    (h1 : it ∈ X.ex ∨ X.s₀.heap.objs.size ≤ it) (h2 : ∀ x c, X.env.cells.lookup x = some c → c ≠ it) (h3 : ∀ p ∈ X.pn ++ pins, p.1 ≠ it) : Inv X pins σ H { s with heap := h', toks := t' } := by
  have nit : ∀ b u, H b = some u → b ≠ it := fun b u e z => by rw [z, hn] at e; cases e
  refine I.step (g' := s.gens) (d' := s.drawn) (ch := [it]) (fun b hb => ?_) (fun b o _ _ hc e _ => k b o (fun z => hc (by simp [z])) e) (fun b o _ _ hc e _ => ⟨o.slots, k b o (fun z => hc (by simp [z])) e⟩) (fun _ _ _ _ n => n)
    (fun b o hc e => ⟨o, k b o (fun z => hc (by simp [z])) e⟩) (fun _ _ e => e) (fun _ _ _ e => e) (fun b ps e => ⟨#[], by rw [e]; simp⟩) (fun m hm => ?_) (fun b u e => ?_) I.bare
  · have e : b = it := by simpa using hb
    subst e
    exact ⟨h1, hL, h2, h3⟩
  · obtain ⟨o, es, ep, ho, r⟩ := hm
    exact ⟨o, es, ep, k _ o (Ne.symm hL) ho, r⟩
  · refine (I.hok b u e).stay (fun c v hc q => k c v ?_ q) (fun _ q => q) fun _ _ q => q
    rcases hc with z | z
    · rw [z]; exact nit b u e
    · exact nit c _ z
theorem Inv.tok (I : Inv X pins σ H s) (t : Nat) : Inv X pins σ H { s with toks := t } := I.un (h' := s.heap) (t' := t) Un.refl I.hok
theorem Inv.kept {t' : Nat} (I : Inv X pins σ H s) (k : ∀ b u, s.heap.get? b = some u → h'.get? b = some u) : Inv X pins σ H { s with heap := h', toks := t' } := I.un (Un.kept k) (I.hok.kept k)
theorem Inv.laid {a : Addr} {o : HO} {t' : Nat} (I : Inv X pins σ H s) (k : ∀ b u, s.heap.get? b = some u → h'.get? b = some u) (hp : s.heap.objs.size ≤ a) (new : ObjOk X.prog X.w (upd H a o) h' a o) :
    Inv X pins σ (upd H a o) { s with heap := h', toks := t' } := I.un (Un.laid k hp (I.hok.fresh hp)) (I.hok.laid k hp new)
theorem Inv.write {x e : Addr} {o : HO} {t' : Nat} (I : Inv X pins σ H s) (mu : Mut (H x)) (he : e = x ∨ H e = some (.own x)) (k : ∀ b u, b ≠ e → s.heap.get? b = some u → h'.get? b = some u) (heo : ∃ u, h'.get? e = some u)
    (new : ObjOk X.prog X.w (upd H x o) h' x o) : Inv X pins σ (upd H x o) { s with heap := h', toks := t' } := I.un (Un.write mu he k heo) (I.hok.write mu he k heo new)
theorem Inv.weak {σ' : List (Option V)} (I : Inv X pins σ H s) (hl : σ'.length = σ.length) (w : ∀ (i : Nat) v, σ'[i]? = some (some v) → σ[i]? = some (some v)) : Inv X pins σ' H s :=
  ⟨I.ok, I.os, I.bare, I.base, let ⟨m, hn, hl'⟩ := I.loc; ⟨m, hn, fun i x v e1 e2 e3 => hl' i x v e1 (w i v e2) e3⟩, I.cell, I.free, I.freeC, I.pin, I.hok, hl.trans I.len⟩
theorem Inv.pins_of {pins' : List (Addr × Obj)} (I : Inv X pins σ H s) (h : ∀ p ∈ pins', s.heap.get? p.1 = some p.2 ∧ H p.1 = none ∧ p.1 ≠ X.env.locals ∧ p.1 ∉ X.fs ∧ ∀ v, p.2.data ≠ .cell v) : Inv X pins' σ H s :=
  ⟨I.ok, I.os, I.bare, I.base, I.loc, I.cell, I.free, I.freeC, fun p hp => (List.mem_append.mp hp).elim (fun z => I.pin p (List.mem_append_left _ z)) (h p), I.hok, I.len⟩
theorem nodup_ix {N : List Str} (hN : N.Nodup) {i j : Nat} {x : Str} (a : N[i]? = some x) (b : N[j]? = some x) : i = j := by
  obtain ⟨h1, e1⟩ := List.getElem?_eq_some_iff.mp a
  obtain ⟨h2, e2⟩ := List.getElem?_eq_some_iff.mp b
  exact (List.getElem_inj hN).mp (e1.trans e2.symm)
theorem store_ok2 {M : Model} {A : Around} {E : Value → Shared → Prop} {i : Nat} {x : Str} {v : V} {u : Value} {Q : Unit → Shared → Prop} (I : Inv X pins σ H s) (hN : X.N.Nodup) (hi : X.N[i]? = some x) (hx : Loc X.env.scope x) (r : RelV v u)
    (h : ∀ s', Inv X pins (σ.set i (some v)) H s' → (∃ a, Heap.SameBut a s.heap s'.heap ∧ (a = X.env.locals ∨ X.env.cells.lookup x = some a)) → Q () s') (hf : X.fn x = true ∨ X.env.scope.names.lookup x = some .local := by first | exact .inl rfl | exact .inr rfl | assumption) : wpAny M A (storeName X.env x u) Q E s := by
  obtain ⟨m, hn, hl⟩ := id I.loc
  have hcls : (X.env.scope.kind == .class || (X.env.scope.kind == .module && X.env.locals != X.env.globals)) = false := by rw [I.ok.kind]; rfl
  have hiσ : i < σ.length := by rw [I.len]; exact (List.getElem?_eq_some_iff.mp hi).1
  have cne := I.cne
  have tracked : ∀ {a : Addr} {h' : Heap}, (∃ o, s.heap.get? a = some o ∧ H a = none) → Heap.SameBut a s.heap h' → HOk X.prog X.w H h' := fun {a h'} ha hs b ob e => by
    obtain ⟨_, _, hfree⟩ := ha
    refine (I.hok b ob e).stay (fun c w' hc q => (hs.2 c ?_).trans q) (fun _ q => q) fun _ _ q => q
    rintro rfl
    rcases hc with rfl | hc
    · rw [hfree] at e; cases e
    · rw [hfree] at hc; cases hc
  rcases hx with hk | hk
  · refine wpAny_storeName_local hk hn (fun h' hn' hs => ?_) hcls
    obtain ⟨oL, _, _, hoL, _⟩ := id hn
    refine h _ ⟨I.ok, I.os, I.bare, ⟨fun b o e n hb hx => ?_, fun b o e n hb hx => ?_, I.base.free, fun b o e hx => ?_, I.base.tups, I.base.frzs, I.base.tbls⟩, ⟨_, hn', fun j y v' e1 e2 e3 => ?_⟩, fun y c e => ?_, I.free, I.freeC, fun p hp => ?_, tracked ⟨oL, hoL, I.free⟩ hs, by simpa using I.len⟩ ⟨_, hs, .inl rfl⟩
    · exact (hs.2 b (Nat.ne_of_lt (Nat.lt_of_lt_of_le (Heap.lt_size e) I.ok.above))).trans (I.base.keep b o e n hb hx)
    · obtain ⟨sl, e1⟩ := I.base.slot b o e n hb hx
      exact ⟨sl, (hs.2 b (Nat.ne_of_lt (Nat.lt_of_lt_of_le (Heap.lt_size e) I.ok.above))).trans e1⟩
    · obtain ⟨o', e1⟩ := I.base.there b o e hx
      exact ⟨o', (hs.2 b (Nat.ne_of_lt (Nat.lt_of_lt_of_le (Heap.lt_size e) I.ok.above))).trans e1⟩
    · by_cases hj : j = i
      · subst hj
        rw [hi] at e1; cases e1
        rw [List.getElem?_set_self hiσ] at e2
        cases e2
        exact ⟨u, r, .inl ⟨hk, by simp⟩⟩
      · rw [List.getElem?_set_ne (Ne.symm hj)] at e2
        obtain ⟨u', r', q⟩ := hl j y v' e1 e2 e3
        refine ⟨u', r', ?_⟩
        rcases q with ⟨k, e⟩ | ⟨k, c, e, z⟩
        · refine .inl ⟨k, ?_⟩
          have : y ≠ x := fun e => hj (nodup_ix hN e1 (e ▸ hi))
          simp [this, e]
        · exact .inr ⟨k, c, e, z.sameBut hs (cne y c e)⟩
    · obtain ⟨w', z⟩ := I.cell y c e
      exact ⟨w', z.sameBut hs (cne y c e)⟩
    · obtain ⟨e, n, ne, nf, d⟩ := I.pin p hp
      exact ⟨(hs.2 p.1 ne).trans e, n, ne, nf, d⟩
  · have hfn : X.fn x = true := by
      rcases hf with z | z
      · exact z
      · rw [z] at hk; cases hk
    obtain ⟨c, hc⟩ := I.ok.has x (.inl hk)
    obtain ⟨w', z⟩ := I.cell x c hc
    refine wpAny_storeName_cell I.ok.kind hk hc z (fun h' hc' hs => ?_)
    obtain ⟨oc, hoc, hocd⟩ := id z
    refine h { s with heap := h' } ⟨I.ok, I.os, I.bare, ⟨fun b o e n hb hx => ?_, fun b o e n hb hx => ?_, I.base.free, fun b o e hx => ?_, I.base.tups, I.base.frzs, I.base.tbls⟩, ⟨m, hn.sameBut hs (Ne.symm (cne x c hc)), fun j y v' e1 e2 e3 => ?_⟩, fun y c' e => ?_, I.free, I.freeC, fun p hp => ?_, tracked ⟨oc, hoc, I.freeC x c hc⟩ hs, by simpa using I.len⟩ ⟨c, hs, .inr hc⟩
    · exact (hs.2 b (Nat.ne_of_lt (Nat.lt_of_lt_of_le (Heap.lt_size e) (I.ok.cab x c hfn hc)))).trans (I.base.keep b o e n hb hx)
    · obtain ⟨sl, e1⟩ := I.base.slot b o e n hb hx
      exact ⟨sl, (hs.2 b (Nat.ne_of_lt (Nat.lt_of_lt_of_le (Heap.lt_size e) (I.ok.cab x c hfn hc)))).trans e1⟩
    · obtain ⟨o', e1⟩ := I.base.there b o e hx
      exact ⟨o', (hs.2 b (Nat.ne_of_lt (Nat.lt_of_lt_of_le (Heap.lt_size e) (I.ok.cab x c hfn hc)))).trans e1⟩
    · by_cases hj : j = i
      · subst hj
        rw [hi] at e1; cases e1
        rw [List.getElem?_set_self hiσ] at e2
        cases e2
        exact ⟨u, r, .inr ⟨.inl hk, c, hc, hc'⟩⟩
      · rw [List.getElem?_set_ne (Ne.symm hj)] at e2
        obtain ⟨u', r', q⟩ := hl j y v' e1 e2 e3
        refine ⟨u', r', ?_⟩
        rcases q with q | ⟨k, c', e, z'⟩
        · exact .inl q
        · refine .inr ⟨k, c', e, z'.sameBut hs ?_⟩
          rintro rfl
          exact hj (nodup_ix hN e1 (I.ok.inj _ _ _ e hc ▸ hi))
    · by_cases hcc : c' = c
      · subst hcc; exact ⟨_, hc'⟩
      · obtain ⟨w2, z2⟩ := I.cell y c' e
        exact ⟨w2, z2.sameBut hs hcc⟩
    · obtain ⟨e, n, ne, nf, d⟩ := I.pin p hp
      refine ⟨(hs.2 p.1 ?_).trans e, n, ne, nf, d⟩
      intro q
      rw [q, hoc] at e
      have q' : oc = p.2 := Option.some.inj e
      exact d w' (by rw [← q']; exact hocd)
theorem store_ok {M : Model} {A : Around} {E : Value → Shared → Prop} {i : Nat} {x : Str} {v : V} {u : Value} {Q : Unit → Shared → Prop} (I : Inv X pins σ H s) (hN : X.N.Nodup) (hi : X.N[i]? = some x) (hx : Loc X.env.scope x) (r : RelV v u)
    (h : ∀ s', Inv X pins (σ.set i (some v)) H s' → Q () s') (hf : X.fn x = true ∨ X.env.scope.names.lookup x = some .local := by first | exact .inl rfl | exact .inr rfl | assumption) : wpAny M A (storeName X.env x u) Q E s :=
  store_ok2 I hN hi hx r (fun s' I' _ => h s' I') hf
theorem Inv.call' {s' : Shared} {ch : List Addr} (I : Inv X pins σ H s) (ho : s'.os = s.os) (u : Un (frs X.stack) ch H H' s.heap s'.heap) (hok : HOk X.prog X.w H' s'.heap) (hg : AllBare s'.gens)
    (hch : ∀ b ∈ ch, (b ∈ X.ex ∨ X.s₀.heap.objs.size ≤ b) ∧ b ≠ X.env.locals ∧ (∀ x c, X.env.cells.lookup x = some c → c ≠ b) ∧ ∀ p ∈ X.pn ++ pins, p.1 ≠ b) : Inv X pins σ H' s' := by
  obtain ⟨h', g', d', t', o'⟩ := s'
  have e : o' = s.os := ho
  subst e
  exact I.call (g' := g') (t' := t') (d' := d') u hok hg hch
end
abbrev XK := Value → Option Addr → Hp → Prop
abbrev St := List (Option V)
abbrev VK := V → Hp → Prop
abbrev TE := St → Hp → VK → Prop
abbrev TT := St → Hp → (Bool → Hp → Prop) → Prop
abbrev TA := St → Hp → (List V → Hp → Prop) → Prop
structure Ends where
  nx : St → Hp → Prop
  rt : VK
  bk : St → Hp → Prop := fun _ _ => False
  ct : St → Hp → Prop := fun _ _ => False
abbrev TS := Ends → St → Hp → Prop
def EP (X : Cx) (pins : List (Addr × Obj)) (σ : St) (Q : VK) (u : Value) (s' : Shared) : Prop := ∃ v H', Inv X pins σ H' s' ∧ RelV v u ∧ Q v H'
def TP (X : Cx) (pins : List (Addr × Obj)) (σ : St) (Q : Bool → Hp → Prop) (b : Bool) (s' : Shared) : Prop := ∃ H', Inv X pins σ H' s' ∧ Q b H'
def AP (X : Cx) (pins : List (Addr × Obj)) (σ : St) (Q : List V → Hp → Prop) (us : List Value) (s' : Shared) : Prop := ∃ vs H', Inv X pins σ H' s' ∧ Vals vs us ∧ Q vs H'
def SP (X : Cx) (pins : List (Addr × Obj)) (D : Ends) (f : Flow) (s' : Shared) : Prop :=
  match f with
  | .next => ∃ σ' H', Inv X pins σ' H' s' ∧ D.nx σ' H'
  | .brk => ∃ σ' H', Inv X pins σ' H' s' ∧ D.bk σ' H'
  | .cont => ∃ σ' H', Inv X pins σ' H' s' ∧ D.ct σ' H'
  | .ret u => ∃ v σ' H', Inv X pins σ' H' s' ∧ RelV v u ∧ D.rt v H'
def PE (X : Cx) (e : Expr) (t : TE) : Prop :=
  ∀ (pins : List (Addr × Obj)) (s : Shared) (σ : St) (H : Hp) (Q : VK), Inv X pins σ H s → t σ H Q → wpAny (model X.prog X.w) X.A (eval e X.env) (EP X pins σ Q) X.xe s
def PT (X : Cx) (e : Expr) (t : TT) : Prop :=
  ∀ (pins : List (Addr × Obj)) (s : Shared) (σ : St) (H : Hp) (Q : Bool → Hp → Prop), Inv X pins σ H s → t σ H Q → wpAny (model X.prog X.w) X.A (isTrue e X.env (eval e X.env)) (TP X pins σ Q) X.xe s
def PW (X : Cx) (e : Expr) (t : TT) : Prop :=
  ∀ (whole : Sem Value) (pins : List (Addr × Obj)) (s : Shared) (σ : St) (H : Hp) (Q : Bool → Hp → Prop), Inv X pins σ H s → t σ H Q → wpAny (model X.prog X.w) X.A (isTrue e X.env whole) (TP X pins σ Q) X.xe s
theorem PW.pt {X : Cx} {e : Expr} {t : TT} (h : PW X e t) : PT X e t := h _
def PA (X : Cx) (es : List Expr) (t : TA) : Prop :=
  ∀ (pos : Pos) (pins : List (Addr × Obj)) (s : Shared) (σ : St) (H : Hp) (Q : List V → Hp → Prop), Inv X pins σ H s → t σ H Q → wpAny (model X.prog X.w) X.A (spliced (backTo pos (starEach es X.env))) (AP X pins σ Q) X.xe s
def PS (X : Cx) (st : Stmt) (t : TS) : Prop :=
  ∀ (pins : List (Addr × Obj)) (s : Shared) (σ : St) (H : Hp) (D : Ends), Inv X pins σ H s → t D σ H → wpAny (model X.prog X.w) X.A (exec st X.env) (SP X pins D) X.xe s
def PSs (X : Cx) (st : List Stmt) (t : TS) : Prop :=
  ∀ (pins : List (Addr × Obj)) (s : Shared) (σ : St) (H : Hp) (D : Ends), Inv X pins σ H s → t D σ H → wpAny (model X.prog X.w) X.A (execs st X.env) (SP X pins D) X.xe s
theorem thn {α : Type} {t : Sem α} {Q Q' : α → Shared → Prop} {M : Model} {A : Around} {E : Value → Shared → Prop} {s : Shared} (h : wpAny M A t Q E s) (hQ : ∀ a s, Q a s → Q' a s) : wpAny M A t Q' E s := wpAny_mono h hQ fun _ _ x => x
end L2
namespace L2
open PySem PySem.Spec PyProof.Rows
section
variable {X : Cx}
def tVar (i : Nat) : TE := fun σ H Q => ∃ v, σ[i]? = some (some v) ∧ Q v H
def tC (v : V) : TE := fun _ H Q => Q v H
theorem pe_var {i : Nat} {x : Str} {pos : Pos} (hN : X.N[i]? = some x) (hv : Vis X.env.scope x) (hd : (x == ("__debug__" : Str)) = false := by decide) (hcd : (x == ("__classdict__" : Str)) = false := by decide) : PE X (.Name x pos) (tVar i) := by
  intro pins s σ H Q I h
  obtain ⟨v, e, h⟩ := h
  obtain ⟨m, hn, hl⟩ := I.loc
  obtain ⟨u, r, l⟩ := hl i x v hN e hv
  have fin : EP X pins σ Q u s := ⟨v, H, I, r, h⟩
  rcases l with ⟨hk, hm⟩ | ⟨hk, c, hc, hcell⟩
  · exact wpAny_Name (wpAny_loadName_local I.ok.kind hk hn hm fin) hd
  · rcases hk with hk | hk
    · exact wpAny_Name (wpAny_loadName_cell I.ok.kind hk hc hcell fin) hd
    · exact wpAny_Name (wpAny_loadName_free I.ok.kind hk hc hcell fin hcd) hd
theorem pe_int {i j pos} : PE X (.Constant (.int i) j pos) (tC (.int i)) := fun _ _ _ H _ I h => wpAny_Constant_int ⟨.int i, H, I.tok _, ⟨_, rfl⟩, h⟩
theorem pe_bl {b j pos} : PE X (.Constant (.bool b) j pos) (tC (.bl b)) := fun _ _ _ H _ I h => Constant_bool ⟨.bl b, H, I, rfl, h⟩
theorem pe_non {j pos} : PE X (.Constant .none j pos) (tC .non) := fun _ _ _ H _ I h => Constant_none ⟨.non, H, I, rfl, h⟩
theorem pe_str {x j pos} : PE X (.Constant (.str x) j pos) (tC (.str x)) := fun _ _ _ H _ I h => Calls.Constant_str ⟨.str x, H, I.tok _, ⟨_, rfl⟩, h⟩
def Gl (X : Cx) (x : Str) : Prop := X.env.kindOf x = some .globalImplicit
theorem ld_glob {E : Value → Shared → Prop} {pins : List (Addr × Obj)} {s : Shared} {σ : St} {H : Hp} {x : Str} {u : Value} {pos : Pos} {Q : Value → Shared → Prop} (I : Inv X pins σ H s) (hg : Gl X x) (hm : X.mg x = some u) (h : Q u s)
    (hd : (x == ("__debug__" : Str)) = false := by decide) : wpAny (model X.prog X.w) X.A (eval (.Name x pos) X.env) Q E s :=
  Calls.Name_function_global I.ok.kind hg (Calls.loadGlobal_global (by rw [I.ok.glob]; exact I.mod.glob.keeps I.bk) hm h) hd
theorem ld_blt {E : Value → Shared → Prop} {pins : List (Addr × Obj)} {s : Shared} {σ : St} {H : Hp} {x : Str} {u : Value} {pos : Pos} {Q : Value → Shared → Prop} (I : Inv X pins σ H s) (hg : Gl X x) (hm : X.mg x = none) (hv : bootBuiltins x = some u) (h : Q u s)
    (hn : x ≠ "__name__" := by decide) (hd : (x == ("__debug__" : Str)) = false := by decide) : wpAny (model X.prog X.w) X.A (eval (.Name x pos) X.env) Q E s := by
  obtain ⟨mb, h1, h2⟩ := I.mod.blt
  exact Calls.Name_function_global I.ok.kind hg (Calls.loadGlobal_builtin (by rw [I.ok.glob]; exact I.mod.glob.keeps I.bk) hm (by rw [I.ok.blt]; exact h1.keeps I.bk) ((h2 x hn).trans hv) h) hd
theorem pe_glob {x : Str} {v : V} {u : Value} {pos : Pos} (hg : Gl X x) (hm : X.mg x = some u) (r : RelV v u) (hd : (x == ("__debug__" : Str)) = false := by decide) : PE X (.Name x pos) (tC v) :=
  fun _ _ _ H _ I h => ld_glob I hg hm ⟨v, H, I, r, h⟩ hd
theorem pe_bltn {x : Str} {v : V} {u : Value} {pos : Pos} (hg : Gl X x) (hm : X.mg x = none) (hv : bootBuiltins x = some u) (r : RelV v u) (hn : x ≠ "__name__" := by decide) (hd : (x == ("__debug__" : Str)) = false := by decide) : PE X (.Name x pos) (tC v) :=
  fun _ _ _ H _ I h => ld_blt I hg hm hv ⟨v, H, I, r, h⟩ hn hd
variable {a b : Expr} {ta tb : TE} {pos : Pos}
def tB (t : TE) : TT := fun σ H Q => t σ H fun x H1 => ∃ c, x = .bl c ∧ Q c H1
theorem pt_val {e : Expr} {t : TE} (h : PE X e t) (he : ∀ whole, isTrue e X.env whole = (do let v ← whole; standAt e.pos; holding [v] (truthy v)) := by intro _; rfl) : PT X e (tB t) := by
  intro pins s σ H Q I hw
  refine isTrue_plain (thn (h pins s σ H _ I hw) fun v s1 ⟨x, H1, I1, r1, q1⟩ => ?_) (he _)
  obtain ⟨d, rfl, q⟩ := q1
  cases r1
  exact wpAny_truthy_bool ⟨H1, I1, q⟩
variable {tA tB' : TT} {rest : List Expr}
def tAnd (t u : TT) : TT := fun σ H Q => t σ H fun c H1 => if c = true then u σ H1 Q else Q false H1
def tOr (t u : TT) : TT := fun σ H Q => t σ H fun c H1 => if c = true then Q true H1 else u σ H1 Q
def tNot (t : TT) : TT := fun σ H Q => t σ H fun c H1 => Q (!c) H1
theorem pw_and1 (ha : PT X a tA) : PW X (.BoolOp .And [a] pos) tA := by
  intro wh pins s σ H Q I h
  refine isTrue_and (thn (ha pins s σ H Q I h) fun c s1 e => ?_)
  cases c with
  | true => exact isTrue_and_nil e
  | false => exact e
theorem pw_or1 (ha : PT X a tA) : PW X (.BoolOp .Or [a] pos) tA := by
  intro wh pins s σ H Q I h
  refine isTrue_or (thn (ha pins s σ H Q I h) fun c s1 e => ?_)
  cases c with
  | false => exact isTrue_or_nil e
  | true => exact e
theorem pw_and (ha : PT X a tA) (hb : PW X (.BoolOp .And (b :: rest) pos) tB') : PW X (.BoolOp .And (a :: b :: rest) pos) (tAnd tA tB') := by
  intro wh pins s σ H Q I h
  refine isTrue_and (thn (ha pins s σ H _ I h) fun c s1 ⟨H1, I1, q1⟩ => ?_)
  cases c with
  | true => exact hb wh pins s1 σ H1 Q I1 q1
  | false => exact ⟨H1, I1, q1⟩
theorem pw_or (ha : PT X a tA) (hb : PW X (.BoolOp .Or (b :: rest) pos) tB') : PW X (.BoolOp .Or (a :: b :: rest) pos) (tOr tA tB') := by
  intro wh pins s σ H Q I h
  refine isTrue_or (thn (ha pins s σ H _ I h) fun c s1 ⟨H1, I1, q1⟩ => ?_)
  cases c with
  | true => exact ⟨H1, I1, q1⟩
  | false => exact hb wh pins s1 σ H1 Q I1 q1
theorem pt_not (ha : PT X a tA) : PT X (.UnaryOp .Not a pos) (tNot tA) := by
  intro pins s σ H Q I h
  exact isTrue_not (ha pins s σ H (fun c H1 => Q (!c) H1) I h)
def tAndV (ta tb : TE) : TE := fun σ H Q => ta σ H fun x H1 => ∃ c, x = .bl c ∧ if c = true then tb σ H1 Q else Q (.bl false) H1
def tNotV (ta : TE) : TE := fun σ H Q => ta σ H fun x H1 => ∃ c, x = .bl c ∧ Q (.bl (!c)) H1
theorem pe_one {op} {t : TE} (h : PE X a t) : PE X (.BoolOp op [a] pos) t := fun pins s σ H Q I hw => BoolOp_one (h pins s σ H Q I hw)
theorem pe_and (ha : PE X a ta) (hb : PE X (.BoolOp .And (b :: rest) pos) tb) : PE X (.BoolOp .And (a :: b :: rest) pos) (tAndV ta tb) := by
  intro pins s σ H Q I h
  refine BoolOp_and (thn (ha pins s σ H _ I h) fun v s1 ⟨x, H1, I1, r1, q1⟩ => ?_)
  obtain ⟨c, rfl, q1⟩ := q1
  cases r1
  refine wpAny_truthy_bool ?_
  cases c with
  | true => exact hb pins s1 σ H1 Q I1 q1
  | false => exact ⟨.bl false, H1, I1, rfl, q1⟩
theorem pe_not (ha : PE X a ta) : PE X (.UnaryOp .Not a pos) (tNotV ta) := by
  intro pins s σ H Q I h
  refine UnaryOp_ (thn (ha pins s σ H _ I h) fun v s1 ⟨x, H1, I1, r1, q1⟩ => ?_)
  obtain ⟨c, rfl, q1⟩ := q1
  cases r1
  exact not_of (wpAny_truthy_bool ⟨.bl (!c), H1, I1, rfl, q1⟩)
def tIf (t : TT) (ta tb : TE) : TE := fun σ H Q => t σ H fun c H1 => if c = true then ta σ H1 Q else tb σ H1 Q
theorem pe_ifExp {c : Expr} (hc : PT X c tA) (ha : PE X a ta) (hb : PE X b tb) : PE X (.IfExp c a b pos) (tIf tA ta tb) := by
  intro pins s σ H Q I h
  refine wpAny_IfExp (thn (hc pins s σ H _ I h) fun d s1 ⟨H1, I1, q1⟩ => ?_)
  cases d with
  | true => exact ha pins s1 σ H1 Q I1 q1
  | false => exact hb pins s1 σ H1 Q I1 q1
end
end L2
namespace L2
open PySem PySem.Spec PyProof.Rows
def SqL (K : PySem.W.Frag) (H : Hp) (a : Addr) (xs : List V) : Prop :=
  Rd H a (.lst xs) ∨
    ∃ (o : Obj) (its : Array Value) (n : Nat), K.lookup a = some o ∧ o.cls = .type "list" ∧ o.dict = none ∧ o.data = .seq its n ∧ its.size ≤ sizeLine ∧ Vals xs its.toList
def SqT (K : PySem.W.Frag) (H : Hp) (a : Addr) (xs : List V) : Prop :=
  Rd H a (.tup xs) ∨
    ∃ (o : Obj) (its : Array Value) (n : Nat), K.lookup a = some o ∧ o.cls = .type "tuple" ∧ o.data = .seq its n ∧ its.size ≤ sizeLine ∧ Vals xs its.toList
def absV : Value → Option V
  | .none => some .non
  | .bool b => some (.bl b)
  | .int i _ => some (.int i)
  | .str x _ => some (.str x)
  | .bytes b _ => some (.byt b)
  | .float b _ => some (.flt b)
  | .ref a => some (.ref a)
  | .type n => some (.ty n)
  | _ => none
theorem RelV.abs {x : V} {u : Value} (r : RelV x u) : absV u = some x := by
  cases x with
  | non => cases r; rfl
  | bl _ => cases r; rfl
  | int _ => obtain ⟨t, rfl⟩ := r; rfl
  | str _ => obtain ⟨t, rfl⟩ := r; rfl
  | byt _ => obtain ⟨t, rfl⟩ := r; rfl
  | flt _ => obtain ⟨t, rfl⟩ := r; rfl
  | ref _ => cases r; rfl
  | ty _ => cases r; rfl
theorem RelV.inj {x y : V} {u : Value} (r : RelV x u) (q : RelV y u) : x = y := Option.some.inj (r.abs.symm.trans q.abs)
theorem Vals.inj : ∀ {xs ys : List V} {us : List Value}, Vals xs us → Vals ys us → xs = ys
  | _, _, _, .nil, .nil => rfl
  | _, _, _, .cons r t, .cons r' t' => by rw [r.inj r', Vals.inj t t']
section
variable {X : Cx} {pins : List (Addr × Obj)} {σ : St} {H : Hp} {s : Shared} {a : Addr} {xs ys : List V}
theorem SqL.of {K : PySem.W.Frag} (h : H a = some (.lst xs)) : SqL K H a xs := .inl (.inl h)
theorem SqT.of {K : PySem.W.Frag} (h : H a = some (.tup xs)) : SqT K H a xs := .inl (.inl h)
theorem Inv.list (I : Inv X pins σ H s) (h : SqL X.K H a xs) : ∃ its : List Value, Vals xs its ∧ PlainL s.heap a its.toArray ∧ xs.length ≤ sizeLine := by
  rcases h with h | ⟨o, its, n, hk, hc, hd, hs, hz, r⟩
  · obtain ⟨z, its, n, r, e⟩ := h.ok I.hok
    exact ⟨its, r, ⟨_, n, e, rfl, rfl, rfl⟩, z⟩
  · refine ⟨its.toList, r, ⟨o, n, I.kIn a o hk, hc, hd, by simpa using hs⟩, ?_⟩
    have e := r.length
    simp only [Array.length_toList] at e
    omega
theorem Inv.tuple (I : Inv X pins σ H s) (h : SqT X.K H a xs) : ∃ its : List Value, Vals xs its ∧ IsTup s.heap a its.toArray ∧ xs.length ≤ sizeLine := by
  rcases h with h | ⟨o, its, n, hk, hc, hs, hz, r⟩
  · obtain ⟨z, its, r, p⟩ := h.ok I.hok
    exact ⟨its, r, p, z⟩
  · refine ⟨its.toList, r, ⟨o, I.kIn a o hk, hc, n, by simpa using hs⟩, ?_⟩
    have e := r.length
    simp only [Array.length_toList] at e
    omega
theorem Inv.list_inj (I : Inv X pins σ H s) (h : SqL X.K H a xs) (h' : SqL X.K H a ys) : xs = ys := by
  obtain ⟨its, r, ⟨o, n, e, _, _, d⟩, _⟩ := I.list h
  obtain ⟨its', r', ⟨o', n', e', _, _, d'⟩, _⟩ := I.list h'
  rw [e] at e'; cases e'
  rw [d] at d'
  injection d' with d1 _
  have : its = its' := by simpa using congrArg Array.toList d1
  subst this
  exact r.inj r'
theorem Inv.tuple_inj (I : Inv X pins σ H s) (h : SqT X.K H a xs) (h' : SqT X.K H a ys) : xs = ys := by
  obtain ⟨its, r, ⟨o, e, _, n, d⟩, _⟩ := I.tuple h
  obtain ⟨its', r', ⟨o', e', _, n', d'⟩, _⟩ := I.tuple h'
  rw [e] at e'; cases e'
  rw [d] at d'
  injection d' with d1 _
  have : its = its' := by simpa using congrArg Array.toList d1
  subst this
  exact r.inj r'
end
abbrev Cx.wish (X : Cx) (E : Value → Shared → Prop) : Cx := { X with xe := E }
abbrev Cx.nox (X : Cx) : Cx := X.wish fun _ _ => False
theorem Cx.Ok.wish {X : Cx} (ok : X.Ok) (E : Value → Shared → Prop) : (X.wish E).Ok :=
  ⟨ok.mod, ok.kind, ok.glob, ok.blt, ok.above, ok.inj, ok.has, ok.cab, ok.hd, ok.frames, ok.stk, ok.exf, ok.bs, ok.bsz, ok.noex, ok.exfs, ok.funs, ok.frf⟩
theorem Cx.Ok.unwish {X : Cx} {E : Value → Shared → Prop} (ok : (X.wish E).Ok) : X.Ok :=
  ⟨ok.mod, ok.kind, ok.glob, ok.blt, ok.above, ok.inj, ok.has, ok.cab, ok.hd, ok.frames, ok.stk, ok.exf, ok.bs, ok.bsz, ok.noex, ok.exfs, ok.funs, ok.frf⟩
section
variable {X : Cx} {pins : List (Addr × Obj)} {σ : St} {H : Hp} {s : Shared} {E : Value → Shared → Prop}
theorem Inv.wish (I : Inv X pins σ H s) (E : Value → Shared → Prop) : Inv (X.wish E) pins σ H s := ⟨I.ok.wish E, I.os, I.bare, I.base, I.loc, I.cell, I.free, I.freeC, I.pin, I.hok, I.len⟩
theorem Inv.unwish (I : Inv (X.wish E) pins σ H s) : Inv X pins σ H s := ⟨I.ok.unwish, I.os, I.bare, I.base, I.loc, I.cell, I.free, I.freeC, I.pin, I.hok, I.len⟩
theorem SP.unwish {D : Ends} {f : Flow} {s' : Shared} (h : SP (X.wish E) pins D f s') : SP X pins D f s' := by
  cases f with
  | next => obtain ⟨σ', H', I, q⟩ := h; exact ⟨σ', H', I.unwish, q⟩
  | brk => obtain ⟨σ', H', I, q⟩ := h; exact ⟨σ', H', I.unwish, q⟩
  | cont => obtain ⟨σ', H', I, q⟩ := h; exact ⟨σ', H', I.unwish, q⟩
  | ret u => obtain ⟨v, σ', H', I, r, q⟩ := h; exact ⟨v, σ', H', I.unwish, r, q⟩
theorem PSs.nox {st : List Stmt} {t : TS} (h : PSs X.nox st t) : PSs X st t := fun pins s σ H D I hw =>
  wpAny_mono (h pins s σ H D (I.wish _) hw) (fun _ _ q => q.unwish) fun _ _ z => False.elim z
end
section
variable {X : Cx} {st : Stmt} {rest : List Stmt} {t u : TS} {e : Expr} {te : TE} {pos : Pos}
def tNext : TS := fun D σ H => D.nx σ H
def tSeq (t u : TS) : TS := fun D σ H => t { D with nx := u D } σ H
theorem pss_nil : PSs X [] tNext := fun _ _ σ H _ I h => wpAny_execs_nil ⟨σ, H, I, h⟩
theorem pss_cons (h1 : PS X st t) (h2 : PSs X rest u) : PSs X (st :: rest) (tSeq t u) := by
  intro pins s σ H D I h
  refine wpAny_execs_cons (thn (h1 pins s σ H { D with nx := u D } I h) fun f s1 q => ?_)
  cases f with
  | next =>
    obtain ⟨σ', H', I', q⟩ := q
    exact h2 pins s1 σ' H' D I' q
  | ret v => exact q
  | brk => exact q
  | cont => exact q
theorem pss_one (h1 : PS X st t) : PSs X [st] t := by
  intro pins s σ H D I h
  refine wpAny_execs_cons (thn (h1 pins s σ H D I h) fun f s1 q => ?_)
  cases f with
  | next => exact wpAny_execs_nil q
  | ret v => exact q
  | brk => exact q
  | cont => exact q
theorem Inv.quiet {pins : List (Addr × Obj)} {σ : St} {H : Hp} {s : Shared} (I : Inv X pins σ H s) : interactive X.env = false := by simp [interactive, I.ok.kind]
def tDrop (te : TE) : TS := fun D σ H => te σ H fun _ H1 => D.nx σ H1
theorem ps_expr (he : PE X e te) (hs : swapsWith e none pos.line X.env = pure false := by rfl) : PS X (.Expr e pos) (tDrop te) := by
  intro pins s σ H D I h
  exact wpAny_Expr_any (thn (he pins s σ H _ I h) fun v s1 ⟨x, H1, I1, r1, q1⟩ => ⟨σ, H1, I1, q1⟩) I.quiet hs
def tRet (te : TE) : TS := fun D σ H => te σ H D.rt
theorem ps_ret (he : PE X e te) : PS X (.Return (some e) pos) (tRet te) := by
  intro pins s σ H D I h
  exact wpAny_Return_some (thn (he pins s σ H _ I h) fun v s1 ⟨x, H1, I1, r1, q1⟩ => ⟨x, σ, H1, I1, r1, q1⟩)
def tIfS (c : TT) (t u : TS) : TS := fun D σ H => c σ H fun b H1 => if b = true then t D σ H1 else u D σ H1
theorem ps_if {c : Expr} {a b : List Stmt} {tc : TT} (hc : PT X c tc) (ha : PSs X a t) (hb : PSs X b u) : PS X (.If c a b pos) (tIfS tc t u) := by
  intro pins s σ H D I h
  refine wpAny_If (thn (hc pins s σ H _ I h) fun d s1 ⟨H1, I1, q1⟩ => ?_)
  cases d with
  | true => exact ha pins s1 σ H1 D I1 q1
  | false => exact hb pins s1 σ H1 D I1 q1
def tNever : TS := fun _ _ _ => False
theorem ps_never : PS X st tNever := fun _ _ _ _ _ _ h => h.elim
end
abbrev TG := V → St → Hp → (St → Hp → Prop) → Prop
abbrev TGs := List V → St → Hp → (St → Hp → Prop) → Prop
def PG (X : Cx) (target : Expr) (t : TG) : Prop :=
  ∀ (pins : List (Addr × Obj)) (s : Shared) (σ : St) (H : Hp) (v : V) (u : Value) (Q : St → Hp → Prop), Inv X pins σ H s → RelV v u → t v σ H Q →
    wpAny (model X.prog X.w) X.A (assign target X.env u) (fun _ s' => ∃ σ' H', Inv X pins σ' H' s' ∧ Q σ' H') X.xe s
def PGs (X : Cx) (ts : List Expr) (t : TGs) : Prop :=
  ∀ (pins : List (Addr × Obj)) (s : Shared) (σ : St) (H : Hp) (vs : List V) (us : List Value) (Q : St → Hp → Prop), Inv X pins σ H s → Vals vs us → t vs σ H Q →
    wpAny (model X.prog X.w) X.A (assignInOrder ((assignEach ts X.env).map (·.2)) us) (fun _ s' => ∃ σ' H', Inv X pins σ' H' s' ∧ Q σ' H') X.xe s
section
variable {X : Cx} {pos : Pos}
def gName (i : Nat) : TG := fun v σ H Q => Q (σ.set i (some v)) H
theorem pg_name {i : Nat} {x : Str} (hN : X.N.Nodup) (hi : X.N[i]? = some x) (hx : Loc X.env.scope x) (hf : X.fn x = true ∨ X.env.scope.names.lookup x = some .local := by first | exact .inl rfl | exact .inr rfl | assumption) : PG X (.Name x pos) (gName i) := by
  intro pins s σ H v u Q I r h
  exact wpAny_assign_Name (store_ok I hN hi hx r (fun s' I' => ⟨_, H, I', h⟩) hf)
def gNil : TGs := fun vs σ H Q => vs = [] ∧ Q σ H
def gCons (t : TG) (u : TGs) : TGs := fun vs σ H Q => ∃ v r, vs = v :: r ∧ t v σ H fun σ' H' => u r σ' H' Q
theorem pgs_nil : PGs X [] gNil := by
  intro pins s σ H vs us Q I r h
  obtain ⟨e, h⟩ := h
  subst e
  cases r
  exact assignInOrder_nil ⟨σ, H, I, h⟩
theorem pgs_cons {e : Expr} {es : List Expr} {t : TG} {u : TGs} (h1 : PG X e t) (h2 : PGs X es u)
    (hs : (assignEach (e :: es) X.env).map (·.2) = assign e X.env :: (assignEach es X.env).map (·.2) := by rfl) : PGs X (e :: es) (gCons t u) := by
  intro pins s σ H vs us Q I r h
  obtain ⟨v, vr, e1, h⟩ := h
  subst e1
  cases r with
  | cons r rr =>
    rw [hs]
    refine assignInOrder_cons (thn (h1 pins s σ H _ _ _ I r h) fun _ s1 ⟨σ1, H1, I1, q1⟩ => ?_)
    exact h2 pins s1 σ1 H1 _ _ Q I1 rr q1
def gTup (K : PySem.W.Frag) (n : Nat) (t : TGs) : TG := fun v σ H Q => ∃ a xs, v = .ref a ∧ SqT K H a xs ∧ xs.length = n ∧ t xs σ H Q
theorem pg_tup {es : List Expr} {k : Nat} {t : TGs} {n : Nat} (hc : X.calm = true) (h : PGs X es t)
    (hn : (assignEach es X.env).length = n := by rfl) (hst : (assignEach es X.env).findIdx? (·.1) = none := by rfl) : PG X (.Tuple es k pos) (gTup X.K n t) := by
  intro pins s σ H v u Q I r hw
  obtain ⟨a, xs, e1, hq, hl, hw⟩ := hw
  subst e1
  cases r
  obtain ⟨its, rv, ht, hz⟩ := I.tuple hq
  refine assign_Tuple_tuple (I.ok.hd hc) ht (by simp [hn, ← hl, rv.length]) hst fun h' hx => ?_
  have I1 : Inv X pins σ H { s with heap := h' } := I.kept (t' := s.toks) fun b o e => hx b o (Nat.ne_of_lt (Heap.lt_size e)) e
  exact h pins _ σ H xs _ Q I1 (by simpa using rv) hw
def tAsg (te : TE) (g : TG) : TS := fun D σ H => te σ H fun x H1 => g x σ H1 D.nx
theorem ps_set {i : Nat} {x : Str} {e : Expr} {te : TE} {pos' : Pos} (hN : X.N.Nodup) (hi : X.N[i]? = some x) (hx : Loc X.env.scope x) (he : PE X e te) (hs : swapsWith e (some (.Name x pos')) pos.line X.env = pure false := by rfl) (hf : X.fn x = true ∨ X.env.scope.names.lookup x = some .local := by first | exact .inl rfl | exact .inr rfl | assumption) :
    PS X (.Assign [.Name x pos'] e pos) (tAsg te (gName i)) := by
  intro pins s σ H D I h
  refine wpAny_Assign_Name (thn (he pins s σ H _ I h) fun v s1 ⟨y, H1, I1, r1, q1⟩ => ?_) hs
  exact store_ok I1 hN hi hx r1 (fun s2 I2 => ⟨_, H1, I2, q1⟩) hf
end
section
variable {X : Cx} {pos : Pos}
end
structure It where
  go : Nat → Hp → Prop
  yld : Nat → Hp → V → Hp → Prop
  stop : Nat → Hp → Prop
def FpOk (X : Cx) (pins : List (Addr × Obj)) (H : Hp) (b : Addr) : Prop :=
  H b = none ∧ b ≠ X.env.locals ∧ b ∉ X.fs ∧ (b ∈ X.ex ∨ X.s₀.heap.objs.size ≤ b) ∧ (∀ x c, X.env.cells.lookup x = some c → c ≠ b) ∧ ∀ p ∈ X.pn ++ pins, p.1 ≠ b
theorem Inv.fpOk {X : Cx} {pins : List (Addr × Obj)} {σ : St} {H H' : Hp} {s : Shared} {b : Addr} (I : Inv X pins σ H s) (hb : s.heap.objs.size ≤ b) (hn : H' b = none) : FpOk X pins H' b := by
  refine ⟨hn, Nat.ne_of_gt (Nat.lt_of_lt_of_le I.lt hb), I.nofs hb, .inr (Nat.le_trans I.sz hb), fun x c e z => ?_, fun p hp z => ?_⟩
  · obtain ⟨v, q⟩ := I.cell x c e
    exact absurd (Nat.lt_of_lt_of_le q.lt (by rw [z]; exact hb)) (Nat.lt_irrefl _)
  · exact absurd (Nat.lt_of_lt_of_le (Heap.lt_size (I.pin p hp).1) (by rw [z]; exact hb)) (Nat.lt_irrefl _)
structure Turn (P : Program) (w : World) (K : PySem.W.Frag) (tg : Expr) (J : It) (fp : List Addr) (it : Addr) (tn : Nat → Heap → Prop) : Prop where
  mem : it ∈ fp
  obj : ∀ i h, tn i h → ∀ b ∈ fp, ∃ o, h.get? b = some o ∧ ∀ v, o.data ≠ .cell v
  keep : ∀ i h h', tn i h → (∀ b ∈ fp, ∀ o, h.get? b = some o → h'.get? b = some o) → tn i h'
  item : ∀ (X : Cx), X.prog = P → X.w = w → X.K = K → X.calm = true → ∀ (i : Nat) (pins : List (Addr × Obj)) (s : Shared) (σ : St) (H : Hp) (E : Value → Shared → Prop), Inv X pins σ H s → (∀ b ∈ fp, FpOk X pins H b) → tn i s.heap → J.go i H →
    wpAny (model P w) X.A (pyNext (.ref it)) (fun r s1 => ∃ u, r = some u ∧
      wpAny (model P w) X.A (letOwnedTupleGo tg (.ref it) u) (fun _ s2 => ∃ x H', Inv X pins σ H' s2 ∧ RelV x u ∧ J.yld i H x H' ∧ tn (i + 1) s2.heap ∧ ∀ b ∈ fp, H' b = none) E s1) E s
  done : ∀ (X : Cx), X.prog = P → X.w = w → X.K = K → X.calm = true → ∀ (i : Nat) (pins : List (Addr × Obj)) (s : Shared) (σ : St) (H : Hp) (E : Value → Shared → Prop), Inv X pins σ H s → (∀ b ∈ fp, FpOk X pins H b) → tn i s.heap → J.stop i H →
    wpAny (model P w) X.A (pyNext (.ref it)) (fun r s1 => r = none ∧ Inv X pins σ H s1) E s
  self : ∀ (A : Around) (i : Nat) (s : Shared) (Q : Value → Shared → Prop) (E : Value → Shared → Prop), tn i s.heap → Q (.ref it) s → wpAny (model P w) A (pyIter (.ref it)) Q E s
abbrev TI := St → Hp → (It → Hp → Prop) → Prop
def PIE (X : Cx) (pins : List (Addr × Obj)) (σ : St) (tg : Expr) (R : It → Hp → Prop) (itv : Value) (s2 : Shared) : Prop :=
  ∃ (it : Addr) (fp : List Addr) (tn : Nat → Heap → Prop) (J : It) (H' : Hp), itv = .ref it ∧ Inv X pins σ H' s2 ∧ Turn X.prog X.w X.K tg J fp it tn ∧ tn 0 s2.heap ∧ (∀ b ∈ fp, FpOk X pins H' b) ∧ R J H'
def PI (X : Cx) (tg iter : Expr) (wi : TI) : Prop :=
  ∀ (pins : List (Addr × Obj)) (s : Shared) (σ : St) (H : Hp) (R : It → Hp → Prop), Inv X pins σ H s → wi σ H R →
    wpAny (model X.prog X.w) X.A (eval iter X.env) (fun v s1 => wpAny (model X.prog X.w) X.A (pyIter v) (PIE X pins σ tg R) X.xe s1) X.xe s
theorem go_of {M : Model} {A : Around} {E : Value → Shared → Prop} {s : Shared} {tg : Expr} {it : Addr} {u : Value} {o : Obj} {n : String} {vs : Array Value} {Q : Unit → Shared → Prop} (ho : s.heap.get? it = some o) (hc : o.cls = .type n) (hd : o.data = .fields vs)
    (hn : ["enumerate", "zip", "dict_itemiterator", "dict_reverseitemiterator", "odict_iterator", "itertools.zip_longest", "itertools.pairwise"].contains n = false) (hQ : Q () s) : wpAny M A (letOwnedTupleGo tg (.ref it) u) Q E s := by
  unfold letOwnedTupleGo
  cases tg <;> first
    | exact wpAny_pure hQ
    | (cases u <;> first
        | exact wpAny_pure hQ
        | (refine wpAny_bind (wpAny_load ho ?_)
           rw [hc, hd]
           show wpAny M A (if (["enumerate", "zip", "dict_itemiterator", "dict_reverseitemiterator", "odict_iterator", "itertools.zip_longest", "itertools.pairwise"].contains n && vs[0]? == some (rawInt _)) = true then _ else _) Q E s
           rw [if_neg (by intro h; rw [hn, Bool.false_and] at h; cases h)]
           exact wpAny_pure hQ))
def Itr (lo : Int) (n : Nat) : It := ⟨fun i _ => i < n, fun i H x H' => H' = H ∧ x = .int (lo + i), fun i _ => n ≤ i⟩
theorem turn_range {P : Program} {w : World} {K : PySem.W.Frag} {tg : Expr} (it : Addr) (lo : Int) (n : Nat) : Turn P w K tg (Itr lo n) [it] it (fun i h => IsRangeIter h it (lo + (i : Nat) * 1) ((n : Int) - (i : Nat)) 1) where
  mem := by simp
  obj := fun i h st b hb => by
    have e : b = it := by simpa using hb
    subst e
    exact ⟨_, st, fun v z => by
      have z' : Data.fields _ = Data.cell v := z
      cases z'⟩
  keep := fun i h h' st k => k it (by simp) _ st
  item := by
    intro X hP hw hK hc i pins s σ H E I hf st hg
    subst hP hw hK
    obtain ⟨f0, f1, f2, f3, f4, f5⟩ := hf it (by simp)
    have W := Walks.range (prog := X.prog) (w := X.w) (I.ok.hd hc) it lo 1 n
    refine W.item i s _ _ hg st fun v h' tk hv st' kk => ?_
    obtain ⟨t, rfl⟩ := hv
    have I1 : Inv X pins σ H { s with heap := h', toks := tk } := I.turned (fun b o hb e => kk b o (by simpa using hb) e) f0 f1 f3 f4 f5
    refine ⟨_, rfl, go_of (s := { s with heap := h', toks := tk }) (n := "range_iterator") st' rfl rfl (by decide) ⟨.int (lo + i), H, I1, ⟨t, ?_⟩, ⟨rfl, rfl⟩, st', fun b hb => (hf b hb).1⟩⟩
    rw [Int.mul_one]
  done := by
    intro X hP hw hK hc i pins s σ H E I hf st hg
    subst hP hw hK
    obtain ⟨f0, f1, f2, f3, f4, f5⟩ := hf it (by simp)
    exact wpAny_pyNext_range_end (I.ok.hd hc) st (by have : n ≤ i := hg; omega) fun h' eb => ⟨rfl, I.turned (t' := s.toks) (fun b o hb e => eb b o hb e) f0 f1 f3 f4 f5⟩
  self := fun _ _ _ _ _ st h => wpAny_pyIter_rangeiter st h
end L2
namespace L2
open PySem PySem.Spec PyProof.Rows
section
variable {X : Cx} {tg : Expr}
theorem range_it {pins : List (Addr × Obj)} {σ : St} {H : Hp} {s : Shared} {R : It → Hp → Prop} {E : Value → Shared → Prop} {lo hi : Int} {t u v : Tok} {tk : Nat} (I : Inv X pins σ H s) (h1 : -(2 ^ 62) ≤ lo) (h2 : lo < 2 ^ 62) (h3 : -(2 ^ 62) ≤ hi) (h4 : hi < 2 ^ 62)
    (q : R (Itr lo (hi - lo).toNat) H) : wpAny (model X.prog X.w) X.A (pyIter (.ref s.heap.objs.size)) (PIE X pins σ tg R) E { s with heap := s.heap.push { cls := .type "range", data := .fields #[.int lo t, .int hi u, .int 1 v] }, toks := tk } := by
  refine wpAny_pyIter_range (IsRange.new ..) (small_one h1 h2 h3 h4) ?_
  have I1 : Inv X pins σ H { s with heap := s.heap.push { cls := .type "range", data := .fields #[.int lo t, .int hi u, .int 1 v] }, toks := tk } := I.kept fun b o e => Heap.get?_push_of_some _ e
  refine ⟨(s.heap.push { cls := .type "range", data := .fields #[.int lo t, .int hi u, .int 1 v] }).objs.size, [(s.heap.push { cls := .type "range", data := .fields #[.int lo t, .int hi u, .int 1 v] }).objs.size], _, _, H, rfl,
    I1.kept (t' := tk) fun b o e => Heap.get?_push_of_some _ e, turn_range _ lo (hi - lo).toNat, ?_, fun b hb => ?_, q⟩
  · have e1 : lo + ((0 : Nat) : Int) * 1 = lo := by simp
    have e2 : (((hi - lo).toNat : Nat) : Int) - ((0 : Nat) : Int) = Builtin.Range.rangeSize lo hi 1 := by rw [rangeSize_one]; split <;> omega
    show IsRangeIter _ _ (lo + ((0 : Nat) : Int) * 1) ((((hi - lo).toNat : Nat) : Int) - ((0 : Nat) : Int)) 1
    rw [e1, e2]
    exact Heap.get?_push_size _ rfl
  · have e : b = (s.heap.push { cls := .type "range", data := .fields #[.int lo t, .int hi u, .int 1 v] }).objs.size := by simpa using hb
    subst e
    exact I1.fpOk (Nat.le_refl _) (I1.hok.fresh (Nat.le_refl _))
def iRng1 (ta : TA) : TI := fun σ H R => ta σ H fun vs H1 => ∃ j : Int, vs = [.int j] ∧ -(2 ^ 62) ≤ j ∧ j < 2 ^ 62 ∧ R (Itr 0 j.toNat) H1
theorem pi_range1 {a : Expr} {ta : TA} {p pos : Pos} (hg : Gl X "range") (hm : X.mg "range" = none) (ha : PA X [a] ta) (hs : starEach [a] X.env = [(false, eval a X.env)] := by rfl) : PI X tg (.Call (.Name "range" p) [a] [] pos) (iRng1 ta) := by
  intro pins s σ H R I h
  refine Call_ (ld_blt I hg hm boot_range (PyProof.Rows.callWith_type1 (thn (ha pos pins s σ H _ I h) fun us s1 ⟨vs, H1, I1, r1, q1⟩ => ?_) hs rfl))
  obtain ⟨j, e, q1, q2, q⟩ := q1
  subst e
  cases r1 with
  | cons r rr =>
    cases rr
    obtain ⟨t, rfl⟩ := r
    exact call_range_1 (range_it I1 (by omega) (by omega) q1 q2 (by simpa using q))
def tFor (wi : TI) (g : TG) (tb : TS) : TS := fun D σ H => wi σ H fun J H1 => ∃ W : Nat → Nat → St → Hp → Prop, (∃ m, W 0 m σ H1) ∧ ∀ i m σ H, W i m σ H →
  (J.stop i H ∧ D.nx σ H) ∨ (J.go i H ∧ ∃ N : St → Hp → Prop, (∀ σ' H', N σ' H' → ∃ m', m' < m ∧ W (i + 1) m' σ' H') ∧ ∀ x H', J.yld i H x H' → g x σ H' fun σ2 H2 => tb { D with nx := N, ct := N, bk := D.nx } σ2 H2)
def pinsAt (fp : List Addr) (h : Heap) : List (Addr × Obj) := fp.filterMap fun b => (h.get? b).map fun o => (b, o)
theorem mem_pinsAt {fp : List Addr} {h : Heap} {b : Addr} {o : Obj} (hb : b ∈ fp) (e : h.get? b = some o) : (b, o) ∈ pinsAt fp h := List.mem_filterMap.mpr ⟨b, hb, by rw [e]; rfl⟩
theorem of_pinsAt {fp : List Addr} {h : Heap} {p : Addr × Obj} (hp : p ∈ pinsAt fp h) : p.1 ∈ fp ∧ h.get? p.1 = some p.2 := by
  obtain ⟨b, hb, e⟩ := List.mem_filterMap.mp hp
  cases q : h.get? b with
  | none => rw [q] at e; cases e
  | some o =>
    rw [q] at e
    have e' : (b, o) = p := Option.some.inj e
    subst e'
    exact ⟨hb, q⟩
theorem Inv.pinned {pins : List (Addr × Obj)} {σ : St} {H : Hp} {s : Shared} {fp : List Addr} (I : Inv X pins σ H s) (hf : ∀ b ∈ fp, FpOk X pins H b) (ho : ∀ b ∈ fp, ∃ o, s.heap.get? b = some o ∧ ∀ v, o.data ≠ .cell v) : Inv X (pins ++ pinsAt fp s.heap) σ H s :=
  I.pins_of fun p hp => (List.mem_append.mp hp).elim (fun z => I.pin p (List.mem_append_right _ z)) fun z => by
    obtain ⟨hb, e⟩ := of_pinsAt z
    obtain ⟨f0, f1, f2, _⟩ := hf p.1 hb
    obtain ⟨o, e', d⟩ := ho p.1 hb
    rw [e] at e'; cases e'
    exact ⟨e, f0, f1, f2, d⟩
theorem Inv.unpinned {pins pl : List (Addr × Obj)} {σ : St} {H : Hp} {s : Shared} (I : Inv X (pins ++ pl) σ H s) : Inv X pins σ H s := I.pins_of fun p hp => I.pin p (List.mem_append_right _ (List.mem_append_left _ hp))
theorem ps_for {iter : Expr} {body : List Stmt} {wi : TI} {g : TG} {tb : TS} {pos : Pos} (hp : PassesOwn (model X.prog X.w) X.A X.env X.xe) (hc : X.calm = true) (hi : PI X tg iter wi) (hg : PG X tg g) (hb : PSs X body tb)
    (hs : ∀ x, foldedSetIterable iter X.env x = pure x := by intro _; rfl) : PS X (.For tg iter body [] pos) (tFor wi g tb) := by
  intro pins s σ H D I h
  refine wpAny_For (thn (hi pins s σ H _ I h) fun v s1 h1 => thn h1 fun itv s2 h2 => ?_) hs
  obtain ⟨it, fp, tn, J, H2, e, I2, T, st2, f2, W, ⟨m0, w0⟩, turn⟩ := h2
  subst e
  have stat : ∀ {H' : Hp}, (∀ b ∈ fp, H' b = none) → ∀ b ∈ fp, FpOk X pins H' b := fun hn b hb => ⟨hn b hb, (f2 b hb).2⟩
  refine codeAny_forLoop_any (fun n s' => ∃ i σ' H', Inv X pins σ' H' s' ∧ tn i s'.heap ∧ (∀ b ∈ fp, H' b = none) ∧ W i n σ' H') ?_ m0 ⟨0, σ, H2, I2, st2, fun b hb => (f2 b hb).1, w0⟩
  rintro n s3 ⟨i, σ3, H3, I3, st3, fr3, w3⟩
  rcases turn i n σ3 H3 w3 with ⟨stop, qn⟩ | ⟨go, N, hN, step⟩
  · refine wpAny_passesOwn hp (thn (T.done X rfl rfl rfl hc i pins s3 σ3 H3 X.xe I3 (stat fr3) st3 stop) fun r s4 ⟨hr, I4⟩ => ?_)
    subst hr
    exact wpAny_execs_nil ⟨σ3, H3, I4, qn⟩
  · refine wpAny_passesOwn hp (thn (T.item X rfl rfl rfl hc i pins s3 σ3 H3 X.xe I3 (stat fr3) st3 go) fun r s4 ⟨u, hr, h4⟩ => ?_)
    subst hr
    refine wpAny_passesOwn hp (thn h4 fun _ s5 ⟨x, H5, I5, r5, y5, st5, fr5⟩ => ?_)
    have I5' := I5.pinned (stat fr5) (T.obj _ _ st5)
    refine wpAny_passesOwn hp (thn (hg _ s5 σ3 H5 x u _ I5' r5 (step x H5 y5)) fun _ s6 ⟨σ6, H6, I6, q6⟩ => ?_)
    refine wpAny_passesOwn hp (thn (hb _ s6 σ6 H6 _ I6 q6) fun f s7 q7 => ?_)
    have again : ∀ {σ7 : St} {H7 : Hp}, Inv X (pins ++ pinsAt fp s5.heap) σ7 H7 s7 → N σ7 H7 → ∃ m, m < n ∧ ∃ i σ' H', Inv X pins σ' H' s7 ∧ tn i s7.heap ∧ (∀ b ∈ fp, H' b = none) ∧ W i m σ' H' := fun {σ7 H7} I7 n7 => by
      obtain ⟨m', hm, w7⟩ := hN σ7 H7 n7
      refine ⟨m', hm, i + 1, σ7, H7, I7.unpinned, T.keep _ _ _ st5 fun b hb o e => (I7.pin (b, o) (List.mem_append_right _ (List.mem_append_right _ (mem_pinsAt hb e)))).1, fun b hb => ?_, w7⟩
      obtain ⟨o, e, d⟩ := T.obj _ _ st5 b hb
      exact (I7.pin (b, o) (List.mem_append_right _ (List.mem_append_right _ (mem_pinsAt hb e)))).2.1
    cases f with
    | next => obtain ⟨σ7, H7, I7, n7⟩ := q7; exact again I7 n7
    | cont => obtain ⟨σ7, H7, I7, n7⟩ := q7; exact again I7 n7
    | brk => obtain ⟨σ7, H7, I7, q7⟩ := q7; exact ⟨σ7, H7, I7.unpinned, q7⟩
    | ret v => obtain ⟨x7, σ7, H7, I7, r7, q7⟩ := q7; exact ⟨x7, σ7, H7, I7.unpinned, r7, q7⟩
end
theorem for_range {lo : Int} {n : Nat} {g : TG} {tb : TS} {D : Ends} {σ : St} {H : Hp} (Pv : Nat → St → Hp → Prop) (h0 : Pv 0 σ H)
    (hs : ∀ i σ H, i < n → Pv i σ H → g (.int (lo + i)) σ H fun σ2 H2 => tb { D with nx := Pv (i + 1), ct := Pv (i + 1), bk := D.nx } σ2 H2) (hd : ∀ σ H, Pv n σ H → D.nx σ H) :
    ∃ W : Nat → Nat → St → Hp → Prop, (∃ m, W 0 m σ H) ∧ ∀ i m σ H, W i m σ H →
      ((Itr lo n).stop i H ∧ D.nx σ H) ∨ ((Itr lo n).go i H ∧ ∃ N : St → Hp → Prop, (∀ σ' H', N σ' H' → ∃ m', m' < m ∧ W (i + 1) m' σ' H') ∧ ∀ x H', (Itr lo n).yld i H x H' → g x σ H' fun σ2 H2 => tb { D with nx := N, ct := N, bk := D.nx } σ2 H2) := by
  refine ⟨fun i m σ H => m = n - i ∧ i ≤ n ∧ Pv i σ H, ⟨n, by simp, Nat.zero_le _, h0⟩, ?_⟩
  rintro i m σ H ⟨rfl, hi, p⟩
  by_cases hlt : i < n
  · refine .inr ⟨hlt, Pv (i + 1), fun σ' H' p' => ⟨n - (i + 1), by omega, rfl, hlt, p'⟩, fun x H' y => ?_⟩
    obtain ⟨e, y⟩ := y
    subst e y
    exact hs i σ _ hlt p
  · have e : i = n := by omega
    subst e
    exact .inl ⟨Nat.le_refl _, hd σ H p⟩
end L2
namespace L2
open PySem PySem.Spec PyProof.Rows
abbrev R2 := V → V → Hp → VK → Prop
def OpR (X : Cx) (f : Value → Value → Sem Value) (r : R2) : Prop :=
  ∀ (pins : List (Addr × Obj)) (s : Shared) (σ : St) (H : Hp) (x y : V) (v u : Value) (Q : VK), Inv X pins σ H s → RelV x v → RelV y u → r x y H Q →
    wpAny (model X.prog X.w) X.A (f v u) (EP X pins σ Q) X.xe s
def UnR (X : Cx) (f : Value → Sem Value) (r : V → Hp → VK → Prop) : Prop :=
  ∀ (pins : List (Addr × Obj)) (s : Shared) (σ : St) (H : Hp) (x : V) (v : Value) (Q : VK), Inv X pins σ H s → RelV x v → r x H Q →
    wpAny (model X.prog X.w) X.A (f v) (EP X pins σ Q) X.xe s
def CallR (X : Cx) (f : Value) (r : List V → Hp → VK → Prop) : Prop :=
  ∀ (pins : List (Addr × Obj)) (s : Shared) (σ : St) (H : Hp) (xs : List V) (us : List Value) (Q : VK), Inv X pins σ H s → Vals xs us → r xs H Q →
    wpAny (model X.prog X.w) X.A (call f us) (EP X pins σ Q) X.xe s
def tOp (r : R2) (ta tb : TE) : TE := fun σ H Q => ta σ H fun x H1 => tb σ H1 fun y H2 => r x y H2 Q
def tUn (r : V → Hp → VK → Prop) (ta : TE) : TE := fun σ H Q => ta σ H fun x H1 => r x H1 Q
def rI (C : Int → Int → Prop) (g : Int → Int → V) : R2 := fun x y H Q => ∃ i j, x = .int i ∧ y = .int j ∧ C i j ∧ Q (g i j) H
def rI0 (g : Int → Int → V) : R2 := fun x y H Q => ∃ i j, x = .int i ∧ y = .int j ∧ Q (g i j) H
def rU (g : Int → V) : V → Hp → VK → Prop := fun x H Q => ∃ i, x = .int i ∧ Q (g i) H
section
variable {X : Cx} {a b c : Expr} {ta tb tc : TE} {pos : Pos}
theorem binT (ha : PE X a ta) (hb : PE X b tb) {pins : List (Addr × Obj)} {s : Shared} {σ : St} {H : Hp} {R : V → V → Hp → Prop} (I : Inv X pins σ H s)
    (h : ta σ H fun x H1 => tb σ H1 fun y H2 => R x y H2) {Q : Value → Shared → Prop} {f : Value → Value → Sem Value}
    (hf : ∀ v u s2 x y H2, Inv X pins σ H2 s2 → RelV x v → RelV y u → R x y H2 → wpAny (model X.prog X.w) X.A (f v u) Q X.xe s2) :
    wpAny (model X.prog X.w) X.A (eval a X.env) (fun v s₁ => wpAny (model X.prog X.w) X.A (eval b X.env) (fun u s₂ => wpAny (model X.prog X.w) X.A (f v u) Q X.xe s₂) X.xe s₁) X.xe s := by
  refine thn (ha pins s σ H _ I h) fun v s1 ⟨x, H1, I1, r1, q1⟩ => ?_
  refine thn (hb pins s1 σ H1 _ I1 q1) fun u s2 ⟨y, H2, I2, r2, q2⟩ => ?_
  exact hf v u s2 x y H2 I2 r1 r2 q2
theorem pe_op {op : Operator} {r : R2} (ho : OpR X (binaryOp op) r) (ha : PE X a ta) (hb : PE X b tb) : PE X (.BinOp a op b pos) (tOp r ta tb) := by
  intro pins s σ H Q I h
  exact wpAny_BinOp (binT ha hb I h fun v u s2 x y H2 I2 rx ry q => ho pins s2 σ H2 x y v u Q I2 rx ry q)
theorem pe_un {op : UnaryOp} {r : V → Hp → VK → Prop} (ho : UnR X (unaryOp op) r) (ha : PE X a ta) : PE X (.UnaryOp op a pos) (tUn r ta) := by
  intro pins s σ H Q I h
  exact UnaryOp_ (thn (ha pins s σ H _ I h) fun v s1 ⟨x, H1, I1, r1, q1⟩ => ho pins s1 σ H1 x v Q I1 r1 q1)
theorem opI {f : Value → Value → Sem Value} {C : Int → Int → Prop} {g : Int → Int → Int}
    (rule : ∀ (i j : Int) (t u : Tok) (s : Shared) (Q : Value → Shared → Prop) (E : Value → Shared → Prop), C i j → Q (.int (g i j) s.toks) { s with toks := s.toks + 1 } → wpAny (model X.prog X.w) X.A (f (.int i t) (.int j u)) Q E s) :
    OpR X f (rI C fun i j => .int (g i j)) := by
  intro pins s σ H x y v u Q I rx ry h
  obtain ⟨i, j, rfl, rfl, hc, q⟩ := h
  obtain ⟨t, rfl⟩ := rx
  obtain ⟨t', rfl⟩ := ry
  exact rule i j t t' s _ _ hc ⟨.int (g i j), H, I.tok _, ⟨_, rfl⟩, q⟩
theorem opI0 {f : Value → Value → Sem Value} {g : Int → Int → Int}
    (rule : ∀ (i j : Int) (t u : Tok) (s : Shared) (Q : Value → Shared → Prop) (E : Value → Shared → Prop), Q (.int (g i j) s.toks) { s with toks := s.toks + 1 } → wpAny (model X.prog X.w) X.A (f (.int i t) (.int j u)) Q E s) :
    OpR X f (rI0 fun i j => .int (g i j)) := by
  intro pins s σ H x y v u Q I rx ry h
  obtain ⟨i, j, rfl, rfl, q⟩ := h
  obtain ⟨t, rfl⟩ := rx
  obtain ⟨t', rfl⟩ := ry
  exact rule i j t t' s _ _ ⟨.int (g i j), H, I.tok _, ⟨_, rfl⟩, q⟩
theorem opB0 {f : Value → Value → Sem Value} {g : Int → Int → Bool}
    (rule : ∀ (i j : Int) (t u : Tok) (s : Shared) (Q : Value → Shared → Prop) (E : Value → Shared → Prop), Q (.bool (g i j)) s → wpAny (model X.prog X.w) X.A (f (.int i t) (.int j u)) Q E s) :
    OpR X f (rI0 fun i j => .bl (g i j)) := by
  intro pins s σ H x y v u Q I rx ry h
  obtain ⟨i, j, rfl, rfl, q⟩ := h
  obtain ⟨t, rfl⟩ := rx
  obtain ⟨t', rfl⟩ := ry
  exact rule i j t t' s _ _ ⟨.bl (g i j), H, I, rfl, q⟩
def CPow (i j : Int) : Prop := 0 ≤ j ∧ j ≤ 1000000 ∧ i.natAbs < 2 ^ 64
theorem op_add : OpR X (binaryOp .Add) (rI0 fun i j => .int (i + j)) := opI0 fun _ _ _ _ _ _ _ q => add_int q
theorem op_sub : OpR X (binaryOp .Sub) (rI0 fun i j => .int (i - j)) := opI0 fun _ _ _ _ _ _ _ q => sub_int q
theorem op_mod : OpR X (binaryOp .Mod) (rI (fun _ j => 0 < j) fun i j => .int (i % j)) := opI fun i j _ _ _ _ _ hc q => by
  have h1 : (0 : Int) < j := hc
  exact mod_int' (by omega) (by rw [Int.fmod_eq_emod_of_nonneg i (by omega)]; exact q)
theorem op_pow : OpR X (binaryOp .Pow) (rI CPow fun i j => .int (i ^ j.toNat)) := opI fun _ _ _ _ _ _ _ hc q => pow_int_small hc.1 hc.2.1 hc.2.2 q
theorem unI {f : Value → Sem Value} {g : Int → Int}
    (rule : ∀ (i : Int) (t : Tok) (s : Shared) (Q : Value → Shared → Prop) (E : Value → Shared → Prop), Q (.int (g i) s.toks) { s with toks := s.toks + 1 } → wpAny (model X.prog X.w) X.A (f (.int i t)) Q E s) :
    UnR X f (rU fun i => .int (g i)) := by
  intro pins s σ H x v Q I rx h
  obtain ⟨i, rfl, q⟩ := h
  obtain ⟨t, rfl⟩ := rx
  exact rule i t s _ _ ⟨.int (g i), H, I.tok _, ⟨_, rfl⟩, q⟩
theorem un_neg : UnR X (unaryOp .USub) (rU fun i => .int (-i)) := unI fun _ _ _ _ _ q => neg_int q
end
def scal : V → V → Bool
  | .non, .non => true | .non, .int _ => true | .int _, .non => true | .non, .bl _ => true | .bl _, .non => true | .non, .str _ => true | .str _, .non => true
  | .int _, .int _ => true | .bl _, .bl _ => true | .str _, .str _ => true | .byt _, .byt _ => true
  | .int _, .str _ => true | .str _, .int _ => true | .bl _, .str _ => true | .str _, .bl _ => true
  | _, _ => false
def rEq : R2 := fun x y H Q => scal x y = true ∧ Q (.bl (decide (x = y))) H
def rNe : R2 := fun x y H Q => scal x y = true ∧ Q (.bl (!decide (x = y))) H
theorem dec_int {i j : Int} : decide (V.int i = V.int j) = (i == j) := by
  rw [Bool.eq_iff_iff]
  simp
theorem dec_bl {i j : Bool} : decide (V.bl i = V.bl j) = (i == j) := by
  rw [Bool.eq_iff_iff]
  simp
theorem dec_str {i j : Str} : decide (V.str i = V.str j) = (i == j) := by
  rw [Bool.eq_iff_iff]
  simp
theorem dec_byt {i j : Array UInt8} : decide (V.byt i = V.byt j) = (i.toList == j.toList) := by
  rw [Bool.eq_iff_iff]
  cases i
  cases j
  simp
section
variable {X : Cx} {a b c : Expr} {ta tb tc : TE} {pos : Pos}
theorem fin_bl {pins : List (Addr × Obj)} {σ : St} {H : Hp} {s : Shared} {Q : VK} {k k' : Bool} (I : Inv X pins σ H s) (q : Q (.bl k) H) (e : k = k') : EP X pins σ Q (.bool k') s := by
  subst e
  exact ⟨.bl k, H, I, rfl, q⟩
theorem op_eq : OpR X (compareOp .Eq) rEq := by
  intro pins s σ H x y v u Q I rx ry h
  obtain ⟨hs, q⟩ := h
  cases x with
  | non =>
    cases rx
    cases y with
    | non => cases ry; exact PySem.EqNone.eq_none_none (fin_bl I q (by simp))
    | bl j => cases ry; exact PySem.EqNone.eq_none_bool (fin_bl I q (by simp))
    | int j => obtain ⟨t', rfl⟩ := ry; exact PySem.EqNone.eq_none_int (fin_bl I q (by simp))
    | str j => obtain ⟨t', rfl⟩ := ry; exact PySem.EqNone.eq_none_str (fin_bl I q (by simp))
    | _ => exact absurd (show false = true from hs) Bool.false_ne_true
  | bl i =>
    cases rx
    cases y with
    | non => cases ry; exact PySem.EqNone.eq_bool_none (fin_bl I q (by simp))
    | bl j => cases ry; exact eq_bool (fin_bl I q dec_bl)
    | str j => obtain ⟨t', rfl⟩ := ry; exact PySem.EqMixed.eq_bool_str (fin_bl I q (by simp))
    | _ => exact absurd (show false = true from hs) Bool.false_ne_true
  | int i =>
    obtain ⟨t, rfl⟩ := rx
    cases y with
    | non => cases ry; exact PySem.EqNone.eq_int_none (fin_bl I q (by simp))
    | int j => obtain ⟨t', rfl⟩ := ry; exact eq_int (fin_bl I q dec_int)
    | str j => obtain ⟨t', rfl⟩ := ry; exact PySem.EqMixed.eq_int_str (fin_bl I q (by simp))
    | _ => exact absurd (show false = true from hs) Bool.false_ne_true
  | str i =>
    obtain ⟨t, rfl⟩ := rx
    cases y with
    | non => cases ry; exact PySem.EqNone.eq_str_none (fin_bl I q (by simp))
    | bl j => cases ry; exact PySem.EqMixed.eq_str_bool (fin_bl I q (by simp))
    | int j => obtain ⟨t', rfl⟩ := ry; exact PySem.EqMixed.eq_str_int (fin_bl I q (by simp))
    | str j => obtain ⟨t', rfl⟩ := ry; exact eq_str (fin_bl I q dec_str)
    | _ => exact absurd (show false = true from hs) Bool.false_ne_true
  | byt i =>
    obtain ⟨t, rfl⟩ := rx
    cases y with
    | byt j => obtain ⟨t', rfl⟩ := ry; exact PySem.W.eq_bytes (fin_bl I q dec_byt)
    | _ => exact absurd (show false = true from hs) Bool.false_ne_true
  | _ => cases y <;> exact absurd (show false = true from hs) Bool.false_ne_true
theorem op_ne : OpR X (compareOp .NotEq) rNe := by
  intro pins s σ H x y v u Q I rx ry h
  obtain ⟨hs, q⟩ := h
  cases x with
  | non =>
    cases rx
    cases y with
    | non => cases ry; exact PySem.EqNone.ne_none_none (fin_bl I q (by simp))
    | bl j => cases ry; exact PySem.EqNone.ne_none_bool (fin_bl I q (by simp))
    | int j => obtain ⟨t', rfl⟩ := ry; exact PySem.EqNone.ne_none_int (fin_bl I q (by simp))
    | str j => obtain ⟨t', rfl⟩ := ry; exact PySem.EqNone.ne_none_str (fin_bl I q (by simp))
    | _ => exact absurd (show false = true from hs) Bool.false_ne_true
  | bl i =>
    cases rx
    cases y with
    | non => cases ry; exact PySem.EqNone.ne_bool_none (fin_bl I q (by simp))
    | bl j => cases ry; exact ne_bool (fin_bl I q (congrArg not dec_bl))
    | str j => obtain ⟨t', rfl⟩ := ry; exact PySem.EqMixed.ne_bool_str (fin_bl I q (by simp))
    | _ => exact absurd (show false = true from hs) Bool.false_ne_true
  | int i =>
    obtain ⟨t, rfl⟩ := rx
    cases y with
    | non => cases ry; exact PySem.EqNone.ne_int_none (fin_bl I q (by simp))
    | int j => obtain ⟨t', rfl⟩ := ry; exact ne_int (fin_bl I q (congrArg not dec_int))
    | str j => obtain ⟨t', rfl⟩ := ry; exact PySem.EqMixed.ne_int_str (fin_bl I q (by simp))
    | _ => exact absurd (show false = true from hs) Bool.false_ne_true
  | str i =>
    obtain ⟨t, rfl⟩ := rx
    cases y with
    | non => cases ry; exact PySem.EqNone.ne_str_none (fin_bl I q (by simp))
    | bl j => cases ry; exact PySem.EqMixed.ne_str_bool (fin_bl I q (by simp))
    | int j => obtain ⟨t', rfl⟩ := ry; exact PySem.EqMixed.ne_str_int (fin_bl I q (by simp))
    | str j => obtain ⟨t', rfl⟩ := ry; exact ne_str (fin_bl I q (congrArg not dec_str))
    | _ => exact absurd (show false = true from hs) Bool.false_ne_true
  | byt i =>
    obtain ⟨t, rfl⟩ := rx
    cases y with
    | byt j => obtain ⟨t', rfl⟩ := ry; exact PySem.W.ne_bytes (fin_bl I q (congrArg not dec_byt))
    | _ => exact absurd (show false = true from hs) Bool.false_ne_true
  | _ => cases y <;> exact absurd (show false = true from hs) Bool.false_ne_true
theorem op_lt : OpR X (compareOp .Lt) (rI0 fun i j => .bl (decide (i < j))) := opB0 fun _ _ _ _ _ _ _ q => lt_int q
theorem op_le : OpR X (compareOp .LtE) (rI0 fun i j => .bl (decide (i ≤ j))) := opB0 fun _ _ _ _ _ _ _ q => le_int q
theorem op_in_str : OpR X (compareOp .In) (fun x y H Q => ∃ i j, x = .str i ∧ y = .str j ∧ Q (.bl (!(Builtin.Str.occurrences j i 0 j.length 1).isEmpty)) H) := by
  intro pins s σ H x y v u Q I rx ry h
  obtain ⟨i, j, rfl, rfl, q⟩ := h
  obtain ⟨t, rfl⟩ := rx
  obtain ⟨t', rfl⟩ := ry
  exact in_str (fin_bl I q rfl)
theorem op_isN : OpR X (compareOp .Is) (fun x y H Q => y = .non ∧ Q (.bl (decide (x = .non))) H) := by
  intro pins s σ H x y v u Q I rx ry h
  obtain ⟨rfl, q⟩ := h
  cases ry
  refine is_none_gen (fin_bl I q ?_)
  cases x <;> first
    | (cases rx; rfl)
    | (obtain ⟨t, rfl⟩ := rx; rfl)
theorem nomark (b : Expr) {op : CmpOp} (h : op ≠ .In := by decide) (h2 : op ≠ .NotIn := by decide) : behindInMarks op b = false := by
  have e1 : (op == CmpOp.In) = false := by cases op <;> first | rfl | exact absurd rfl h
  have e2 : (op == CmpOp.NotIn) = false := by cases op <;> first | rfl | exact absurd rfl h2
  cases b <;> simp [behindInMarks, e1, e2]
theorem pe_cmpR {op : CmpOp} {r : R2} (ho : OpR X (compareOp op) r) (ha : PE X a ta) (hb : PE X b tb) (hm : behindInMarks op b = false) : PE X (.Compare a [op] [b] pos) (tOp r ta tb) := by
  intro pins s σ H Q I h
  exact wpAny_Compare1 (binT ha hb I h fun v u s2 x y H2 I2 rx ry q => ho pins s2 σ H2 x y v u Q I2 rx ry q) hm
def tTest (t : TE) : TT := fun σ H Q => t σ H fun x H' => ∃ k, x = .bl k ∧ Q k H'
theorem pt_cmpR {op : CmpOp} {r : R2} (ho : OpR X (compareOp op) r) (ha : PE X a ta) (hb : PE X b tb) (hm : behindInMarks op b = false) : PT X (.Compare a [op] [b] pos) (tTest (tOp r ta tb)) := by
  intro pins s σ H Q I h
  refine wpAny_isTrue_Compare1 (thn (ha pins s σ H _ I h) fun v s1 ⟨x, H1, I1, r1, q1⟩ => thn (hb pins s1 σ H1 _ I1 q1) fun u s2 ⟨y, H2, I2, r2, q2⟩ =>
    thn (ho pins s2 σ H2 x y v u _ I2 r1 r2 q2) fun c s3 ⟨z, H3, I3, r3, k, e, q3⟩ => ?_) hm
  subst e
  cases r3
  exact wpAny_truthy_bool ⟨H3, I3, q3⟩
def tChain (r r' : R2) (ta tb tc : TE) : TE := fun σ H Q => ta σ H fun x H1 => tb σ H1 fun y H2 => r x y H2 fun z H3 => ∃ k, z = .bl k ∧
  (if k = true then tc σ H3 fun w' H4 => r' y w' H4 Q else Q (.bl false) H3)
theorem pe_chain {op op' : CmpOp} {r r' : R2} (ho : OpR X (compareOp op) r) (ho' : OpR X (compareOp op') r') (ha : PE X a ta) (hb : PE X b tb) (hc : PE X c tc)
    (hm : lastMarks [op, op'] [b, c] = false := by with_unfolding_all rfl) : PE X (.Compare a [op, op'] [b, c] pos) (tChain r r' ta tb tc) := by
  intro pins s σ H Q I h
  refine Compare_chain (thn (ha pins s σ H _ I h) fun v s1 ⟨x, H1, I1, r1, q1⟩ => chain_link (thn (hb pins s1 σ H1 _ I1 q1) fun u s2 ⟨y, H2, I2, r2, q2⟩ =>
    thn (ho pins s2 σ H2 x y v u _ I2 r1 r2 q2) fun d s3 ⟨z, H3, I3, r3, k, e, q3⟩ => ?_)) hm
  subst e
  cases r3
  refine wpAny_truthy_bool ?_
  cases k with
  | false => exact ite_ff ⟨.bl false, H3, I3, rfl, q3⟩
  | true => exact ite_tt (chain_last (thn (hc pins s3 σ H3 _ I3 q3) fun w' s4 ⟨z', H4, I4, r4, q4⟩ => ho' pins s4 σ H4 y z' u w' Q I4 r2 r4 q4))
theorem pt_chain {op op' : CmpOp} {r r' : R2} (ho : OpR X (compareOp op) r) (ho' : OpR X (compareOp op') r') (ha : PE X a ta) (hb : PE X b tb) (hc : PE X c tc)
    (hm : lastMarks [op, op'] [b, c] = false := by with_unfolding_all rfl) : PT X (.Compare a [op, op'] [b, c] pos) (tTest (tChain r r' ta tb tc)) := by
  intro pins s σ H Q I h
  refine isTrue_chain (thn (ha pins s σ H _ I h) fun v s1 ⟨x, H1, I1, r1, q1⟩ => test_link (thn (hb pins s1 σ H1 _ I1 q1) fun u s2 ⟨y, H2, I2, r2, q2⟩ =>
    thn (ho pins s2 σ H2 x y v u _ I2 r1 r2 q2) fun d s3 ⟨z, H3, I3, r3, k, e, q3⟩ => ?_)) hm
  subst e
  cases r3
  refine wpAny_truthy_bool ?_
  cases k with
  | false =>
    obtain ⟨k', e', q'⟩ := q3
    cases e'
    exact ite_ff ⟨H3, I3, q'⟩
  | true =>
    refine ite_tt (test_last (thn (hc pins s3 σ H3 _ I3 q3) fun w' s4 ⟨z', H4, I4, r4, q4⟩ => thn (ho' pins s4 σ H4 y z' u w' _ I4 r2 r4 q4) fun d' s5 ⟨z2, H5, I5, r5, k2, e2, q5⟩ => ?_))
    subst e2
    cases r5
    exact wpAny_truthy_bool ⟨H5, I5, q5⟩
theorem line63 : (sizeLine : Nat) < 2 ^ 63 := by rw [sizeLine_eq]; decide
theorem op_add_str : OpR X (binaryOp .Add) (fun x y H Q => ∃ i j, x = .str i ∧ y = .str j ∧ i.length + j.length ≤ sizeLine ∧ Q (.str (i ++ j)) H) := by
  intro pins s σ H x y v u Q I rx ry h
  obtain ⟨i, j, rfl, rfl, hz, q⟩ := h
  obtain ⟨t, rfl⟩ := rx
  obtain ⟨t', rfl⟩ := ry
  exact add_str (fun t' tk => ⟨.str (i ++ j), H, I.tok _, ⟨_, rfl⟩, q⟩) hz
theorem vals1 {x : V} {us : List Value} (r : Vals [x] us) : ∃ u, us = [u] ∧ RelV x u := by
  cases r with
  | cons r1 r2 => cases r2; exact ⟨_, rfl, r1⟩
theorem vals2 {x y : V} {us : List Value} (r : Vals [x, y] us) : ∃ u w', us = [u, w'] ∧ RelV x u ∧ RelV y w' := by
  cases r with
  | cons r1 r2 =>
    cases r2 with
    | cons r3 r4 => cases r4; exact ⟨_, _, rfl, r1, r3⟩
theorem call_abs : CallR X (.builtin "abs") (fun xs H Q => ∃ i, xs = [.int i] ∧ Q (.int (if i < 0 then -i else i)) H) := by
  intro pins s σ H xs us Q I r h
  obtain ⟨i, rfl, q⟩ := h
  obtain ⟨u, rfl, t, rfl⟩ := vals1 r
  exact call_abs_int fun u tk => ⟨.int (if i < 0 then -i else i), H, I.tok _, ⟨_, rfl⟩, q⟩
theorem call_str_int : CallR X (.type "str") (fun xs H Q => ∃ i, xs = [.int i] ∧ i.natAbs.log2 < 1920 ∧ Q (.str (toString i)) H) := by
  intro pins s σ H xs us Q I r h
  obtain ⟨i, rfl, hz, q⟩ := h
  obtain ⟨u, rfl, t, rfl⟩ := vals1 r
  exact PySem.P.str_of_int hz ⟨.str _, H, I.tok _, ⟨_, rfl⟩, q⟩
end
end L2
namespace L2
open PySem PySem.Spec PyProof.Rows
structure ObjM (h : Heap) (x dx C : Addr) (mA : Str → Option Value) : Prop where
  obj : h.get? x = some (PySem.W.instObj C dx)
  ns : h.Ns1 dx mA
  ne : dx ≠ x
theorem lookIn_ns {h : Heap} {dx : Addr} {mA : Str → Option Value} (n : h.Ns1 dx mA) : ∃ od, h.get? dx = some od ∧ ∀ name, PySem.W.lookIn name od = some (mA name) := by
  obtain ⟨o, es, ep, ho, hd, hk, _, hm⟩ := n
  refine ⟨o, ho, fun name => ?_⟩
  have e := hm name
  unfold nsFind findBy at e
  rw [← Array.find?_toList] at e
  unfold PySem.W.lookIn
  rw [hd]
  dsimp only
  split
  · rename_i y q
    rw [q] at e
    exact congrArg some e
  · rename_i q
    rw [q] at e
    have a : es.toList.any (·.refKey) = false := by
      rw [List.any_eq_false]
      intro y hy
      obtain ⟨z, t, hkey⟩ := hk y (Array.mem_toList_iff.mp hy)
      simp [DictEntry.refKey, hkey]
    have a' : ¬ es.toList.any (·.refKey) = true := by rw [a]; exact Bool.false_ne_true
    rw [if_neg a']
    exact congrArg some e
theorem ObjM.look {h : Heap} {x dx C : Addr} {mA : Str → Option Value} (I : ObjM h x dx C mA) : ∃ od, PySem.W.InstAt h x (PySem.W.instObj C dx) C (some od) ∧ ∀ name, PySem.W.lookIn name od = some (mA name) :=
  let ⟨od, ho, hl⟩ := lookIn_ns I.ns
  ⟨od, ⟨I.obj, rfl, rfl, ho⟩, hl⟩
section
variable {prog : Program} {w : World} {A : Around} {E : Value → Shared → Prop} {s : Shared} {K : PySem.W.Frag} {x dx C f : Addr} {mA : Str → Option Value} {name : Str} {v : Value}
end
section
variable {P : Program} {w : World} {H H' : Hp} {h h' : Heap} {a C dx : Addr} {fs fs' : List (Str × V)}
theorem ins_get (hok : HOk P w H h) (e : H a = some (.ins C dx fs)) : ∃ mA, ObjM h a dx C mA ∧ (∀ f, RelO (fs.lookup f) (mA f)) ∧ PySem.Within mA (fs.map (·.1)) ∧ fs.length ≤ 1000 ∧ H dx = some (.own a) := by
  obtain ⟨d, z, ne, ob, mA, n, r, q⟩ := (show ObjOk P w H h a (.ins C dx fs) from hok a _ e)
  exact ⟨mA, ⟨ob, n, ne⟩, r, q, z, d⟩
end
structure Cls (K : PySem.W.Frag) (C : Addr) : Prop where
  pg : PySem.W.plainGet K C Str.empty = true
  hd : PySem.W.hasDictIn K C = true
  po : PySem.W.plainOver K C = true
  sa : PySem.W.findIn K (.ref C) "__setattr__" = some (some (.builtin "object.__setattr__"))
theorem Cls.get {K : PySem.W.Frag} {C : Addr} (c : Cls K C) (f : Str) : PySem.W.plainGet K C f = true := c.pg
section
variable {X : Cx} {pins : List (Addr × Obj)} {σ : St} {H : Hp} {s : Shared} {a C dx : Addr} {fs : List (Str × V)} {f : Str} {v : V} {A : Around} {E : Value → Shared → Prop}
end
section
variable {X : Cx} {o e value : Expr} {f : Str} {pos pos' tpos : Pos} {ta tv : TE}
end
section
variable {X : Cx} {pins : List (Addr × Obj)} {σ : St} {H : Hp} {s : Shared} {A : Around} {E : Value → Shared → Prop} {Q : Value → Shared → Prop} {c : Value} {b : Bool}
inductive TyOf (K : PySem.W.Frag) (H : Hp) : V → Value → Prop where
  | non : TyOf K H .non (.type "NoneType")
  | bl (x : Bool) : TyOf K H (.bl x) (.type "bool")
  | int (i : Int) : TyOf K H (.int i) (.type "int")
  | str (x : Str) : TyOf K H (.str x) (.type "str")
  | flt (x : UInt64) : TyOf K H (.flt x) (.type "float")
  | lst {a : Addr} {xs : List V} (e : H a = some (.lst xs)) : TyOf K H (.ref a) (.type "list")
  | frz {a : Addr} {o : Obj} {xs : List V} (e : H a = some (.frz o (.lst xs))) : TyOf K H (.ref a) (.type "list")
  | tup {a : Addr} {xs : List V} (e : H a = some (.tup xs)) : TyOf K H (.ref a) (.type "tuple")
  | dK {a : Addr} {kvs : List (Key × V)} (e : H a = some (.dK kvs)) : TyOf K H (.ref a) (.type "dict")
  | dT {a : Addr} {kvs : List (List Key × V)} (e : H a = some (.dT kvs)) : TyOf K H (.ref a) (.type "dict")
  | ins {a C dx : Addr} {fs : List (Str × V)} (e : H a = some (.ins C dx fs)) (cl : Cls K C) (ha : PySem.W.findIn K (.ref C) "__class__" = some (some (.builtin "object.__class__")))
      (hn : PySem.W.specialIn K (.builtin "object.__class__") "__get__" = some (some (.builtin "getset_descriptor.__get__"))) (htk : PySem.W.takesIn K (.builtin "object.__class__") = some true)
      (hm : PySem.W.mroIn K C (.type "object") = some true) : TyOf K H (.ref a) (.ref C)
theorem isinst_ok {x : V} {u t : Value} (I : Inv X pins σ H s) (rx : RelV x u) (ty : TyOf X.K H x t) (e : PySem.W.kitOne X.K t c = some b) (h : ∀ tk, Q (.bool b) { s with toks := tk }) :
    wpAny (model X.prog X.w) A (call (.builtin "isinstance") [u, c]) Q E s := by
  cases ty with
  | non => cases (show u = Value.none from rx); exact PySem.W.kia_one PySem.W.kitx_none I.kIn True.intro e (fun z => nomatch z) h
  | bl y => cases (show u = Value.bool y from rx); exact PySem.W.kia_one PySem.W.kitx_bool I.kIn True.intro e (fun z => nomatch z) h
  | int i => obtain ⟨t, q⟩ := (show ∃ t, u = Value.int i t from rx); cases q; exact PySem.W.kia_one PySem.W.kitx_int I.kIn True.intro e (fun z => nomatch z) h
  | str y => obtain ⟨t, q⟩ := (show ∃ t, u = Value.str y t from rx); cases q; exact PySem.W.kia_one PySem.W.kitx_str I.kIn True.intro e (fun z => nomatch z) h
  | flt y => obtain ⟨t, q⟩ := (show ∃ t, u = Value.float y t from rx); cases q; exact PySem.W.kia_one PySem.W.kitx_float I.kIn True.intro e (fun z => nomatch z) h
  | @lst a xs ea =>
    cases (show u = Value.ref a from rx)
    obtain ⟨_, _, n, _, h1⟩ := (show ObjOk X.prog X.w H s.heap a (.lst xs) from I.hok a _ ea)
    exact PySem.W.kia_one PySem.W.kitx_list I.kIn ⟨_, h1, rfl⟩ e (fun z => nomatch z) h
  | @frz a ob xs ea =>
    cases (show u = Value.ref a from rx)
    obtain ⟨_, _, _, n, _, h1⟩ := (show ObjOk X.prog X.w H s.heap a (.frz ob (.lst xs)) from I.hok a _ ea)
    exact PySem.W.kia_one PySem.W.kitx_list I.kIn ⟨_, h1, rfl⟩ e (fun z => nomatch z) h
  | @tup a xs ea =>
    cases (show u = Value.ref a from rx)
    obtain ⟨_, _, _, p⟩ := (show ObjOk X.prog X.w H s.heap a (.tup xs) from I.hok a _ ea)
    obtain ⟨o, h1, h2, _⟩ := p
    exact PySem.W.kia_one PySem.W.kitx_tuple I.kIn ⟨o, h1, h2⟩ e (fun z => nomatch z) h
  | @dK a kvs ea =>
    cases (show u = Value.ref a from rx)
    obtain ⟨_, _, vs, _, p⟩ := (show ObjOk X.prog X.w H s.heap a (.dK kvs) from I.hok a _ ea)
    obtain ⟨o, es, ep, h1, h2, _⟩ := p
    exact PySem.W.kia_one PySem.W.kitx_dict I.kIn ⟨o, h1, h2.1⟩ e (fun z => nomatch z) h
  | @dT a kvs ea =>
    cases (show u = Value.ref a from rx)
    obtain ⟨_, _, xs, _, o, es, ep, h1, h2, _⟩ := (show ObjOk X.prog X.w H s.heap a (.dT kvs) from I.hok a _ ea)
    exact PySem.W.kia_one PySem.W.kitx_dict I.kIn ⟨o, h1, h2.1⟩ e (fun z => nomatch z) h
  | @ins a C dx fs ea cl ha hn htk hm =>
    cases (show u = Value.ref a from rx)
    obtain ⟨mA, O, _⟩ := ins_get I.hok ea
    obtain ⟨od, J, _⟩ := O.look
    exact PySem.W.kia_one (PySem.W.kitx_own (cl.get _) cl.hd ha hn htk hm) I.kIn J e (fun z => nomatch z) h
end
end L2
namespace L2
open PySem PySem.Spec PyProof.Rows
structure Room (k : Nat) (A : Around) : Prop where
  hd : A.handled = none
  dp : A.depth + 3 * k + 5 < recursionLimit
  un : A.units + 16 * k + 200 < cLine
theorem Room.mono {j k : Nat} {A : Around} (r : Room k A) (h : j ≤ k) : Room j A := ⟨r.hd, by have := r.dp; omega, by have := r.un; omega⟩
theorem Room.deeper {k : Nat} {A : Around} (r : Room (k + 1) A) (env : Env) : Room k (A.deeper env) :=
  ⟨r.hd, by have := r.dp; show A.depth + 1 + 3 * k + 5 < _; omega, by have := r.un; show A.units + 3 + 16 * k + 200 < _; omega⟩
theorem Room.depth {k : Nat} {A : Around} (r : Room k A) : A.depth < recursionLimit := by have := r.dp; omega
theorem Room.units {k : Nat} {A : Around} (r : Room k A) : A.units + 64 < cLine := by have := r.un; omega
def tNil : TA := fun _ H Q => Q [] H
def tCons (ta : TE) (tr : TA) : TA := fun σ H Q => ta σ H fun x H1 => tr σ H1 fun xs H2 => Q (x :: xs) H2
section
variable {X : Cx} {e : Expr} {es : List Expr} {te : TE} {t : TA} {pos : Pos}
theorem pa_nil : PA X [] tNil := fun _ _ _ _ H Q I h => Calls.spliced_nil ⟨[], H, I, .nil, h⟩
theorem pa_cons (ha : PE X e te) (hr : PA X es t) (hs : starEach (e :: es) X.env = (false, eval e X.env) :: starEach es X.env := by rfl) : PA X (e :: es) (tCons te t) := by
  intro pos pins s σ H Q I h
  rw [hs]
  show wpAny _ _ (spliced ((false, eval e X.env) :: backTo pos (starEach es X.env))) _ _ s
  refine Calls.spliced_cons (thn (ha pins s σ H _ I h) fun u s1 ⟨x, H1, I1, r1, q1⟩ => ?_)
  exact thn (hr pos pins s1 σ H1 _ I1 q1) fun us s2 ⟨xs, H2, I2, r2, q2⟩ => ⟨x :: xs, H2, I2, .cons r1 r2, q2⟩
end
abbrev Sp := List V → Hp → VK → XK → Prop
abbrev CXT := List Env → Hp → Shared → XK → Value → Shared → Prop
structure Env0 (P : Program) (w : World) (K : PySem.W.Frag) (mg : Str → Option Value) (base : Heap) (A : Around) (outer : List Env) (s : Shared) (H : Hp) : Prop where
  frames : A.frames = some outer
  mod : Mod K mg base
  bs : ∀ b o, base.get? b = some o → s.heap.get? b = some o ∧ H b = none
  bsz : base.objs.size ≤ s.heap.objs.size
  funs : s.heap.FunFrames base outer
  frf : ∀ b ∈ frs outer, H b = none
  hok : HOk P w H s.heap
  bare : AllBare s.gens
def CE (outer : List Env) (P : Program) (w : World) (H : Hp) (s : Shared) (Q : VK) (u : Value) (s' : Shared) : Prop :=
  ∃ v H', s'.os = s.os ∧ AllBare s'.gens ∧ Un (frs outer) [] H H' s.heap s'.heap ∧ HOk P w H' s'.heap ∧ RelV v u ∧ Q v H'
def CR (CX : CXT) (outer : List Env) (P : Program) (w : World) (H : Hp) (s : Shared) (Q : VK) (E : XK) (r : Result) (s' : Shared) : Prop :=
  match r with
  | .ok (.ret u) => CE outer P w H s Q u s'
  | .ok _ => False
  | .error e => CX outer H s E e s'
structure FnOk (P : Program) (w : World) (K : PySem.W.Frag) (mg : Str → Option Value) (base : Heap) (CX : CXT) (k : Nat) (f : Addr) (fd : FuncData) (ps : List Str) (sp : Sp) : Prop where
  len : ∀ vs H Q E, sp vs H Q E → vs.length = ps.length
  run : ∀ (A : Around) (outer : List Env) (s : Shared) (H : Hp) (args : Args) (us : List Value) (vs : List V) (Q : VK) (E : XK), Room k A → Env0 P w K mg base A outer s H → BindsTo s fd args (ps.zip us) → Vals vs us → sp vs H Q E →
    codeAny (model P w) A (.call (.ref f) args) (CR CX outer P w H s Q E) s
section
variable {X : Cx} {pins : List (Addr × Obj)} {σ : St} {H : Hp} {s s' : Shared}
theorem Inv.env0 (I : Inv X pins σ H s) : Env0 X.prog X.w X.K X.mg X.base X.A X.stack s H :=
  ⟨I.ok.frames, I.ok.mod, I.bs, Nat.le_trans I.ok.bsz I.sz, I.stack, I.stkFree, I.hok, I.bare⟩
theorem Inv.after {Q : VK} {u : Value} (I : Inv X pins σ H s) (h : CE X.stack X.prog X.w H s Q u s') : EP X pins σ Q u s' := by
  obtain ⟨v, H', os, bare, un, hok, r, q⟩ := h
  obtain ⟨hh, g, d, t, os'⟩ := s'
  obtain rfl : os' = s.os := os
  exact ⟨v, H', I.call (h' := hh) (g' := g) (d' := d) (t' := t) (ch := []) un hok bare (fun b z => absurd z (by simp)), r, q⟩
end
def tCall (sp : Sp) (dvs : List V) (E : XK) (t : TA) : TE := fun σ H Q => t σ H fun vs H1 => sp (vs ++ dvs) H1 Q E
def Binds (K : PySem.W.Frag) (fd : FuncData) (ps : List Str) (ds : List Value) : Prop :=
  ∀ (s : Shared) (us : List Value), K.In s.heap → (us ++ ds).length = ps.length → BindsTo s fd ⟨us, []⟩ (ps.zip (us ++ ds))
theorem Binds.all {K : PySem.W.Frag} {fd : FuncData} {ps : List Str} (h : ∀ us : List Value, us.length = ps.length → bindArgs fd ⟨us, []⟩ = pure (ps.zip us)) : Binds K fd ps [] := fun s us _ hl => by
  rw [List.append_nil] at hl ⊢
  exact .of_eq (h us hl)
def Passes (CX : CXT) (X : Cx) (E : XK) : Prop := ∀ (pins : List (Addr × Obj)) (σ : St) (H : Hp) (s : Shared) (e : Value) (s' : Shared), Inv X pins σ H s → CX X.stack H s E e s' → X.xe e s'
section
variable {X : Cx} {CX : CXT} {k : Nat} {f C : Addr} {fd : FuncData} {ps : List Str} {sp : Sp} {dvs : List V} {ds : List Value} {E : XK} {x m : Str} {p pos apos : Pos} {e o : Expr} {es : List Expr} {ta : TE} {t : TA}
theorem run_fn {pins : List (Addr × Obj)} {σ : St} {H : Hp} {s : Shared} {Q : VK} {us : List Value} {vs : List V} (F : FnOk X.prog X.w X.K X.mg X.base CX k f fd ps sp) (hr : Room k X.A) (hb : Binds X.K fd ps ds) (hd : Vals dvs ds) (hx : Passes CX X E)
    (I : Inv X pins σ H s) (r : Vals vs us) (h : sp (vs ++ dvs) H Q E) : wpAny (model X.prog X.w) X.A (call (.ref f) us) (EP X pins σ Q) X.xe s := by
  have r2 : Vals (vs ++ dvs) (us ++ ds) := r.append hd
  have hl : (us ++ ds).length = ps.length := by rw [← r2.length]; exact F.len _ _ _ _ h
  refine wpAny_call (codeAny_mono (F.run X.A X.stack s H ⟨us, []⟩ (us ++ ds) (vs ++ dvs) Q E hr I.env0 (hb s us I.kIn hl) r2 h) fun r s' hq => ?_)
  cases r with
  | error e => exact hx pins σ H s e s' I hq
  | ok fl =>
    cases fl with
    | ret u => exact I.after hq
    | next => exact False.elim hq
    | brk => exact False.elim hq
    | cont => exact False.elim hq
theorem pe_call (F : FnOk X.prog X.w X.K X.mg X.base CX k f fd ps sp) (hr : Room k X.A) (hg : Gl X x) (hm : X.mg x = some (.ref f)) (hk : PySem.W.keepIn X.K (.ref f) = true) (hb : Binds X.K fd ps ds) (hd : Vals dvs ds) (hx : Passes CX X E)
    (ha : PA X (e :: es) t) (hdb : (x == ("__debug__" : Str)) = false := by decide) (he : starEach (e :: es) X.env = (false, eval e X.env) :: starEach es X.env := by rfl) (hpl : (backTo pos (starEach es X.env)).any (·.1) = false := by rfl) :
    PE X (.Call (.Name x p) (e :: es) [] pos) (tCall sp dvs E t) := by
  intro pins s σ H Q I h
  refine wpAny_Call_Name_kw (ld_glob I hg hm ?_ hdb)
  refine PySem.W.callWith_K (h₀ := X.base) I.ok.mod.kin hk (thn (ha pos pins s σ H _ I h) fun us s1 ⟨vs, H1, I1, r, q⟩ => ⟨I1.kIn, ?_⟩) he hpl
  exact run_fn F hr hb hd hx I1 r q
end
section
variable {X : Cx} {CX : CXT} {k : Nat} {f C : Addr} {fd : FuncData} {ps ks : List Str} {sp : Sp} {E : XK} {x m : Str} {p pos apos kpos : Pos} {e o : Expr} {es : List Expr} {kws : List Keyword} {te ta : TE} {t tk : TA} {nm : Option Str}
variable {g : List Value → List Value → List Value} {gV : List V → List V → List V}
end
structure FnScope (N P : List Str) (sc : Scope) : Prop where
  kind : sc.kind = .function
  co : sc.isCoroutine = false
  gen : sc.isGenerator = false
  nd : N.Nodup
  pre : N.take P.length = P
  par : ∀ x ∈ P, sc.names.lookup x = some .local ∨ sc.names.lookup x = some .cell
  nofree : ∀ y ∈ sc.names, y.2 ≠ .free
theorem bindL_out {kindOf : Str → Option NameKind} {x : Str} : ∀ {binds : List (Str × Value)} {m : Str → Option Value}, (∀ v, (x, v) ∉ binds) → bindL kindOf binds m x = m x
  | [], _, _ => rfl
  | (n, v) :: r, m, h => by
    unfold bindL
    rw [bindL_out fun w hw => h w (List.mem_cons_of_mem _ hw)]
    split
    · have : x ≠ n := by rintro rfl; exact h v List.mem_cons_self
      simp [this]
    · rfl
theorem bindC_out {kindOf : Str → Option NameKind} {x : Str} : ∀ {binds : List (Str × Value)} {m : Str → Option Value}, (∀ v, (x, v) ∉ binds) → bindC kindOf binds m x = m x
  | [], _, _ => rfl
  | (n, v) :: r, m, h => by
    unfold bindC
    rw [bindC_out fun w hw => h w (List.mem_cons_of_mem _ hw)]
    split
    · rfl
    · have : x ≠ n := by rintro rfl; exact h v List.mem_cons_self
      simp [this]
theorem bindL_get {kindOf : Str → Option NameKind} {x : Str} {v : Value} : ∀ {P : List Str} {vs : List Value} {i : Nat} {m : Str → Option Value}, P.Nodup → P[i]? = some x → vs[i]? = some v → kindOf x = some .local →
    bindL kindOf (P.zip vs) m x = some v
  | [], _, _, _, _, h, _, _ => by simp at h
  | _ :: _, [], _, _, _, _, h, _ => by simp at h
  | p :: P, w :: vs, 0, m, nd, h1, h2, hk => by
    simp at h1 h2; subst h1; subst h2
    show bindL kindOf ((p, w) :: P.zip vs) m p = _
    unfold bindL
    rw [bindL_out fun v hv => (List.nodup_cons.mp nd).1 (List.of_mem_zip hv).1, if_pos hk]
    simp
  | p :: P, w :: vs, i + 1, m, nd, h1, h2, hk => by
    show bindL kindOf ((p, w) :: P.zip vs) m x = _
    unfold bindL
    exact bindL_get (i := i) (List.nodup_cons.mp nd).2 (by simpa using h1) (by simpa using h2) hk
theorem bindC_get {kindOf : Str → Option NameKind} {x : Str} {v : Value} : ∀ {P : List Str} {vs : List Value} {i : Nat} {m : Str → Option Value}, P.Nodup → P[i]? = some x → vs[i]? = some v → kindOf x ≠ some .local →
    bindC kindOf (P.zip vs) m x = some v
  | [], _, _, _, _, h, _, _ => by simp at h
  | _ :: _, [], _, _, _, _, h, _ => by simp at h
  | p :: P, w :: vs, 0, m, nd, h1, h2, hk => by
    simp at h1 h2; subst h1; subst h2
    show bindC kindOf ((p, w) :: P.zip vs) m p = _
    unfold bindC
    rw [bindC_out fun v hv => (List.nodup_cons.mp nd).1 (List.of_mem_zip hv).1, if_neg hk]
    simp
  | p :: P, w :: vs, i + 1, m, nd, h1, h2, hk => by
    show bindC kindOf ((p, w) :: P.zip vs) m x = _
    unfold bindC
    exact bindC_get (i := i) (List.nodup_cons.mp nd).2 (by simpa using h1) (by simpa using h2) hk
def start (N : List Str) (vs : List V) : St := vs.map some ++ List.replicate (N.length - vs.length) none
def cxOf (CX : CXT) (P : Program) (w : World) (K : PySem.W.Frag) (mg : Str → Option Value) (base : Heap) (N : List Str) (qual : Str) (scope : Scope) (f : Addr) (cd : Value) (A : Around) (outer : List Env) (s : Shared) (H : Hp) (E : XK) : Cx where
  prog := P
  w := w
  K := K
  mg := mg
  base := base
  A := A.deeper (envOfC qual scope s.heap.objs.size f cd)
  N := N
  s₀ := s
  H₀ := H
  env := envOfC qual scope s.heap.objs.size f cd
  outer := outer
  stack := envOfC qual scope s.heap.objs.size f cd :: outer
  ex := []
  calm := true
  fn := fun _ => true
  pn := []
  xe := fun e s' => wpAny (model P w) (A.deeper (envOfC qual scope s.heap.objs.size f cd)) (leaving (envOfC qual scope s.heap.objs.size f cd) e) (fun _ s'' => CX outer H s E e s'') (fun e' s'' => CX outer H s E e' s'') s'
theorem cell_has {sc : Scope} {n : Nat} {x : Str} (h : sc.names.lookup x = some .cell) : ∃ c, (cellsFrom n sc.names []).lookup x = some c := by
  have q := PySem.W.cellsFrom_some sc.names n [] (.inl h)
  exact Option.isSome_iff_exists.mp q
theorem inv_start {CX : CXT} {P : Program} {w : World} {K : PySem.W.Frag} {mg : Str → Option Value} {base : Heap} {N ps : List Str} {qual : Str} {scope : Scope} {f : Addr} {cd : Value} {A : Around} {outer : List Env} {s s1 : Shared} {H : Hp} {E : XK} {us : List Value} {vs : List V}
    (S : FnScope N ps scope) (hd : A.handled = none) (e0 : Env0 P w K mg base A outer s H) (hl : vs.length = ps.length) (r : Vals vs us)
    (x : InCallC s s.heap.objs.size (bindL (envOfC qual scope s.heap.objs.size f cd).kindOf (ps.zip us) fun _ => none) (cellsFrom (s.heap.objs.size + 1) scope.names []) (bindC (envOfC qual scope s.heap.objs.size f cd).kindOf (ps.zip us) fun _ => none) s1) :
    Inv (cxOf CX P w K mg base N qual scope f cd A outer s H E) [] (start N vs) H s1 := by
  have hpl : ps.length ≤ N.length := by have := congrArg List.length S.pre; rw [List.length_take] at this; omega
  obtain ⟨h1, tk, rfl, hk⟩ := x.done
  have noA : ∀ b : Addr, b ∉ (cxOf CX P w K mg base N qual scope f cd A outer s H E).ex := fun b z => absurd (show b ∈ ([] : List Addr) from z) (by simp)
  refine ⟨⟨e0.mod, S.kind, rfl, rfl, Nat.le_refl _, fun y z c h1 h2 => ?_, fun y hy => ?_, fun y c _ h => ?_, fun _ => hd, Around.frames_deeper e0.frames, .inr ⟨rfl, rfl⟩, fun b z => absurd z (noA b), e0.bs, e0.bsz, fun b _ _ => noA b, fun b z => absurd z (noA b), e0.funs, e0.frf⟩,
    rfl, e0.bare, Un.kept hk, ⟨_, x.toInCall.ns, fun i y v h1 h2 h3 => ?_⟩, fun y c h => ⟨_, x.cell y c h⟩, e0.hok.fresh (Nat.le_refl _), fun y c h => ?_, fun p hp => absurd (show p ∈ ([] : List (Addr × Obj)) from hp) (by simp), e0.hok.kept hk, ?_⟩
  · exact name_of_addr x.apart (PySem.mem_of_lookup h1) (PySem.mem_of_lookup h2)
  · have hy : scope.names.lookup y = some .cell ∨ scope.names.lookup y = some .free := hy
    rcases hy with hy | hy
    · exact cell_has hy
    · exact absurd rfl (S.nofree _ (PySem.mem_of_lookup hy))
  · exact Nat.le_of_lt (x.above y c (PySem.mem_of_lookup h))
  · have hi : i < vs.length := by
      unfold start at h2
      by_cases hi : i < vs.length
      · exact hi
      · rw [List.getElem?_append_right (by simpa using hi)] at h2
        rw [List.getElem?_replicate] at h2
        split at h2 <;> cases h2
    have ha : vs[i]? = some v := by
      unfold start at h2
      rw [List.getElem?_append_left (by simpa using hi), List.getElem?_map] at h2
      cases e : vs[i]? with
      | none => rw [e] at h2; cases h2
      | some a => rw [e] at h2; cases h2; rfl
    obtain ⟨u, hu, rv⟩ := r.get ha
    have hp : ps[i]? = some y := by
      rw [← S.pre, List.getElem?_take_of_lt (by omega)]; exact h1
    have ndP : ps.Nodup := by rw [← S.pre]; exact S.nd.sublist (List.take_sublist _ _)
    refine ⟨u, rv, ?_⟩
    rcases S.par y (List.mem_of_getElem? hp) with k | k
    · exact .inl ⟨k, bindL_get ndP hp hu k⟩
    · obtain ⟨c, e⟩ := cell_has (n := s.heap.objs.size + 1) k
      refine .inr ⟨.inl k, c, e, ?_⟩
      have q := x.cell y c e
      rw [bindC_get ndP hp hu (by show scope.names.lookup y ≠ _; rw [k]; decide)] at q
      exact q
  · exact e0.hok.fresh (Nat.le_of_lt (x.above y c (PySem.mem_of_lookup h)))
  · unfold start
    show _ = N.length
    rw [List.length_append, List.length_map, List.length_replicate]
    omega
theorem fn_of {CX : CXT} {P : Program} {w : World} {K : PySem.W.Frag} {mg : Str → Option Value} {base : Heap} {k : Nat} {f : Addr} {name qual : Str} {params : Arguments} {body : List Stmt} {scope : Scope} {dV kV doc pm cdv ct oc : Value} {an od : Option Addr}
    {osl : Array (Option Value)} {N ps : List Str} {sp : Sp} (lk : K.lookup f = some ⟨oc, od, .func (PySem.W.fnOf name qual params body scope dV kV doc pm an cdv ct), osl⟩) (hcd : PySem.W.codeIn K cdv qual = true) (S : FnScope N ps scope)
    (len : ∀ vs H Q E, sp vs H Q E → vs.length = ps.length)
    (hbody : ∀ (A : Around) (outer : List Env) (s : Shared) (H : Hp) (vs : List V) (Q : VK) (E : XK), Room k (A.deeper (envOfC qual scope s.heap.objs.size f cdv)) → sp vs H Q E →
      ∃ t, PSs (cxOf CX P w K mg base N qual scope f cdv A outer s H E) body t ∧ t { nx := fun _ H' => Q .non H', rt := Q } (start N vs) H) :
    FnOk P w K mg base CX (k + 1) f (PySem.W.fnOf name qual params body scope dV kV doc pm an cdv ct) ps sp := by
  refine ⟨len, fun A outer s H args us vs Q E hr e0 hb r hsp => ?_⟩
  have hl := len _ _ _ _ hsp
  have KX : K.In s.heap := e0.mod.kin.keeps fun b o e => (e0.bs b o e).1
  have lim : s.heap.NoLimit := e0.mod.nolimit.keeps fun b o e => (e0.bs b o e).1
  have hkind : ∀ y ∈ ps.zip us, scope.names.lookup y.1 = some .local ∨ (scope.names.lookup y.1 = some .cell ∧ ((cellsFrom (s.heap.objs.size + 1) scope.names []).lookup y.1).isSome = true) := fun ⟨n, v⟩ hy => by
    rcases S.par n (List.of_mem_zip hy).1 with q | q
    · exact .inl q
    · exact .inr ⟨q, PySem.W.cellsFrom_some _ _ _ (.inl q)⟩
  refine codeAny_call_function hr.depth (KX _ _ lk) rfl S.co S.gen rfl (PySem.W.codeRec_of KX hcd) (hb _ _ _ _ ?_)
  refine wpAny_newFunctionEnv_cells S.kind hkind fun env he s1 x => ?_
  subst he
  refine ⟨lim.keeps x.toInCall.keep, codeAny_func ?_⟩
  obtain ⟨t, ht, hq⟩ := hbody A outer s H vs Q E (hr.deeper _) hsp
  have I : Inv (cxOf CX P w K mg base N qual scope f cdv A outer s H E) [] (start N vs) H s1 := inv_start S hr.hd e0 hl r x
  refine wpAny_mono (ht [] s1 (start N vs) H _ I hq) (fun fl s' hs => ?_) fun e s' hs => hs
  have fin : ∀ {σ' : St} {H' : Hp} {v : V} {u : Value}, Inv (cxOf CX P w K mg base N qual scope f cdv A outer s H E) [] σ' H' s' → RelV v u → Q v H' → CE outer P w H s Q u s' :=
    fun {σ' H' v u} J rv q => ⟨v, H', J.os, J.bare, J.base, J.hok, rv, q⟩
  cases fl with
  | ret u =>
    obtain ⟨v, σ', H', J, rv, q⟩ := hs
    exact fin J rv q
  | next =>
    obtain ⟨σ', H', J, q⟩ := hs
    exact fin (v := V.non) (u := Value.none) J rfl q
  | brk =>
    obtain ⟨_, _, _, q⟩ := hs
    exact False.elim q
  | cont =>
    obtain ⟨_, _, _, q⟩ := hs
    exact False.elim q
end L2
namespace L2
open PySem PySem.Spec PyProof.Rows
section
variable {X : Cx} {x : Str} {p pos : Pos} {e : Expr} {es : List Expr} {t : TA} {id T : String} {r : List V → Hp → VK → Prop}
def tCB (r : List V → Hp → VK → Prop) (t : TA) : TE := fun σ H Q => t σ H fun vs H1 => r vs H1 Q
theorem pe_callB (hc : CallR X (.builtin id) r) (hg : Gl X x) (hm : X.mg x = none) (hv : bootBuiltins x = some (.builtin id)) (ha : PA X (e :: es) t) (hn : x ≠ "__name__" := by decide) (hdb : (x == ("__debug__" : Str)) = false := by decide)
    (he : starEach (e :: es) X.env = (false, eval e X.env) :: starEach es X.env := by rfl) (hpl : (backTo pos (starEach es X.env)).any (·.1) = false := by rfl) : PE X (.Call (.Name x p) (e :: es) [] pos) (tCB r t) := by
  intro pins s σ H Q I h
  refine wpAny_Call_Name_kw (ld_blt I hg hm hv ?_ hn hdb)
  exact PyProof.Rows.callWith_builtin1 (thn (ha pos pins s σ H _ I h) fun us s1 ⟨vs, H1, I1, r1, q1⟩ => hc pins s1 σ H1 vs us Q I1 r1 q1) he hpl
theorem pe_callTy (hc : CallR X (.type T) r) (hg : Gl X x) (hm : X.mg x = none) (hv : bootBuiltins x = some (.type T)) (ha : PA X (e :: es) t) (hn : x ≠ "__name__" := by decide) (hdb : (x == ("__debug__" : Str)) = false := by decide)
    (he : starEach (e :: es) X.env = (false, eval e X.env) :: starEach es X.env := by rfl) (hpl : (backTo pos (starEach es X.env)).any (·.1) = false := by rfl) : PE X (.Call (.Name x p) (e :: es) [] pos) (tCB r t) := by
  intro pins s σ H Q I h
  refine wpAny_Call_Name_kw (ld_blt I hg hm hv ?_ hn hdb)
  exact PyProof.Rows.callWith_type1 (thn (ha pos pins s σ H _ I h) fun us s1 ⟨vs, H1, I1, r1, q1⟩ => hc pins s1 σ H1 vs us Q I1 r1 q1) he hpl
end
end L2
namespace HT
open PySem PyProof.Rows
section
open PySem.SeqAt
open PySem.AutoSeq1 (wpAny_loadPart')
open PySem.MeetsSeq PySem.MeetsSeq2 PySem.MeetsSeq3
end
section
variable {prog : Program} {w : World} {A : Around} {E : Value → Shared → Prop} {s : Shared}
def sIx (n d : Nat) : Option Int → Nat
  | none => d
  | some v => if v < 0 then (v + (n : Int)).toNat else min v.toNat n
theorem sIx_none (n d : Nat) : sIx n d none = d := rfl
theorem sIx_nat (n d k : Nat) : sIx n d (some (k : Int)) = min k n := by
  show (if (k : Int) < 0 then ((k : Int) + (n : Int)).toNat else min (k : Int).toNat n) = min k n
  rw [if_neg (by omega), Int.toNat_natCast]
theorem sIx_le (n d : Nat) (hd : d ≤ n) (o : Option Int) : sIx n d o ≤ n := by
  cases o with
  | none => exact hd
  | some v =>
    show (if v < 0 then (v + (n : Int)).toNat else min v.toNat n) ≤ n
    by_cases hv : v < 0
    · rw [if_pos hv]; omega
    · rw [if_neg hv]; exact Nat.min_le_right _ _
end
end HT
namespace L2
open PySem PySem.Spec PyProof.Rows
abbrev TO := St → Hp → (Option Int → Hp → Prop) → Prop
def PO (X : Cx) (e : Option Expr) (t : TO) : Prop :=
  ∀ (pins : List (Addr × Obj)) (s : Shared) (σ : St) (H : Hp) (Q : Option Int → Hp → Prop), Inv X pins σ H s → t σ H Q →
    wpAny (model X.prog X.w) X.A (evalPart e X.env) (fun u s' => ∃ o H', Inv X pins σ H' s' ∧ IsPart u o ∧ Q o H') X.xe s
def tNoPart : TO := fun _ H Q => Q none H
def tPart (t : TE) : TO := fun σ H Q => t σ H fun x H1 => ∃ i, x = .int i ∧ Q (some i) H1
section
variable {X : Cx} {e : Expr} {te : TE} {lo hi : Option Expr} {tl th : TO} {pos p2 : Pos}
theorem po_none : PO X none tNoPart := by
  intro pins s σ H Q I h
  rw [evalPart_none]
  exact wpAny_pure ⟨none, H, I, .none, h⟩
theorem po_some (h : PE X e te) : PO X (some e) (tPart te) := by
  intro pins s σ H Q I hw
  rw [evalPart_some]
  refine thn (h pins s σ H _ I hw) fun u s1 ⟨x, H1, I1, r1, q1⟩ => ?_
  obtain ⟨i, rfl, q⟩ := q1
  obtain ⟨t, rfl⟩ := r1
  exact ⟨some i, H1, I1, .int i t, q⟩
def SlR (X : Cx) (r : V → Option Int → Option Int → Hp → VK → Prop) : Prop :=
  ∀ (pins : List (Addr × Obj)) (s : Shared) (σ : St) (H : Hp) (x : V) (v vl vu : Value) (lo hi : Option Int) (sl : Addr) (Q : VK), Inv X pins σ H s → RelV x v → s.heap.IsSliceOf sl vl vu .none → IsPart vl lo → IsPart vu hi → r x lo hi H Q →
    ∃ T id, typeLookup (.type T) "__getitem__" = pure (some (.builtin id)) ∧ s.TypeIs v T ∧ wpAny (model X.prog X.w) X.A (getItem v (.ref sl)) (EP X pins σ Q) X.xe s
def tSl (r : V → Option Int → Option Int → Hp → VK → Prop) (te : TE) (tl th : TO) : TE := fun σ H Q => te σ H fun x H1 => tl σ H1 fun l H2 => th σ H2 fun u H3 => r x l u H3 Q
theorem pe_slice {r : V → Option Int → Option Int → Hp → VK → Prop} (hr : SlR X r) (he : PE X e te) (hl : PO X lo tl) (hu : PO X hi th) : PE X (.Subscript e (.Slice lo hi none p2) pos) (tSl r te tl th) := by
  intro pins s σ H Q I h
  refine Subscript_ (thn (he pins s σ H _ I h) fun v s1 ⟨x, H1, I1, r1, q1⟩ => ?_)
  refine wpAny_Slice (thn (hl pins s1 σ H1 _ I1 q1) fun vl s2 ⟨l, H2, I2, pl, q2⟩ => thn (hu pins s2 σ H2 _ I2 q2) fun vu s3 ⟨u, H3, I3, pu, q3⟩ => ?_)
  rw [evalPart_none]
  refine wpAny_pure ?_
  have I4 : Inv X pins σ H3 { s3 with heap := s3.heap.push { cls := .type "slice", data := .fields #[vl, vu, .none] } } := I3.kept (t' := s3.toks) fun b ob q => Heap.get?_push_of_some _ q
  obtain ⟨T, id, hT, ht, hg⟩ := hr pins { s3 with heap := s3.heap.push { cls := .type "slice", data := .fields #[vl, vu, .none] } } σ H3 x v vl vu l u s3.heap.objs.size Q I4 r1 (Heap.IsSliceOf.new ..) pl pu q3
  show wpAny (model X.prog X.w) X.A (subscriptTail e (.Slice lo hi none p2) v (.ref s3.heap.objs.size)) (EP X pins σ Q) X.xe { s3 with heap := s3.heap.push { cls := .type "slice", data := .fields #[vl, vu, .none] } }
  exact tail_any (ops := [.ref s3.heap.objs.size, v]) ht hT hg (by with_unfolding_all rfl)
def cutV (xs : List V) (lo hi : Option Int) : List V := (xs.drop (HT.sIx xs.length 0 lo)).take (HT.sIx xs.length xs.length hi - HT.sIx xs.length 0 lo)
theorem cutV_length (xs : List V) (lo hi : Option Int) : (cutV xs lo hi).length ≤ xs.length := by
  unfold cutV
  rw [List.length_take, List.length_drop]
  omega
end
end L2
namespace L2
open PySem PySem.Spec PyProof.Rows
def ixN (n : Nat) (i : Int) : Option Nat := if 0 ≤ i then (if i < n then some i.toNat else none) else if -(n : Int) ≤ i then some (i + n).toNat else none
def atI {α : Type} (xs : List α) (i : Int) : Option α := (ixN xs.length i).bind fun j => xs[j]?
theorem ixN_seq {n : Nat} {i : Int} {j : Nat} (h : ixN n i = some j) : seqIndex? i n = some j ∧ j < n ∧ -(n : Int) ≤ i ∧ i < n := by
  unfold ixN at h
  by_cases h0 : 0 ≤ i
  · rw [if_pos h0] at h
    by_cases h1 : i < n
    · rw [if_pos h1] at h
      have e : i.toNat = j := Option.some.inj h
      exact ⟨by rw [seqIndex_of h0 h1, e], by omega, by omega, h1⟩
    · rw [if_neg h1] at h; cases h
  · rw [if_neg h0] at h
    by_cases h1 : -(n : Int) ≤ i
    · rw [if_pos h1] at h
      have e : (i + n).toNat = j := Option.some.inj h
      exact ⟨by rw [seqIndex_neg (by omega) h1, e], by omega, h1, by omega⟩
    · rw [if_neg h1] at h; cases h
theorem atI_get {α : Type} {xs : List α} {i : Int} {v : α} (h : atI xs i = some v) : ∃ j, seqIndex? i xs.length = some j ∧ xs[j]? = some v ∧ j < xs.length ∧ -(xs.length : Int) ≤ i ∧ i < xs.length := by
  unfold atI at h
  cases e : ixN xs.length i with
  | none => rw [e] at h; cases h
  | some j =>
    rw [e] at h
    obtain ⟨h1, h2, h3, h4⟩ := ixN_seq e
    exact ⟨j, h1, h, h2, h3, h4⟩
theorem atI_nat {α : Type} {xs : List α} {j : Nat} {v : α} (h : xs[j]? = some v) : atI xs (j : Int) = some v := by
  have hj : j < xs.length := (List.getElem?_eq_some_iff.mp h).1
  have e : ixN xs.length (j : Int) = some j := by
    unfold ixN
    rw [if_pos (by omega), if_pos (by omega)]; simp
  unfold atI; rw [e]; exact h
def PlainIx (b : Expr) : Prop := ∀ o i, subscripted b false o i = operate [o, i] (getItem o i)
def IxR (X : Cx) (r : R2) : Prop :=
  ∀ (value slice : Expr) (pins : List (Addr × Obj)) (s : Shared) (σ : St) (H : Hp) (x y : V) (v u : Value) (Q : VK), Inv X pins σ H s → RelV x v → RelV y u → r x y H Q →
    subscripted slice false v u = operate [v, u] (getItem v u) → wpAny (model X.prog X.w) X.A (subscriptTail value slice v u) (EP X pins σ Q) X.xe s
def MtR (X : Cx) (id : String) (r : V → List V → Hp → VK → Prop) : Prop :=
  ∀ (pins : List (Addr × Obj)) (s : Shared) (σ : St) (H : Hp) (x : V) (xs : List V) (v : Value) (us : List Value) (Q : VK), Inv X pins σ H s → RelV x v → Vals xs us → r x xs H Q →
    wpAny (model X.prog X.w) X.A (call (.builtin id) (v :: us)) (EP X pins σ Q) X.xe s
section
variable {X : Cx} {a b : Expr} {ta tb : TE} {pos : Pos}
theorem IxR.or {r r' : R2} (h : IxR X r) (h' : IxR X r') : IxR X (fun x y H Q => r x y H Q ∨ r' x y H Q) := by
  intro value slice pins s σ H x y v u Q I rx ry q hs
  rcases q with q | q
  · exact h value slice pins s σ H x y v u Q I rx ry q hs
  · exact h' value slice pins s σ H x y v u Q I rx ry q hs
theorem pe_ix {r : R2} (hr : IxR X r) (ha : PE X a ta) (hb : PE X b tb) (hs : PlainIx b) : PE X (.Subscript a b pos) (tOp r ta tb) := by
  intro pins s σ H Q I h
  exact Subscript_ (binT ha hb I h fun v u s2 x y H2 I2 rx ry q => hr a b pins s2 σ H2 x y v u Q I2 rx ry q (hs _ _))
def rIxL (K : PySem.W.Frag) : R2 := fun x y H Q => ∃ p xs i v, x = .ref p ∧ y = .int i ∧ SqL K H p xs ∧ atI xs i = some v ∧ Q v H
def rIxT (K : PySem.W.Frag) : R2 := fun x y H Q => ∃ p xs i v, x = .ref p ∧ y = .int i ∧ SqT K H p xs ∧ atI xs i = some v ∧ Q v H
def rIxS : R2 := fun x y H Q => ∃ z i c, x = .str z ∧ y = .int i ∧ z.length ≤ sizeLine ∧ atI z.cps.toList i = some c ∧ Q (.str ⟨#[c]⟩) H
theorem ix_list : IxR X (rIxL X.K) := by
  intro value slice pins s σ H x y v u Q I rx ry h hs
  obtain ⟨p, xs, i, z, rfl, rfl, hq, he, q⟩ := h
  cases rx
  obtain ⟨t, rfl⟩ := ry
  obtain ⟨its, r, pl, hz⟩ := I.list hq
  obtain ⟨j, h1, h2, h3, h4, h5⟩ := atI_get he
  obtain ⟨w, ew, rw'⟩ := r.get h2
  have hl := r.length
  have hn := line63
  have fin : EP X pins σ Q w s := ⟨z, H, I, rw', q⟩
  by_cases h0 : 0 ≤ i
  · have hj : i.toNat = j := by
      rw [seqIndex_of h0 h5] at h1
      exact Option.some.inj h1
    exact item_listR pl.isList h0 (by omega) (by rw [hj]; simpa using ew) fin hs
  · have hj : (i + (its.toArray.size : Int)).toNat = j := by
      rw [seqIndex_neg (by omega) h4] at h1
      rw [List.size_toArray, ← hl]
      exact Option.some.inj h1
    exact subscriptTail_builtinR (x := w) pl.isList.typeIs slot_list_getitem.lookup
      (wpAny_getItem_list_neg (Q := fun r s' => r = w ∧ EP X pins σ Q r s') pl.isList (by omega) (by rw [List.size_toArray] <;> omega) (by omega) (by rw [hj]; simpa using ew) ⟨rfl, fin⟩) hs
theorem ix_tup : IxR X (rIxT X.K) := by
  intro value slice pins s σ H x y v u Q I rx ry h hs
  obtain ⟨p, xs, i, z, rfl, rfl, hq, he, q⟩ := h
  cases rx
  obtain ⟨t, rfl⟩ := ry
  obtain ⟨its, r, pl, hz⟩ := I.tuple hq
  obtain ⟨j, h1, h2, h3, h4, h5⟩ := atI_get he
  obtain ⟨w, ew, rw'⟩ := r.get h2
  have hl := r.length
  have hn := line63
  have fin : EP X pins σ Q w s := ⟨z, H, I, rw', q⟩
  exact subscriptTail_builtinR (x := w) pl.typeIs slot_tuple_getitem.lookup
    (getItem_tuple (j := j) (Q := fun r s' => r = w ∧ EP X pins σ Q r s') pl (by omega) (by omega) (by rw [List.size_toArray, ← hl]; exact h1) (by simpa using ew) ⟨rfl, fin⟩) hs
theorem ix_str : IxR X rIxS := by
  intro value slice pins s σ H x y v u Q I rx ry h hs
  obtain ⟨z, i, c, rfl, rfl, hz, he, q⟩ := h
  obtain ⟨t, rfl⟩ := rx
  obtain ⟨t', rfl⟩ := ry
  obtain ⟨j, h1, h2, h3, h4, h5⟩ := atI_get he
  have hl : z.cps.toList.length = z.length := by simp [Str.length]
  rw [hl] at h1 h4 h5
  have hn := line63
  exact tail_any (typeIs_str s z t) slot_str_getitem.lookup (getItem_str (c := c) (by
    have e1 : decide (i < -(2 ^ 63 : Int)) = false := decide_eq_false (by omega)
    have e2 : decide (i ≥ 2 ^ 63) = false := decide_eq_false (by omega)
    rw [e1, e2, Bool.or_false]) (by rw [h1]; simpa using h2) ⟨.str ⟨#[c]⟩, H, I.tok _, ⟨_, rfl⟩, q⟩) hs
def rIx (K : PySem.W.Frag) : R2 := fun x y H Q => rIxL K x y H Q ∨ rIxT K x y H Q ∨ rIxS x y H Q
theorem ix_seq : IxR X (rIx X.K) := ix_list.or (ix_tup.or ix_str)
theorem slice_bounds (lo hi : Option Int) (n : Nat) : (sliceBounds lo hi none n).1 = ((HT.sIx n 0 lo : Nat) : Int) ∧ (sliceBounds lo hi none n).2.1 = ((HT.sIx n n hi : Nat) : Int) ∧ (sliceBounds lo hi none n).2.2 = 1 := by
  refine ⟨?_, ?_, rfl⟩
  · cases lo with
    | none => simp [sliceBounds, HT.sIx]
    | some i =>
      simp only [sliceBounds, HT.sIx, Option.getD_none, show (1 : Int) > 0 by decide, if_true]
      by_cases h : i < 0
      · simp only [h, if_true] <;> omega
      · simp only [h, if_false] <;> omega
  · cases hi with
    | none => simp [sliceBounds, HT.sIx]
    | some i =>
      simp only [sliceBounds, HT.sIx, Option.getD_none, show (1 : Int) > 0 by decide, if_true]
      by_cases h : i < 0
      · simp only [h, if_true] <;> omega
      · simp only [h, if_false] <;> omega
theorem slicePick_cut (its : List Value) (lo hi : Option Int) : slicePick its.toArray lo hi none = ((its.drop (HT.sIx its.length 0 lo)).take (HT.sIx its.length its.length hi - HT.sIx its.length 0 lo)).toArray := by
  obtain ⟨h1, h2, h3⟩ := slice_bounds lo hi its.toArray.size
  unfold slicePick
  rw [h1, h2, h3]
  simp only [sliceRange_one, pick_run, List.size_toArray] <;> rfl
def rSlL (K : PySem.W.Frag) : V → Option Int → Option Int → Hp → VK → Prop := fun x lo hi H Q => ∃ a xs, x = .ref a ∧ SqL K H a xs ∧ ∀ p, H p = none → Q (.ref p) (upd H p (.lst (cutV xs lo hi)))
theorem sl_list : SlR X (rSlL X.K) := by
  intro pins s σ H x v vl vu lo hi sl Q I rx hs pl pu h
  obtain ⟨a, xs, rfl, hx, q⟩ := h
  cases rx
  obtain ⟨its, r, ht, hz⟩ := I.list hx
  have hlen := r.length
  refine ⟨"list", _, slot_list_getitem.lookup, ht.isList.typeIs, ?_⟩
  refine wpAny_getItem_list_slice ht.isList hs pl pu .none (by simp) ?_ (by rw [List.size_toArray] <;> omega)
  rw [slicePick_cut, ← hlen]
  refine ⟨.ref s.heap.objs.size, _, I.laid (t' := s.toks) (o := .lst (cutV xs lo hi)) (fun b ob q => Heap.get?_push_of_some _ q) (Nat.le_refl _) ?_, rfl, q _ (I.hok.fresh (Nat.le_refl _))⟩
  exact ⟨Nat.le_trans (cutV_length xs lo hi) hz, _, 0, (r.drop (HT.sIx xs.length 0 lo)).take (HT.sIx xs.length xs.length hi - HT.sIx xs.length 0 lo), Heap.get?_push_size _ rfl⟩
def flatV : V → Bool
  | .non => true
  | .bl _ => true
  | .int _ => true
  | .str _ => true
  | _ => false
def eqV : V → V → Bool
  | .non, .non => true
  | .bl a, .bl b => a == b
  | .bl a, .int b => (if a then 1 else 0) == b
  | .int a, .bl b => a == (if b then 1 else 0)
  | .int a, .int b => a == b
  | .str a, .str b => a == b
  | _, _ => false
theorem eqAt_V {A : Around} {s : Shared} {y x : V} {u v : Value} (ry : RelV y u) (rx : RelV x v) (fy : flatV y = true) (fx : flatV x = true) : SeqAt.EqAt A s u v (eqV y x) := by
  cases y with
  | non =>
    cases ry
    cases x with
    | non => cases rx; exact SeqAt.EqAt.same _
    | bl b => cases rx; exact SeqAt.EqAt.none_bool b
    | int b => obtain ⟨t, rfl⟩ := rx; exact SeqAt.EqAt.none_int b t
    | str b => obtain ⟨t, rfl⟩ := rx; exact SeqAt.EqAt.none_str b t
    | _ => exact absurd (show false = true from fx) Bool.false_ne_true
  | bl a =>
    cases ry
    cases x with
    | non => cases rx; exact SeqAt.EqAt.bool_none a
    | bl b => cases rx; exact SeqAt.EqAt.bool_bool a b
    | int b => obtain ⟨t, rfl⟩ := rx; exact SeqAt.EqAt.bool_int a b t
    | str b => obtain ⟨t, rfl⟩ := rx; exact SeqAt.EqAt.bool_str a b t
    | _ => exact absurd (show false = true from fx) Bool.false_ne_true
  | int a =>
    obtain ⟨t', rfl⟩ := ry
    cases x with
    | non => cases rx; exact SeqAt.EqAt.int_none a t'
    | bl b => cases rx; exact SeqAt.EqAt.int_bool a t' b
    | int b => obtain ⟨t, rfl⟩ := rx; exact SeqAt.EqAt.int_int a t' b t
    | str b => obtain ⟨t, rfl⟩ := rx; exact SeqAt.EqAt.int_str a t' b t
    | _ => exact absurd (show false = true from fx) Bool.false_ne_true
  | str a =>
    obtain ⟨t', rfl⟩ := ry
    cases x with
    | non => cases rx; exact SeqAt.EqAt.str_none a t'
    | bl b => cases rx; exact SeqAt.EqAt.str_bool a t' b
    | int b => obtain ⟨t, rfl⟩ := rx; exact SeqAt.EqAt.str_int a t' b t
    | str b => obtain ⟨t, rfl⟩ := rx; exact SeqAt.EqAt.str_str a t' b t
    | _ => exact absurd (show false = true from fx) Bool.false_ne_true
  | _ => exact absurd (show false = true from fy) Bool.false_ne_true
def eqU (x : V) (u : Value) : Bool := match u with
  | .none => eqV .non x
  | .bool b => eqV (.bl b) x
  | .int i _ => eqV (.int i) x
  | .str z _ => eqV (.str z) x
  | _ => false
theorem eqU_of {x y : V} {u : Value} (r : RelV y u) (f : flatV y = true) : eqU x u = eqV y x := by
  cases y with
  | non => cases r; rfl
  | bl b => cases r; rfl
  | int i => obtain ⟨t, rfl⟩ := r; rfl
  | str z => obtain ⟨t, rfl⟩ := r; rfl
  | _ => exact absurd (show false = true from f) Bool.false_ne_true
theorem any_eqU {x : V} : ∀ {xs : List V} {us : List Value}, Vals xs us → xs.all flatV = true → us.any (eqU x) = xs.any fun y => eqV y x
  | _, _, .nil, _ => rfl
  | y :: xs, u :: us, .cons r t, f => by
    rw [List.all_cons, Bool.and_eq_true] at f
    rw [List.any_cons, List.any_cons, eqU_of r f.1, any_eqU t f.2]
theorem mem_eqAt {A : Around} {s : Shared} {x : V} {v : Value} (rx : RelV x v) (fx : flatV x = true) : ∀ {xs : List V} {us : List Value}, Vals xs us → xs.all flatV = true → ∀ u ∈ us, SeqAt.EqAt A s u v (eqU x u)
  | _, _, .nil, _ => fun u hu => by cases hu
  | y :: xs, u :: us, .cons r t, f => fun u' hu => by
    rw [List.all_cons, Bool.and_eq_true] at f
    rcases List.mem_cons.mp hu with rfl | hu
    · rw [eqU_of r f.1]; exact eqAt_V r rx f.1 fx
    · exact mem_eqAt rx fx t f.2 u' hu
def inV (x : V) (xs : List V) : Bool := xs.any fun y => eqV y x
def rIn (K : PySem.W.Frag) (neg : Bool) : R2 := fun x y H Q => ∃ p xs, y = .ref p ∧ (SqL K H p xs ∨ SqT K H p xs) ∧ flatV x = true ∧ xs.all flatV = true ∧ Q (.bl (if neg then !inV x xs else inV x xs)) H
theorem op_in_seq : OpR X (compareOp .In) (rIn X.K false) := by
  intro pins s σ H x y v u Q I rx ry h
  obtain ⟨p, xs, rfl, hq, fx, fs, q⟩ := h
  cases ry
  rcases hq with hq | hq
  · obtain ⟨its, r, pl, hz⟩ := I.list hq
    refine SeqAt.in_listAt (eqU x) pl.isList (fun w hw => mem_eqAt rx fx r fs w (by simpa using hw)) ⟨.bl _, H, I, rfl, ?_⟩
    rw [show its.toArray.any (eqU x) = its.any (eqU x) by simp, any_eqU r fs]
    exact q
  · obtain ⟨its, r, pl, hz⟩ := I.tuple hq
    refine SeqAt.in_tupleAt (eqU x) pl (fun w hw => mem_eqAt rx fx r fs w (by simpa using hw)) ⟨.bl _, H, I, rfl, ?_⟩
    rw [show its.toArray.any (eqU x) = its.any (eqU x) by simp, any_eqU r fs]
    exact q
theorem call_len_seq : CallR X (.builtin "len") (fun xs H Q => ∃ p ys, xs = [.ref p] ∧ (SqL X.K H p ys ∨ SqT X.K H p ys) ∧ Q (.int ys.length) H) := by
  intro pins s σ H xs us Q I r h
  obtain ⟨p, ys, rfl, hq, q⟩ := h
  obtain ⟨u, rfl, rx⟩ := vals1 r
  cases rx
  have hn := line63
  rcases hq with hq | hq
  · obtain ⟨its, r', pl, hz⟩ := I.list hq
    have hlen := r'.length
    exact Calls.call_len_list pl.isList (by simp only [List.size_toArray] <;> omega) ⟨.int ys.length, H, I.tok _, ⟨s.toks + 1, by rw [List.size_toArray, hlen]⟩, q⟩
  · obtain ⟨its, r', pl, hz⟩ := I.tuple hq
    have hlen := r'.length
    exact len_tuple pl (by simp only [List.size_toArray] <;> omega) ⟨.int ys.length, H, I.tok _, ⟨s.toks + 1, by rw [List.size_toArray, hlen]⟩, q⟩
theorem call_len_str : CallR X (.builtin "len") (fun xs H Q => ∃ z, xs = [.str z] ∧ z.length ≤ sizeLine ∧ Q (.int z.length) H) := by
  intro pins s σ H xs us Q I r h
  obtain ⟨z, rfl, hz, q⟩ := h
  obtain ⟨u, rfl, t, rfl⟩ := vals1 r
  have hn := line63
  exact len_str (by omega) ⟨.int z.length, H, I.tok _, ⟨_, rfl⟩, q⟩
theorem call_tuple_of : CallR X (.type "tuple") (fun xs H Q => ∃ p ys, xs = [.ref p] ∧ ((SqL X.K H p ys ∧ ∀ l, H l = none → Q (.ref l) (upd H l (.tup ys))) ∨ (SqT X.K H p ys ∧ Q (.ref p) H))) := by
  intro pins s σ H xs us Q I r h
  obtain ⟨p, ys, rfl, h⟩ := h
  obtain ⟨u, rfl, rx⟩ := vals1 r
  cases rx
  rcases h with ⟨hq, q⟩ | ⟨hq, q⟩
  · obtain ⟨its, r', pl, hz⟩ := I.list hq
    have hlen := r'.length
    refine call_tuple_list pl.isList (fun h' kp => ?_) (by simp only [List.size_toArray] <;> omega)
    have I1 : Inv X pins σ H { s with heap := h' } := I.kept (t' := s.toks) kp
    have I2 : Inv X pins σ (upd H h'.objs.size (.tup ys)) { s with heap := h'.push { cls := .type "tuple", data := .seq its.toArray } } :=
      I1.laid (t' := s.toks) (fun b o e => Heap.get?_push_of_some _ e) (Nat.le_refl _) (show ObjOk X.prog X.w _ _ _ (.tup ys) from ⟨hz, its, r', IsTup.new _ _⟩)
    exact ⟨.ref h'.objs.size, _, I2, rfl, q _ (I1.hok.fresh (Nat.le_refl _))⟩
  · obtain ⟨its, r', pl, hz⟩ := I.tuple hq
    exact call_tuple_same pl ⟨.ref p, H, I, rfl, q⟩
def tyV (K : PySem.W.Frag) (T : String) (x : V) (H : Hp) : Prop := match x with
  | .str _ => T = "str"
  | .int _ => T = "int"
  | .ref p => (T = "list" ∧ ∃ xs, SqL K H p xs) ∨ (T = "tuple" ∧ ∃ o, K.lookup p = some o ∧ o.cls = .type "tuple" ∧ o.dict = none) ∨
      (T = "dict" ∧ ((∃ kvs, H p = some (.dK kvs)) ∨ ∃ kvs, H p = some (.dT kvs))) ∨ (T = "set" ∧ ∃ S n, H p = some (.set S n))
  | _ => False
theorem tyV_is {pins : List (Addr × Obj)} {σ : St} {H : Hp} {s : Shared} {T : String} {x : V} {v : Value} (I : Inv X pins σ H s) (r : RelV x v) (ty : tyV X.K T x H) :
    s.TypeIs v T ∧ ∀ a, v = .ref a → ∃ ob, s.heap.get? a = some ob ∧ ob.dict = none := by
  cases x with
  | str z =>
    obtain ⟨t, rfl⟩ := r
    cases (show T = "str" from ty)
    exact ⟨typeIs_str s z t, fun _ e => nomatch e⟩
  | int i =>
    obtain ⟨t, rfl⟩ := r
    cases (show T = "int" from ty)
    exact ⟨typeIs_int s i t, fun _ e => nomatch e⟩
  | ref p =>
    cases r
    rcases ty with ⟨rfl, xs, hq⟩ | ⟨rfl, o, hk, hc, hd⟩ | ⟨rfl, hk⟩ | ⟨rfl, S, n, hk⟩
    · obtain ⟨its, _, pl, _⟩ := I.list hq
      refine ⟨pl.isList.typeIs, fun a e => ?_⟩
      cases e
      obtain ⟨o, n, e, c, hd, _⟩ := pl
      exact ⟨o, e, hd⟩
    · refine ⟨⟨o, I.kIn p o hk, hc⟩, fun a e => ?_⟩
      cases e
      exact ⟨o, I.kIn _ o hk, hd⟩
    · have z : ∃ o, s.heap.get? p = some o ∧ o.ExactDict := by
        rcases hk with ⟨kvs, hk⟩ | ⟨kvs, hk⟩
        · obtain ⟨_, _, _, _, o, _, _, e, ex, _⟩ := I.hok p _ hk
          exact ⟨o, e, ex⟩
        · obtain ⟨_, _, _, _, o, _, _, e, ex, _⟩ := I.hok p _ hk
          exact ⟨o, e, ex⟩
      obtain ⟨o, e, ex⟩ := z
      refine ⟨⟨o, e, ex.1⟩, fun a e2 => ?_⟩
      cases e2
      exact ⟨o, e, ex.2.1⟩
    · obtain ⟨o, _, _, _, e, ex, _⟩ := I.hok p _ hk
      refine ⟨⟨o, e, ex.1⟩, fun a e2 => ?_⟩
      cases e2
      exact ⟨o, e, ex.2.1⟩
  | _ => exact False.elim ty
def tBM (K : PySem.W.Frag) (T : String) (r : V → List V → Hp → VK → Prop) (to : TE) (t : TA) : TE := fun σ H Q => to σ H fun x H1 => tyV K T x H1 ∧ t σ H1 fun xs H2 => r x xs H2 Q
variable {o e : Expr} {es : List Expr} {to : TE} {t : TA} {name : Str} {apos cpos : Pos} {T id : String} {r : V → List V → Hp → VK → Prop}
theorem pe_bm (pa : PlainAttrs T) (slot : Slot T name id) (hty : typeOf (.builtin id) = pure (.type "method_descriptor")) (hm : MtR X id r) (ho : PE X o to) (ha : PA X (e :: es) t)
    (hbase : attributeBase o name X.env (eval o X.env) = eval o X.env := by rfl)
    (hfew : ((backTo cpos (starEach (e :: es) X.env)).all (fun x => !x.1) && (backToKw cpos (keywordEach [] X.env)).all (fun x => x.1.isSome)
      && decide ((e :: es).length + ([] : List Keyword).length + (if ([] : List Keyword).isEmpty then 0 else 1) < 30)) = true := by rfl)
    (hline : (apos.endLine == cpos.line) = true := by rfl) (hs : starEach (e :: es) X.env = (false, eval e X.env) :: starEach es X.env := by rfl) (hplain : (backTo cpos (starEach es X.env)).any (·.1) = false := by rfl) :
    PE X (.Call (.Attribute o name apos) (e :: es) [] cpos) (tBM X.K T r to t) := by
  intro pins s σ H Q I h
  refine wpAny_Call_method_late hbase hfew hline rfl (thn (ho pins s σ H _ I h) fun v s1 ⟨x, H1, I1, r1, ty, q1⟩ => ?_)
  obtain ⟨h1, h2⟩ := tyV_is I1 r1 ty
  refine ⟨T, id, pa, slot, hty, h1, h2, ?_⟩
  have hA := ha cpos pins s1 σ H1 _ I1 q1
  rw [hs] at hA ⊢
  refine Calls.callWith_builtin (by show (false || (backTo cpos (starEach es X.env)).any (·.1)) = false; rw [hplain] <;> rfl) (Calls.evalArgs_plain ?_)
  exact thn hA fun us s2 ⟨vs, H2, I2, r2, q2⟩ => hm pins s2 σ H2 x vs v us Q I2 r1 r2 q2
/- xs.append(e), list.index on a module's tuple .. are MtR facts of 06m -/
end
end L2
namespace L2
open PySem PySem.Spec PyProof.Rows
def MtM (X : Cx) (id : String) (r : V → List V → Hp → VK → Prop) : Prop :=
  ∀ (pins : List (Addr × Obj)) (s : Shared) (σ : St) (H : Hp) (x : V) (xs : List V) (v : Value) (us : List Value) (Q : VK), Inv X pins σ H s → RelV x v → Vals xs us → r x xs H Q →
    wpAny (model X.prog X.w) X.A (call (.builtin id) (v :: us)) (EP X pins σ Q) X.xe s
theorem Vals.one : ∀ {x : V} {us : List Value}, Vals [x] us → ∃ u, us = [u] ∧ RelV x u
  | _, _, .cons r .nil => ⟨_, rfl, r⟩
section
variable {X : Cx} {pins : List (Addr × Obj)} {σ : St} {H : Hp} {s : Shared} {l b : Addr} {xs ys zs : List V}
theorem Inv.lset {its its' : List Value} {n : Nat} {f : Array Value → Array Value} {t' : Nat} (I : Inv X pins σ H s) (hH : H l = some (.lst xs))
    (e : s.heap.get? l = some { cls := .type "list", data := .seq its.toArray n }) (hf : f its.toArray = its'.toArray) (hv : Vals ys its') (hz : ys.length ≤ sizeLine) :
    Inv X pins σ (upd H l (.lst ys)) { s with heap := s.heap.update l (Obj.mapSeq f), toks := t' } := by
  have q := PySem.IsL.update e f
  rw [hf] at q
  refine I.write (x := l) (e := l) (by rw [hH]; exact trivial) (.inl rfl) (fun b' u hb hu => (Heap.get?_update_other s.heap (Obj.mapSeq f) (Ne.symm hb)).trans hu) ⟨_, q⟩ ?_
  exact ⟨hz, its', _, hv, q⟩
theorem Inv.lnew {its : List Value} {t' : Nat} (I : Inv X pins σ H s) (hv : Vals ys its) (hz : ys.length ≤ sizeLine) :
    Inv X pins σ (upd H s.heap.objs.size (.lst ys)) { s with heap := s.heap.push { cls := .type "list", data := .seq its.toArray }, toks := t' } :=
  I.laid (fun _ _ q => Heap.get?_push_of_some _ q) (Nat.le_refl _) ⟨hz, its, 0, hv, Heap.get?_push_size _ rfl⟩
theorem Inv.fresh (I : Inv X pins σ H s) : H s.heap.objs.size = none := I.hok.fresh (Nat.le_refl _)
theorem Inv.lstM (I : Inv X pins σ H s) (hH : H l = some (.lst xs)) : xs.length ≤ sizeLine ∧ ∃ (its : List Value) (n : Nat), Vals xs its ∧ xs.length = its.length ∧ s.heap.get? l = some { cls := .type "list", data := .seq its.toArray n } := by
  obtain ⟨z, its, n, r, e⟩ := I.hok l _ hH
  exact ⟨z, its, n, r, r.length, e⟩
end
section
variable {X : Cx}
def rAppend : V → List V → Hp → VK → Prop := fun x vs H Q => ∃ l xs y, x = .ref l ∧ vs = [y] ∧ H l = some (.lst xs) ∧ xs.length < sizeLine ∧ Q .non (upd H l (.lst (xs ++ [y])))
theorem mt_append : MtM X "list.append" rAppend := by
  intro pins s σ H x vs v us Q I rx rv h
  obtain ⟨l, xs, y, rfl, rfl, hH, hz, q⟩ := h
  cases rx
  obtain ⟨u, rfl, ru⟩ := rv.one
  obtain ⟨z, its, n, r, hl, e⟩ := I.lstM hH
  refine call_meets F.slot_list_append ⟨_, e, rfl⟩ F.entry_list_append (F.args_list_append_2 _ _) (PySem.list_append l its.toArray n u (by rw [List.size_toArray]; omega)) ⟨e, ?_⟩
  refine ⟨.non, _, I.lset (its' := its ++ [u]) hH e (by simp) (r.append (.cons ru .nil)) ?_, rfl, q⟩
  rw [List.length_append, List.length_singleton]
  omega
def rCat : R2 := fun x y H Q => ∃ l b xs zs, x = .ref l ∧ y = .ref b ∧ H l = some (.lst xs) ∧ H b = some (.lst zs) ∧ xs.length + zs.length ≤ sizeLine ∧ ∀ p, H p = none → Q (.ref p) (upd H p (.lst (xs ++ zs)))
theorem op_cat : OpR X (binaryOp .Add) rCat := by
  intro pins s σ H x y v u Q I rx ry h
  obtain ⟨l, b, xs, zs, rfl, rfl, hH, hB, hz, q⟩ := h
  cases rx
  cases ry
  obtain ⟨z, its, n, r, hl, e⟩ := I.lstM hH
  obtain ⟨z2, its2, n2, r2, hl2, e2⟩ := I.lstM hB
  refine PySem.P.add_list e e2 ?_ (by rw [List.size_toArray, List.size_toArray]; omega)
  have ea : its.toArray ++ its2.toArray = (its ++ its2).toArray := by simp
  rw [ea]
  exact ⟨.ref _, _, I.lnew (t' := s.toks) (r.append r2) (by rw [List.length_append]; omega), rfl, q _ I.fresh⟩
end
section
variable {prog : Program} {w : World} {A : Around} {E : Value → Shared → Prop} {s : Shared}
end
section
variable {X : Cx}
end
end L2
namespace Att
open PySem PySem.W PySem.Calls PyProof.Rows
theorem ints_of_wellAll {P : Params} {h : Heap} : ∀ (ns : List Int) (vs : List Value), WellAll P h vs (ns.map WData.int) → IntsAre vs ns := by
  intro ns
  induction ns with
  | nil =>
    intro vs w
    rw [List.map_nil] at w
    cases w
    exact .nil
  | cons n ns ih =>
    intro vs w
    rw [List.map_cons] at w
    cases w with
    | cons a b =>
      cases a
      exact .cons _ _ (ih _ b)
theorem script_of {l : OpenLaw} {n : Nat} (hn : l.most = some n) {P : Params} {h : Heap} {args : List WData} {vals : List Value}
    (hpre : l.row.toRowW.claim.pre args = true) (hwl : WellAll P h vals args) :
    ∃ a vs ns, vals = [Value.ref a] ∧ args = [WData.list (ns.map WData.int)] ∧ h.get? a = some { cls := .type "list", data := .seq vs.toArray } ∧ IntsAre vs ns ∧ ns.length ≤ n := by
  have hsh : WShape.hasAll [] args [.list .int] = true := (pre_splitW hpre).1
  have hc : l.pre.holds [] { args := args } = true := (pre_splitW hpre).2
  obtain ⟨d, r, rfl, h1, h2⟩ := hasAllW_cons hsh
  obtain rfl := hasAllW_nil h2
  obtain ⟨xs, rfl, h3⟩ := hasW_list h1
  obtain ⟨ns, rfl⟩ := items_int h3
  have hlen : ns.length ≤ n := by
    unfold OpenLaw.pre at hc
    have h4 : (WTm.not (.lt (.lit (.int (n : Int))) (.len (.arg 0)))).holds [] { args := [.list (ns.map .int)] } = true := by
      have h4 := (holds_andW hc).1
      rw [hn] at h4
      exact h4
    have h5 := condW_of h4 (w_not (w_lt w_lit (w_len_list (w_arg rfl))))
    rw [List.length_map] at h5
    refine Nat.le_of_not_lt fun q => ?_
    have q' : (n : Int) < ((ns.length : Nat) : Int) := by omega
    first
      | (rw [decide_eq_true q'] at h5; exact absurd h5 (by decide))
      | (simp at h5; omega)
  cases hwl with
  | cons w1 w2 =>
    cases w2
    cases w1 with
    | list ho hall => exact ⟨_, _, ns, rfl, rfl, ho, ints_of_wellAll ns _ hall, hlen⟩
theorem post_true (l : OpenLaw) (args : List WData) : l.row.toRowW.claim.post args (.bool true) args = true :=
  postW_of (r := l.row.toRowW) (X := (true == true))
    (show WShape.has [] (.bool true) .bool = true by first | rfl | decide | simp [WShape.has, WShape.arms, WShape.armsAll])
    (show (WTm.eq .res (.lit (.bool true))).value [] { args := args, res := some (.bool true), after := args } = some (.bool (true == true)) from w_eq_bool (w_res rfl) w_lit) rfl
theorem attach_call {l : OpenLaw} {n : Nat} {q : Program} {loose : List Str} {XP : (Str → Option Value) → Heap → Prop} {YP : World → Heap → Prop} {d : DefRec}
    (hn : l.most = some n) (hdf : d.params.defaults = [])
    (call : ∀ (w : World) (s₀ s₁ : Shared) (mg mb : Str → Option Value) (fa : Addr) (o : Obj) (pm cd doc : Value) (a : Addr) (vs : List Value) (ns : List Int),
      Ground q loose [] XP w s₀ mg mb s₁.heap → YP w s₁.heap →
      s₁.heap.get? fa = some o → o.data = .func (docDef d.name d.params d.body d.scope pm cd doc) → s₁.heap.CodeRec cd d.name → mg d.name = some (.ref fa) →
      s₁.heap.get? a = some { cls := .type "list", data := .seq vs.toArray } → IntsAre vs ns → ns.length ≤ n → s₁.gens = #[] →
      codeAny (model l.prog w) callerA (.call (.ref fa) ⟨[.ref a], []⟩) (fun r s' => r = .ok (.ret (.bool true)) ∧ OldK s₁.heap s'.heap ∧ s'.os = s₁.os ∧ AllBare s'.gens) s₁) :
    WalkO q loose XP YP l.row.toRowW d [] (fun f vs => PySem.call f vs) := by
  intro w s₀ s₁ mg mb G Y fa o pm cd doc dV kV ho hd hcd hD hmg hg args vals as hpre hlay hrd hwl hlo
  obtain rfl : dV = .none := Dflts.none hD hdf
  obtain rfl : kV = .none := Dflts.noKw hD
  obtain ⟨a, vs, ns, rfl, rfl, hobj, hints, hlen⟩ := script_of hn hpre hwl
  refine enter_call (codeAny_mono (call w s₀ s₁ mg mb fa o pm cd doc a vs ns G Y ho (fd_plain hd) hcd hmg hobj hints hlen hg) fun r s' hq => ?_)
  obtain ⟨rfl, h2, h3, h4⟩ := hq
  exact ⟨.inl ⟨.bool true, .bool true, [], rfl, fun _ => rfl, .bool true, post_true l _, fun _ => ⟨List.Pairwise.nil, fun _ hm => (nomatch hm)⟩⟩, h2, h3, h4⟩
section
variable {prog : Program} {w : World} {A : Around} {E : Value → Shared → Prop} {s : Shared} {K : Frag}
end
end Att
namespace L2
open PySem PySem.Spec PyProof.Rows
theorem vals_ints : ∀ {vs : List Value} {ns : List Int}, IntsAre vs ns → Vals (ns.map V.int) vs
  | _, _, .nil => .nil
  | _, _, .cons n t h => .cons ⟨t, rfl⟩ (vals_ints h)
def Only (H : Hp) : Prop := ∀ b, H b = none ∨ ∃ o xs, H b = some (.frz o (.lst xs))
theorem law_call {P : Program} {w : World} {K : PySem.W.Frag} {mg mb : Str → Option Value} {CX : CXT} {k : Nat} {fa a : Addr} {fd : FuncData} {x : Str} {sp : Sp} {s₁ : Shared} {vs : List Value} {ns : List Int}
    (KX : K.In s₁.heap) (hns : s₁.heap.Ns mainGlobals mg) (hb : s₁.heap.Ns builtinsNs mb) (hbb : ∀ x : Str, x ≠ "__name__" → mb x = bootBuiltins x) (hlim : s₁.heap.NoLimit) (hg : s₁.gens = #[])
    (ha : s₁.heap.get? a = some { cls := .type "list", data := .seq vs.toArray }) (hi : IntsAre vs ns) (hl : ns.length ≤ sizeLine) (hr : Room k callerA)
    (F : ∀ base : Heap, K.In base → base.Ns mainGlobals mg → FnOk P w K mg base CX k fa fd [x] sp) (hbind : ∀ (s : Shared) (u : Value), BindsTo s fd ⟨[u], []⟩ [(x, u)])
    (hsp : ∀ H : Hp, Only H → SqL K H a (ns.map V.int) → sp [.ref a] H (fun v _ => v = .bl true) fun _ _ _ => False)
    (hCX : ∀ H e s', CX [] H s₁ (fun _ _ _ => False) e s' → False) :
    codeAny (model P w) callerA (.call (.ref fa) ⟨[.ref a], []⟩) (fun r s' => r = .ok (.ret (.bool true)) ∧ OldK s₁.heap s'.heap ∧ s'.os = s₁.os ∧ AllBare s'.gens) s₁ := by
  have rv := vals_ints hi
  have lenV := hi.length
  have core : ∀ H : Hp, Only H → SqL K H a (ns.map V.int) → HOk P w H s₁.heap → (∀ b, H b ≠ none → b = a) → (H a ≠ none → K.lookup a = none) →
      codeAny (model P w) callerA (.call (.ref fa) ⟨[.ref a], []⟩) (fun r s' => r = .ok (.ret (.bool true)) ∧ OldK s₁.heap s'.heap ∧ s'.os = s₁.os ∧ AllBare s'.gens) s₁ := by
    intro H hO hS hok hA hK
    have base_of : ∀ {b : Addr} {o : Obj}, s₁.heap.get? b = some o → H b = none → (hidT s₁.heap H).get? b = some o := fun e n => hidT_get e n
    have noA : ∀ {b : Addr} {o : Obj} {es : Array DictEntry} {ep : Nat}, s₁.heap.get? b = some o → o.data = .dict es ep → H b = none := fun {b o es ep} e d => by
      cases q : H b with
      | none => rfl
      | some u =>
        have e' : b = a := hA b (by rw [q]; simp)
        subst e'
        rw [ha] at e; cases e
        have d' : Data.seq vs.toArray _ = Data.dict es ep := d
        cases d'
    have nsK : ∀ {b : Addr} {m : Str → Option Value}, s₁.heap.Ns b m → (hidT s₁.heap H).Ns b m := fun {b m} ⟨o, es, ep, e, d, r⟩ => ⟨o, es, ep, base_of e (noA e d), d, r⟩
    have hKb : K.In (hidT s₁.heap H) := fun b o e => base_of (KX b o e) (by
      cases q : H b with
      | none => rfl
      | some u =>
        have e' : b = a := hA b (by rw [q]; simp)
        subst e'
        rw [hK (by rw [q]; simp)] at e; cases e)
    have hM : Mod K mg (hidT s₁.heap H) := ⟨hKb, nsK hns, ⟨mb, nsK hb, hbb⟩, let ⟨mc, h1, h2⟩ := hlim; ⟨mc, nsK h1, h2⟩⟩
    have e0 : Env0 P w K mg (hidT s₁.heap H) callerA [] s₁ H := ⟨rfl, hM, fun b o e => of_hidT e, Nat.le_of_eq (hidT_size _ _), trivial, fun b hb => absurd (show b ∈ ([] : List Addr) from hb) (by simp), hok, .of_eq hg⟩
    refine codeAny_mono ((F _ hKb (nsK hns)).run callerA [] s₁ H ⟨[.ref a], []⟩ [.ref a] [.ref a] _ _ hr e0 (hbind s₁ (.ref a)) (.cons rfl .nil) (hsp H hO hS)) fun r s' h => ?_
    cases r with
    | error e => exact (hCX H e s' h).elim
    | ok fl =>
      cases fl with
      | next => exact False.elim h
      | brk => exact False.elim h
      | cont => exact False.elim h
      | ret u =>
        obtain ⟨v, H', os, bare, un, hok', r', q⟩ := h
        have q' : v = .bl true := q
        subst q'
        obtain rfl : u = Value.bool true := r'
        refine ⟨rfl, OldK.of_keep fun b o e => ?_, os, bare⟩
        cases q : H b with
        | none => exact un.keep b o e q (by intro z; exact absurd (show b ∈ ([] : List Addr) from z) (by simp)) (by simp)
        | some u =>
          rcases hO b with z | ⟨ob, xs, z⟩
          · rw [q] at z; cases z
          · have z2 := un.frzs b ob _ z
            obtain ⟨e1, _⟩ := hok b _ z
            obtain ⟨e2, _⟩ := hok' b _ z2
            rw [e] at e1; cases e1
            exact e2
  cases hk : K.lookup a with
  | some o =>
    have e := KX a o hk
    rw [ha] at e
    cases e
    refine core (fun _ => none) (fun _ => .inl rfl) (.inr ⟨_, vs.toArray, _, hk, rfl, rfl, rfl, by rw [List.size_toArray, lenV]; exact hl, by simpa using rv⟩) (fun b u z => by have z' : (none : Option HO) = some u := z; cases z') (fun b z => absurd rfl z) fun z => absurd rfl z
  | none =>
    refine core (fun b => if b = a then some (.frz { cls := .type "list", data := .seq vs.toArray } (.lst (ns.map V.int))) else none) (fun b => ?_) (.inl (.inr ⟨{ cls := .type "list", data := .seq vs.toArray }, if_pos rfl⟩)) (fun b u z => ?_) (fun b z => ?_) fun _ => hk
    · by_cases hb : b = a
      · exact .inr ⟨_, _, if_pos hb⟩
      · exact .inl (if_neg hb)
    · by_cases hb : b = a
      · have z' := (if_pos hb).symm.trans z
        cases z'
        subst hb
        exact ⟨ha, by rw [List.length_map]; exact hl, vs, _, rv, ha⟩
      · have z' := (if_neg hb).symm.trans z
        cases z'
    · by_cases hb : b = a
      · exact hb
      · exact absurd (if_neg hb) z
end L2
namespace L2
open PySem PySem.Spec PyProof.Rows
abbrev KOf {K : PySem.W.Frag} {h : Heap} (_ : K.In h) : PySem.W.Frag := K
theorem walk_of {l : PySem.W.OpenLaw} {n k : Nat} {q : Program} {loose : List Str} {XP : (Str → Option Value) → Heap → Prop} {YP : World → Heap → Prop} {d : DefRec} {K : Params → PySem.W.Frag} {CX : World → CXT} {sp : World → Sp} {x : Str}
    (hn : l.most = some n) (hn2 : n ≤ sizeLine) (hdf : d.params.defaults = []) (hr : Room k callerA)
    (hY : ∀ (w : World) (h : Heap), YP w h → (K w.params).In h)
    (F : ∀ (w : World) (mg : Str → Option Value) (fa : Addr) (h : Heap), (K w.params).In h → h.Ns mainGlobals mg → mg d.name = some (.ref fa) →
      ∃ fd : FuncData, (∀ (s : Shared) (u : Value), BindsTo s fd ⟨[u], []⟩ [(x, u)]) ∧
        ∀ base : Heap, (K w.params).In base → base.Ns mainGlobals mg → FnOk l.prog w (K w.params) mg base (CX w) k fa fd [x] (sp w))
    (hsp : ∀ (w : World) (H : Hp) (a : Addr) (ns : List Int), ns.length ≤ n → Only H → SqL (K w.params) H a (ns.map V.int) → sp w [.ref a] H (fun v _ => v = .bl true) fun _ _ _ => False)
    (hCX : ∀ (w : World) (H : Hp) (s : Shared) (e : Value) (s' : Shared), CX w [] H s (fun _ _ _ => False) e s' → False) :
    PySem.W.WalkO q loose XP YP l.row.toRowW d [] (fun f vs => PySem.call f vs) := by
  refine Att.attach_call hn hdf fun w s₀ s₁ mg mb fa o pm cd doc a vs ns G Y ho hd hcd hmg hobj hints hlen hg => ?_
  have KX := hY w _ Y
  obtain ⟨fd, hb, hF⟩ := F w mg fa _ KX G.T.g hmg
  exact law_call KX G.T.g G.T.b G.T.builtins G.T.nolimit hg hobj hints (Nat.le_trans hlen hn2) hr hF hb (fun H hO hS => hsp w H a ns hlen hO hS) fun H e s' => hCX w H s₁ e s'
end L2
/- THE LAST THEOREM (shape; LID, My.* are yours):
   My.Adr: a structure of the addresses that your layer names (classes, functions); My.Txt K t: a structure (Prop) of the equations over K;
   My.txt_mk : {K} {implicit addresses ..} (e1 : nsIn K mainGlobals "law" = some (some (.ref f))) (e2 : K.lookup f = some ⟨oc, od, .func (fnOf "law" "law" params body scope dV kV doc pm an cdv ct), sl⟩) (e3 : codeIn K cdv "law" = true) .. : ∃ t, My.Txt K t
set_option maxRecDepth 100000 in
set_option maxHeartbeats 0 in
theorem PySem.Challenge.cw_LID_holds : PySem.Challenge.rw_LID.Holds := by
  w_on; o_law; k_head; (case hw => w_witness2)
  k_fill
  refine L2.walk_of (l := PySem.Challenge.rw_LID) (n := 63) (k := 40) (x := "script") (CX := fun w => ..) (sp := fun _ => My.sp_law) rfl (by decide) rfl ⟨rfl, by decide, by decide⟩ (fun w h Y => PySem.W.kIn_of Y) ?F ?S ?C
  case F =>
    intro w mg fa h KX G hmg
    have T : ∃ t, My.Txt (L2.KOf KX) t := by
      dsimp only [L2.KOf]                          -- K must stand as «<heap const> w.params» for k_is
      refine' My.txt_mk ?e1 ?e2 ?e3 ..
      (case e1 => PySem.W.k_is)                    -- in the order: a name -> its address -> its object -> its parts
      (case e2 => PySem.W.k_is)
      ..
    obtain ⟨t, T⟩ := T
    have e0 := hmg.symm.trans (PySem.W.mg_of KX G T.law)
    cases e0                                       -- fa is the law's own address
    exact ⟨_, fun s u => .of_eq rfl, fun base kb nb => My.law_fn T kb nb⟩     -- if «.of_eq rfl» comes too early: refine' ⟨_, ?b, fun base kb nb => My.law_fn T kb nb⟩; exact fun s u => .of_eq rfl
  case S => exact fun w H a ns hl hO hS => ..
  case C => exact ..
(the tactic k_is has no namespace: write k_is) -/
namespace L2
open PySem PySem.Spec PyProof.Rows
def defArgs (s : Stmt) : Arguments := match s with
  | .FunctionDef _ a _ _ _ _ _ _ _ _ => a
  | _ => { posonlyargs := [], args := [], vararg := none, kwonlyargs := [], kw_defaults := [], kwarg := none, defaults := [] }
def defBody (s : Stmt) : List Stmt := match s with
  | .FunctionDef _ _ b _ _ _ _ _ _ _ => b
  | _ => []
def defScope (s : Stmt) : Scope := match s with
  | .FunctionDef _ _ _ _ _ _ sc _ _ _ => sc
  | _ => { kind := .function, names := [], isGenerator := false, isCoroutine := false }
abbrev CX0 : CXT := fun _ _ _ _ _ _ => False
abbrev E0 : XK := fun _ _ _ => False
theorem pass0 {X : Cx} : Passes CX0 X E0 := fun _ _ _ _ _ _ _ h => h.elim
structure Fun (K : PySem.W.Frag) (x qual : Str) (st : Stmt) (f : Addr) (fd : FuncData) : Prop where
  ex : ∃ (oc : Value) (od : Option Addr) (kV doc pm : Value) (an : Option Addr) (cdv ct : Value) (osl : Array (Option Value)),
    fd = PySem.W.fnOf x qual (defArgs st) (defBody st) (defScope st) .none kV doc pm an cdv ct ∧ K.lookup f = some ⟨oc, od, .func fd, osl⟩ ∧ PySem.W.codeIn K cdv qual = true
  kp : PySem.W.keepIn K (.ref f) = true
section
variable {P : Program} {w : World} {K : PySem.W.Frag} {mg : Str → Option Value} {base : Heap}
theorem Fun.ok {x qual : Str} {st : Stmt} {f : Addr} {fd : FuncData} {N ps : List Str} {k : Nat} {sp : Sp} (F : Fun K x qual st f fd) (S : FnScope N ps (defScope st)) (len : ∀ vs H Q E, sp vs H Q E → vs.length = ps.length)
    (hbody : ∀ (cdv : Value) (A : Around) (outer : List Env) (s : Shared) (H : Hp) (vs : List V) (Q : VK) (E : XK), Room k (A.deeper (envOfC qual (defScope st) s.heap.objs.size f cdv)) → sp vs H Q E →
      ∃ t, PSs (cxOf CX0 P w K mg base N qual (defScope st) f cdv A outer s H E).nox (defBody st) t ∧ t { nx := fun _ H' => Q .non H', rt := Q } (start N vs) H) : FnOk P w K mg base CX0 (k + 1) f fd ps sp := by
  obtain ⟨oc, od, kV, doc, pm, an, cdv, ct, osl, rfl, lk, hcd⟩ := F.ex
  refine fn_of lk hcd S len fun A outer s H vs Q E hr hsp => ?_
  obtain ⟨t, h, q⟩ := hbody cdv A outer s H vs Q E hr hsp
  exact ⟨t, h.nox, q⟩
theorem Fun.binds {x qual : Str} {st : Stmt} {f : Addr} {fd : FuncData} {ps : List Str} (F : Fun K x qual st f fd)
    (h : ∀ (kV doc pm : Value) (an : Option Addr) (cdv ct : Value) (us : List Value), us.length = ps.length → bindArgs (PySem.W.fnOf x qual (defArgs st) (defBody st) (defScope st) .none kV doc pm an cdv ct) ⟨us, []⟩ = pure (ps.zip us)) : Binds K fd ps [] := by
  obtain ⟨oc, od, kV, doc, pm, an, cdv, ct, osl, rfl, lk, hcd⟩ := F.ex
  exact .all (h kV doc pm an cdv ct)
theorem fun_mk {x qual : Str} {st : Stmt} {f : Addr} {oc : Value} {od an : Option Addr} {osl : Array (Option Value)} {kV doc pm cdv ct : Value} (l : K.lookup f = some ⟨oc, od, .func (PySem.W.fnOf x qual (defArgs st) (defBody st) (defScope st) .none kV doc pm an cdv ct), osl⟩)
    (c : PySem.W.codeIn K cdv qual = true) (k : PySem.W.keepIn K (.ref f) = true) : Fun K x qual st f (PySem.W.fnOf x qual (defArgs st) (defBody st) (defScope st) .none kV doc pm an cdv ct) := ⟨⟨oc, od, kV, doc, pm, an, cdv, ct, osl, rfl, l, c⟩, k⟩
end
theorem small1000 {n : Nat} (h : n ≤ 1000) : n < sizeLine := Nat.lt_of_le_of_lt h (by decide)
section
variable {X : Cx}
theorem pv (i : Nat) {x : Str} {pos : Pos} (hN : X.N[i]? = some x := by rfl) (hv : Vis X.env.scope x := by first | exact Or.inl rfl | exact Or.inr (Or.inl rfl) | exact Or.inr (Or.inr rfl)) (hd : (x == ("__debug__" : Str)) = false := by decide)
    (hcd : (x == ("__classdict__" : Str)) = false := by decide) : PE X (.Name x pos) (tVar i) := pe_var hN hv hd hcd
end
theorem iteF {A B : Prop} (h : B) : if false = true then A else B := by
  rw [if_neg Bool.false_ne_true]
  exact h
theorem iteT {A B : Prop} (h : A) : if true = true then A else B := by
  rw [if_pos rfl]
  exact h
theorem ite2 {c A B : Prop} [Decidable c] (h1 : c → A) (h2 : ¬ c → B) : if c then A else B := by
  by_cases h : c
  · rw [if_pos h]
    exact h1 h
  · rw [if_neg h]
    exact h2 h
def Same (H H' : Hp) : Prop := ∀ b o, H b = some o → H' b = some o
theorem Same.refl (H : Hp) : Same H H := fun _ _ h => h
theorem Same.trans {H H1 H2 : Hp} (a : Same H H1) (b : Same H1 H2) : Same H H2 := fun c o h => b c o (a c o h)
theorem Same.free {H H' : Hp} (e : Same H H') {l : Addr} (h : H' l = Option.none) : H l = Option.none := by
  cases q : H l with
  | none => rfl
  | some o =>
    rw [e l o q] at h
    cases h
theorem Same.seq {K : PySem.W.Frag} {H H' : Hp} {a : Addr} {xs : List V} (e : Same H H') (h : SqL K H a xs) : SqL K H' a xs := by
  rcases h with (h | ⟨o, h⟩) | h
  · exact .inl (.inl (e _ _ h))
  · exact .inl (.inr ⟨o, e _ _ h⟩)
  · exact .inr h
end L2
set_option Elab.async false
set_option linter.all false
set_option maxRecDepth 100000
set_option maxHeartbeats 4000000
namespace L2
open PySem PySem.Spec PyProof.Rows
section
variable {prog : Program} {w : World} {A : Around} {E : Value → Shared → Prop} {R : Result → Shared → Prop} {s : Shared}
theorem compLoop_any {elt target iter : Expr} {ifs : List Expr} {scope : Scope} {pos : Pos} {it acc : Value} {env : Env} (I : Nat → Shared → Prop)
    (turn : ∀ n s, I n s → wpAny (model prog w) A (pyNext it) (fun r s1 => match r with
      | none => R (.ok .next) s1
      | some v => wpAny (model prog w) A (letOwnedTupleGo target it v) (fun _ s1' => wpAny (model prog w) A (assign target env v) (fun _ s2 =>
          wpAny (model prog w) A (forIn ifs true fun c r => if r = true then do let ok ← isTrue c env (eval c env); pure (ForInStep.yield ok) else pure (ForInStep.yield r)) (fun ok s3 =>
            if ok = true then wpAny (model prog w) A (eval elt env) (fun x s4 =>
              wpAny (model prog w) A (call (.builtin "list.append") [acc, x]) (fun _ s5 => ∃ m, m < n ∧ I m s5) (fun _ _ => False) s4) (fun _ _ => False) s3
            else ∃ m, m < n ∧ I m s3) (fun _ _ => False) s2) (fun _ _ => False) s1') (fun _ _ => False) s1) (fun _ _ => False) s)
    (n : Nat) (h : I n s) :
    codeAny (model prog w) A (.compLoop (.ListComp elt [⟨target, iter, ifs, 0⟩] scope pos) 0 it acc env) R s := by
  refine codeAny_loop rfl I (fun n s hI => ?_) n h
  show wpAny _ A ((compTurn (.ListComp elt [⟨target, iter, ifs, 0⟩] scope pos) 0 it acc env).onRaise (fun x => do noteFrame x env; theTreesLotGoes x)) _ _ s
  refine wpAny_noted ?_
  rw [compTurn_list]
  refine wpAny_bind (wpAny_standAt (wpAny_bind (wpAny_mono (turn n s hI) (fun r s1 h1 => ?_) fun _ _ h' => h'.elim)))
  cases r with
  | none => exact wpAny_pure h1
  | some v =>
    refine wpAny_bind (wpAny_mono h1 (fun _ s1' h1' => ?_) fun _ _ h' => h'.elim)
    refine wpAny_bind (wpAny_mono h1' (fun _ s2 h2 => wpAny_bind (wpAny_mono h2 (fun ok s3 h3 => ?_) fun _ _ h' => h'.elim)) fun _ _ h' => h'.elim)
    cases ok with
    | false => exact wpAny_pure ⟨rfl, h3⟩
    | true =>
      exact wpAny_bind (wpAny_bind (wpAny_mono h3 (fun x s4 h4 => wpAny_bind (wpAny_mono h4 (fun _ s5 h5 => wpAny_pure (wpAny_pure ⟨rfl, h5⟩)) fun _ _ h' => h'.elim)) fun _ _ h' => h'.elim))
end
def clOf (cells : List (Str × Addr)) : List (Str × NameKind) → List (Str × Addr) → List (Str × Addr)
  | [], acc => acc
  | (n, k) :: r, acc => if k == .free then clOf cells r ((n, (cells.lookup n).getD 0) :: acc) else clOf cells r acc
theorem closureFor_clOf {scope : Scope} {env : Env} (h : ∀ y ∈ scope.names, y.2 = .free → ∃ c, env.cells.lookup y.1 = some c) : closureFor scope env = pure (clOf env.cells scope.names []) := by
  simp only [closureFor]
  generalize ([] : List (Str × Addr)) = acc
  revert h
  generalize scope.names = l
  intro h
  induction l generalizing acc with
  | nil => rfl
  | cons x r ih =>
    obtain ⟨n, k⟩ := x
    have hr := ih (acc := acc) fun y hy => h y (List.mem_cons_of_mem _ hy)
    cases e : (k == NameKind.free) with
    | false =>
      simp only [List.forIn_cons, clOf, e, Bool.false_eq_true, if_false]
      exact hr
    | true =>
      obtain ⟨c, hc⟩ := h (n, k) List.mem_cons_self (by simpa using e)
      have hr' := ih (acc := (n, c) :: acc) fun y hy => h y (List.mem_cons_of_mem _ hy)
      have hc' : env.cells.lookup n = some c := hc
      simp only [List.forIn_cons, clOf, e, if_true, cellOf, hc', Option.getD_some]
      exact hr'
theorem clOf_get {cells : List (Str × Addr)} : ∀ (l : List (Str × NameKind)) (acc : List (Str × Addr)) {x : Str} {c : Addr}, (∀ y ∈ l, y.2 = .free → ∃ c, cells.lookup y.1 = some c) → (clOf cells l acc).lookup x = some c → acc.lookup x = some c ∨ cells.lookup x = some c
  | [], acc, x, c, _, h => .inl h
  | (n, k) :: r, acc, x, c, hy, h => by
    have hr : ∀ y ∈ r, y.2 = .free → ∃ c, cells.lookup y.1 = some c := fun y m => hy y (List.mem_cons_of_mem _ m)
    unfold clOf at h
    cases e : (k == NameKind.free) with
    | false =>
      rw [e] at h
      exact clOf_get r acc hr h
    | true =>
      rw [e] at h
      rcases clOf_get r _ hr h with q | q
      · rw [List.lookup_cons] at q
        obtain ⟨c', hc'⟩ := hy (n, k) List.mem_cons_self (by simpa using e)
        have hc'' : cells.lookup n = some c' := hc'
        cases en : (x == n) with
        | true =>
          rw [en] at q
          have : x = n := by simpa using en
          subst this
          rw [hc''] at q
          exact .inr (hc''.trans q)
        | false =>
          rw [en] at q
          exact .inl q
      · exact .inr q
theorem clOf_has {cells : List (Str × Addr)} : ∀ (l : List (Str × NameKind)) (acc : List (Str × Addr)) {x : Str}, ((x, NameKind.free) ∈ l ∨ (acc.lookup x).isSome = true) → ((clOf cells l acc).lookup x).isSome = true
  | [], acc, x, h => by
    rcases h with h | h
    · cases h
    · exact h
  | (n, k) :: r, acc, x, h => by
    unfold clOf
    cases e : (k == NameKind.free) with
    | false =>
      simp only [Bool.false_eq_true, if_false]
      refine clOf_has r acc ?_
      rcases h with h | h
      · rcases List.mem_cons.mp h with h | h
        · injection h with h1 h2
          subst h2
          simp at e
        · exact .inl h
      · exact .inr h
    | true =>
      simp only [if_true]
      refine clOf_has r _ ?_
      cases en : (x == n) with
      | true => exact .inr (by rw [List.lookup_cons, en]; rfl)
      | false =>
        rcases h with h | h
        · rcases List.mem_cons.mp h with h | h
          · injection h with h1 h2
            subst h1
            simp at en
          · exact .inl h
        · exact .inr (by rw [List.lookup_cons, en]; exact h)
theorem mem_of_lookup {β : Type} : ∀ {l : List (Str × β)} {x : Str} {b : β}, l.lookup x = some b → (x, b) ∈ l
  | [], _, _, h => by simp at h
  | (n, k) :: r, x, b, h => by
    rw [List.lookup_cons] at h
    cases en : (x == n) with
    | true =>
      rw [en] at h
      have : x = n := by simpa using en
      subst this
      have h' : k = b := Option.some.inj h
      subst h'
      exact List.mem_cons_self
    | false =>
      rw [en] at h
      exact List.mem_cons_of_mem _ (mem_of_lookup h)
theorem relabel_free {env : Env} : ∀ {names : List (Str × NameKind)} {x : Str}, names.lookup x = some .free →
    (names.map fun (n, k) => if (k == NameKind.free && env.scope.kind == .function && env.kindOf n == some .cell) then (n, NameKind.cell) else (n, k)).lookup x = some .cell ∨
    (names.map fun (n, k) => if (k == NameKind.free && env.scope.kind == .function && env.kindOf n == some .cell) then (n, NameKind.cell) else (n, k)).lookup x = some .free
  | [], _, h => by simp at h
  | (n, k) :: r, x, h => by
    have ih := @relabel_free env r x
    cases hx : x == n with
    | true =>
      simp only [List.lookup_cons, hx] at h
      cases h
      by_cases hc : (NameKind.free == NameKind.free && env.scope.kind == .function && env.kindOf n == some .cell) = true
      · left
        show List.lookup x ((if (NameKind.free == NameKind.free && env.scope.kind == .function && env.kindOf n == some .cell) = true then (n, NameKind.cell) else (n, NameKind.free)) :: _) = _
        rw [if_pos hc]
        simp only [List.lookup_cons, hx]
      · right
        show List.lookup x ((if (NameKind.free == NameKind.free && env.scope.kind == .function && env.kindOf n == some .cell) = true then (n, NameKind.cell) else (n, NameKind.free)) :: _) = _
        rw [if_neg hc]
        simp only [List.lookup_cons, hx]
    | false =>
      simp only [List.lookup_cons, hx] at h
      have q := ih h
      by_cases hc : (k == NameKind.free && env.scope.kind == .function && env.kindOf n == some .cell) = true
      · show List.lookup x ((if (k == NameKind.free && env.scope.kind == .function && env.kindOf n == some .cell) = true then (n, NameKind.cell) else (n, k)) :: _) = _ ∨ List.lookup x ((if (k == NameKind.free && env.scope.kind == .function && env.kindOf n == some .cell) = true then (n, NameKind.cell) else (n, k)) :: _) = _
        rw [if_pos hc]; simp only [List.lookup_cons, hx]; exact q
      · show List.lookup x ((if (k == NameKind.free && env.scope.kind == .function && env.kindOf n == some .cell) = true then (n, NameKind.cell) else (n, k)) :: _) = _ ∨ List.lookup x ((if (k == NameKind.free && env.scope.kind == .function && env.kindOf n == some .cell) = true then (n, NameKind.cell) else (n, k)) :: _) = _
        rw [if_neg hc]; simp only [List.lookup_cons, hx]; exact q
theorem relabel_back {env : Env} : ∀ {names : List (Str × NameKind)} {x : Str} {k' : NameKind}, (∀ y ∈ names, y.2 ≠ .cell) →
    (names.map fun (n, k) => if (k == NameKind.free && env.scope.kind == .function && env.kindOf n == some .cell) then (n, NameKind.cell) else (n, k)).lookup x = some k' → (k' = .cell ∨ k' = .free) → (x, NameKind.free) ∈ names
  | [], _, _, _, h, _ => by simp at h
  | (n, k) :: r, x, k', hn, h, hk => by
    have ih := @relabel_back env r x k' (fun y hy => hn y (List.mem_cons_of_mem _ hy))
    have hnk : k ≠ .cell := hn (n, k) List.mem_cons_self
    replace h : List.lookup x ((if (k == NameKind.free && env.scope.kind == .function && env.kindOf n == some .cell) = true then (n, NameKind.cell) else (n, k)) :: (r.map fun (n, k) => if (k == NameKind.free && env.scope.kind == .function && env.kindOf n == some .cell) then (n, NameKind.cell) else (n, k))) = some k' := h
    by_cases hc : (k == NameKind.free && env.scope.kind == .function && env.kindOf n == some .cell) = true
    · rw [if_pos hc] at h
      have hkf : k = .free := by
        have := (Bool.and_eq_true_iff.mp (Bool.and_eq_true_iff.mp hc).1).1
        simpa using this
      cases hx : x == n with
      | true =>
        have : x = n := by simpa using hx
        subst this
        rw [hkf]
        exact List.mem_cons_self
      | false =>
        simp only [List.lookup_cons, hx] at h
        exact List.mem_cons_of_mem _ (ih h hk)
    · rw [if_neg hc] at h
      cases hx : x == n with
      | true =>
        have : x = n := by simpa using hx
        subst this
        simp only [List.lookup_cons, hx] at h
        cases h
        rcases hk with z | z
        · exact absurd z hnk
        · rw [z]
          exact List.mem_cons_self
      | false =>
        simp only [List.lookup_cons, hx] at h
        exact List.mem_cons_of_mem _ (ih h hk)
def compCx (X : Cx) (scope : Scope) (C : Addr) (s0 : Shared) (H0 : Hp) (fp : List Addr) (Nc : List Str) : Cx where
  prog := X.prog
  w := X.w
  K := X.K
  mg := X.mg
  base := X.base
  A := X.A
  N := Nc
  s₀ := s0
  H₀ := H0
  env := compEnvC scope (clOf X.env.cells scope.names []) C X.env
  outer := X.stack
  stack := X.stack
  ex := fp
  fn := fun _ => false
  calm := true
  pn := []
  xe := fun _ _ => False
def compOk (sc out : Scope) : Bool :=
  (match sc.kind with | .function => true | _ => false) && sc.names.all fun y => match y.2 with
    | .cell => false
    | .free => (match out.names.lookup y.1 with | some .cell => true | some .free => true | _ => false)
    | .local => (match sc.names.lookup y.1 with | some .local => true | _ => false)
    | _ => true
def ixOk (sc : Scope) (N : List Str) : List Str → List (Option Nat) → Bool
  | [], [] => true
  | _ :: xs, none :: r => ixOk sc N xs r
  | x :: xs, some i :: r => (match N[i]? with | some y => decide (y = x) | none => false) && (match sc.names.lookup x with | some .free => true | _ => false) && ixOk sc N xs r
  | _, _ => false
def cSt (σ : St) : List (Option Nat) → St
  | [] => []
  | none :: r => none :: cSt σ r
  | some i :: r => (match σ[i]? with | some v => v | none => none) :: cSt σ r
theorem ixOk_len {sc : Scope} {N : List Str} : ∀ {xs : List Str} {ix : List (Option Nat)}, ixOk sc N xs ix = true → ix.length = xs.length
  | [], [], _ => rfl
  | [], _ :: _, h => by cases h
  | _ :: _, [], h => by cases h
  | _ :: xs, none :: r, h => by
    have h' : ixOk sc N xs r = true := h
    simp [ixOk_len h']
  | x :: xs, some i :: r, h => by
    have h' : ((match N[i]? with | some y => decide (y = x) | none => false) && (match sc.names.lookup x with | some .free => true | _ => false) && ixOk sc N xs r) = true := h
    simp [ixOk_len (Bool.and_eq_true_iff.mp h').2]
theorem cSt_len {σ : St} : ∀ (ix : List (Option Nat)), (cSt σ ix).length = ix.length
  | [] => rfl
  | none :: r => by simp [cSt, cSt_len r]
  | some i :: r => by simp [cSt, cSt_len r]
theorem cSt_get {sc : Scope} {N : List Str} {σ : St} : ∀ {xs : List Str} {ix : List (Option Nat)} {j : Nat} {x : Str} {v : V}, ixOk sc N xs ix = true → xs[j]? = some x → (cSt σ ix)[j]? = some (some v) →
    ∃ i : Nat, N[i]? = some x ∧ σ[i]? = some (some v) ∧ sc.names.lookup x = some .free
  | [], _, j, x, v, _, h, _ => by simp at h
  | _ :: _, [], j, x, v, h, _, _ => by cases h
  | _ :: xs, none :: r, 0, x, v, _, _, e => by simp [cSt] at e
  | _ :: xs, none :: r, j + 1, x, v, h, h1, e => by
    have h' : ixOk sc N xs r = true := h
    exact cSt_get (j := j) h' (by simpa using h1) (by simpa [cSt] using e)
  | y :: xs, some i :: r, 0, x, v, h, h1, e => by
    have h' : ((match N[i]? with | some z => decide (z = y) | none => false) && (match sc.names.lookup y with | some .free => true | _ => false) && ixOk sc N xs r) = true := h
    have h1' : y = x := by simpa using h1
    subst h1'
    obtain ⟨h2, _⟩ := Bool.and_eq_true_iff.mp h'
    obtain ⟨h3, h4⟩ := Bool.and_eq_true_iff.mp h2
    refine ⟨i, ?_, ?_, ?_⟩
    · cases q : N[i]? with
      | none => rw [q] at h3; cases h3
      | some z => rw [q] at h3; simp at h3; rw [h3]
    · cases q : σ[i]? with
      | none => simp [cSt, q] at e
      | some z => simp [cSt, q] at e; rw [e]
    · cases q : sc.names.lookup y with
      | none => rw [q] at h4; cases h4
      | some k => rw [q] at h4; cases k <;> first | rfl | cases h4
  | y :: xs, some i :: r, j + 1, x, v, h, h1, e => by
    have h' : ((match N[i]? with | some z => decide (z = y) | none => false) && (match sc.names.lookup y with | some .free => true | _ => false) && ixOk sc N xs r) = true := h
    exact cSt_get (j := j) (Bool.and_eq_true_iff.mp h').2 (by simpa using h1) (by simpa [cSt] using e)
def PIfs (X : Cx) (ifs : List Expr) (t : TT) : Prop :=
  ∀ (pins : List (Addr × Obj)) (s : Shared) (σ : St) (H : Hp) (Q : Bool → Hp → Prop), Inv X pins σ H s → t σ H Q →
    wpAny (model X.prog X.w) X.A (forIn ifs true fun c r => if r = true then do let ok ← isTrue c X.env (eval c X.env); pure (ForInStep.yield ok) else pure (ForInStep.yield r)) (TP X pins σ Q) X.xe s
def tYes : TT := fun _ H Q => Q true H
theorem pifs_nil {X : Cx} : PIfs X [] tYes := fun _ _ _ H _ I h => wpAny_tests_nil ⟨H, I, h⟩
def Agree (σ σ' : St) : Prop := σ'.length = σ.length ∧ ∀ (j : Nat) v, σ[j]? = some (some v) → σ'[j]? = some (some v)
theorem Agree.one (o o' : Option V) (σ : St) (h : o = none) : Agree (o :: σ) (o' :: σ) := ⟨rfl, fun j v e => by
  cases j with
  | zero => subst h; simp at e
  | succ j => simpa using e⟩
def CompW (J : It) (D : Addr) (g : TG) (tt : TT) (te : TE) (σ0 : St) (H0 : Hp) (Q : VK) : Prop :=
  ∃ W : Nat → Nat → List V → Hp → Prop, (∃ m, W 0 m [] H0) ∧ ∀ i m ys H2, W i m ys H2 → H2 D = some (.lst ys) ∧
    ((J.stop i H2 ∧ Q (.ref D) H2) ∨ (J.go i H2 ∧ ys.length < sizeLine ∧ ∃ (N : V → Hp → Prop) (N' : Hp → Prop),
      (∀ y H6, N y H6 → H6 D = some (.lst ys) ∧ ∃ m', m' < m ∧ W (i + 1) m' (ys ++ [y]) (upd H6 D (.lst (ys ++ [y])))) ∧ (∀ H5, N' H5 → ∃ m', m' < m ∧ W (i + 1) m' ys H5) ∧
      ∀ x H3, J.yld i H2 x H3 → g x σ0 H3 fun σ4 H4 => Agree σ0 σ4 ∧ tt σ4 H4 fun b H5 => if b = true then te σ4 H5 N else N' H5))
def tComp (ix : List (Option Nat)) (wi : TI) (g : TG) (tt : TT) (te : TE) : TE := fun σ H Q => wi σ H fun J H1 => ∀ D, H1 D = none → CompW J D g tt te (cSt σ ix) (upd H1 D (.lst [])) Q
section
variable {X : Cx} {tg iter elt : Expr} {ifs : List Expr} {scope : Scope} {pos : Pos} {pins : List (Addr × Obj)} {σ : St} {H : Hp} {s : Shared}
theorem compOk_kind (ok : compOk scope X.env.scope = true) : scope.kind = .function := by
  have h := (Bool.and_eq_true_iff.mp ok).1
  cases e : scope.kind <;> rw [e] at h <;> first | rfl | cases h
theorem compOk_all (ok : compOk scope X.env.scope = true) : ∀ y ∈ scope.names, (match y.2 with
    | .cell => false
    | .free => (match X.env.scope.names.lookup y.1 with | some .cell => true | some .free => true | _ => false)
    | .local => (match scope.names.lookup y.1 with | some .local => true | _ => false)
    | _ => true) = true := List.all_eq_true.mp (Bool.and_eq_true_iff.mp ok).2
theorem compOk_cell (ok : compOk scope X.env.scope = true) : ∀ y ∈ scope.names, y.2 ≠ .cell := fun y hy e => by
  have h := compOk_all ok y hy
  rw [e] at h
  cases h
theorem compOk_local (ok : compOk scope X.env.scope = true) : ∀ y ∈ scope.names, y.2 = .local → scope.names.lookup y.1 = some .local := fun y hy e => by
  have h := compOk_all ok y hy
  rw [e] at h
  dsimp only at h
  cases q : scope.names.lookup y.1 with
  | none => rw [q] at h; cases h
  | some k => rw [q] at h; cases k <;> first | rfl | cases h
theorem compOk_free (ok : compOk scope X.env.scope = true) : ∀ y ∈ scope.names, y.2 = .free → X.env.kindOf y.1 = some .cell ∨ X.env.kindOf y.1 = some .free := fun y hy e => by
  have h := compOk_all ok y hy
  rw [e] at h
  dsimp only at h
  show X.env.scope.names.lookup y.1 = _ ∨ X.env.scope.names.lookup y.1 = _
  cases q : X.env.scope.names.lookup y.1 with
  | none => rw [q] at h; cases h
  | some k => rw [q] at h; cases k <;> first | exact .inl rfl | exact .inr rfl | cases h
theorem comp_cells (I : Inv X pins σ H s) (ok : compOk scope X.env.scope = true) : ∀ y ∈ scope.names, y.2 = .free → ∃ c, X.env.cells.lookup y.1 = some c := fun y hy e => I.ok.has y.1 (compOk_free ok y hy e)
theorem comp_cl (I : Inv X pins σ H s) (ok : compOk scope X.env.scope = true) {x : Str} {c : Addr} (h : (clOf X.env.cells scope.names []).lookup x = some c) : X.env.cells.lookup x = some c := by
  rcases clOf_get _ _ (comp_cells I ok) h with q | q
  · simp at q
  · exact q
theorem comp_inv {C : Addr} {fp : List Addr} {Nc : List Str} {ix : List (Option Nat)} {h1 : Heap} {tk : Nat} {m : Str → Option Value} (I : Inv X pins σ H s) (hc : X.calm = true) (ok : compOk scope X.env.scope = true) (hix : ixOk scope X.N Nc ix = true)
    (hfp : ∀ b ∈ fp, FpOk X pins H b ∧ b < s.heap.objs.size) (hC : C = s.heap.objs.size) (hns : h1.Ns C m) (hk : ∀ b o, s.heap.get? b = some o → h1.get? b = some o) :
    Inv (compCx X scope C s H fp Nc) [] (cSt σ ix) H { s with heap := h1, toks := tk } := by
  have lt : ∀ b o, s.heap.get? b = some o → b ≠ C := fun b o e => by rw [hC]; exact Nat.ne_of_lt (Heap.lt_size e)
  have nfs : ∀ b ∈ fp, b ∉ frs X.stack := fun b hb z => by
    obtain ⟨f1, f2, f3, _⟩ := (hfp b hb).1
    rcases List.mem_cons.mp (I.stkSub b z) with q | q
    · exact f2 q
    · exact f3 q
  refine ⟨⟨I.ok.mod, (compOk_kind (X := X) (scope := scope) ok), I.ok.glob, I.ok.blt, Nat.le_of_eq hC.symm, fun x y c e1 e2 => I.ok.inj x y c (comp_cl I ok e1) (comp_cl I ok e2), fun x hx => ?_, (fun _ _ z => nomatch z), fun _ => I.ok.hd hc, I.ok.frames, .inl rfl, fun b hb => ⟨?_, fun x c e => ?_⟩, I.bs, Nat.le_trans I.ok.bsz I.sz, fun b o e hb => ?_, nfs, I.stack, I.stkFree⟩,
    rfl, I.bare, Un.kept hk, ⟨m, hns, fun i x v e1 e2 e3 => ?_⟩, fun x c e => ?_, ?_, fun x c e => I.freeC x c (comp_cl I ok e), (fun p hp => by cases hp), I.hok.kept hk, ?_⟩
  · -- has
    have hmem : (x, NameKind.free) ∈ scope.names := by
      rcases hx with hx | hx
      · exact relabel_back (env := X.env) (compOk_cell ok) hx (.inl rfl)
      · exact relabel_back (env := X.env) (compOk_cell ok) hx (.inr rfl)
    have q := clOf_has (cells := X.env.cells) scope.names [] (x := x) (.inl hmem)
    exact Option.isSome_iff_exists.mp q
  · rw [show (compCx X scope C s H fp Nc).env.locals = C from rfl, hC]
    exact Nat.ne_of_lt (hfp b hb).2
  · exact (hfp b hb).1.2.2.2.2.1 x c (comp_cl I ok e)
  · obtain ⟨_, _, _, f4, _⟩ := (hfp b hb).1
    rcases f4 with z | z
    · exact I.ok.noex b o e z
    · exact absurd (Nat.lt_of_lt_of_le (Heap.lt_size e) (Nat.le_trans I.ok.bsz z)) (Nat.lt_irrefl _)
  · obtain ⟨j, n1, n2, n3⟩ := cSt_get hix e1 e2
    have hmem : (x, NameKind.free) ∈ scope.names := mem_of_lookup n3
    have hkind := compOk_free ok (x, .free) hmem rfl
    obtain ⟨mX, _, hl⟩ := I.loc
    have hvis : Vis X.env.scope x := .inr hkind
    obtain ⟨u, r, l⟩ := hl j x v n1 n2 hvis
    refine ⟨u, r, ?_⟩
    rcases l with ⟨k1, _⟩ | ⟨_, c, e, z⟩
    · rcases hkind with q | q
      · rw [q] at k1; cases k1
      · rw [q] at k1; cases k1
    · refine .inr ⟨relabel_free n3, c, ?_, ?_⟩
      · have q := clOf_has (cells := X.env.cells) scope.names [] (x := x) (.inl hmem)
        obtain ⟨c', hc'⟩ := Option.isSome_iff_exists.mp q
        have := comp_cl I ok hc'
        rw [e] at this
        cases this
        exact hc'
      · obtain ⟨o, ho, hd⟩ := z
        exact ⟨o, hk c o ho, hd⟩
  · obtain ⟨v, o, ho, hd⟩ := I.cell x c (comp_cl I ok e)
    exact ⟨v, o, hk c o ho, hd⟩
  · rw [show (compCx X scope C s H fp Nc).env.locals = C from rfl, hC]
    exact I.hok.fresh (Nat.le_refl _)
  · rw [cSt_len, ixOk_len hix]
    rfl
theorem comp_run {g : TG} {tt : TT} {te : TE} {Nc : List Str} {ix : List (Option Nat)} {it : Addr} {fp : List Addr} {tn : Nat → Heap → Prop} {J : It} {Q : VK} {E : Value → Shared → Prop} {RR : Value → Addr → Result → Shared → Prop}
    (I : Inv X pins σ H s) (hc : X.calm = true) (ok : compOk scope X.env.scope = true) (hix : ixOk scope X.N Nc ix = true)
    (hg : ∀ C s0 H0 fp, PG (compCx X scope C s0 H0 fp Nc) tg g) (ht : ∀ C s0 H0 fp, PIfs (compCx X scope C s0 H0 fp Nc) ifs tt) (he : ∀ C s0 H0 fp, PE (compCx X scope C s0 H0 fp Nc) elt te)
    (T : Turn X.prog X.w X.K tg J fp it tn) (t0 : tn 0 s.heap) (f0 : ∀ b ∈ fp, FpOk X pins H b)
    (h : ∀ D, H D = none → CompW J D g tt te (cSt σ ix) (upd H D (.lst [])) Q)
    (hRR : ∀ D C s' H' m, Inv X pins σ H' s' → s'.heap.Ns C m → H' C = none → X.s₀.heap.objs.size ≤ C → C ≠ X.env.locals → (∀ x c, X.env.cells.lookup x = some c → c ≠ C) → (∀ p ∈ X.pn ++ pins, p.1 ≠ C) → Q (.ref D) H' → RR (.ref D) C (.ok .next) s') :
    wpAny (model X.prog X.w) X.A (newList []) (fun acc s3 => wpAny (model X.prog X.w) X.A (newFunctionEnv scope X.env.globals (clOf X.env.cells scope.names []) [] X.env.qual none .none (some X.env)) (fun cenv s4 =>
      codeAny (model X.prog X.w) X.A (.compStart (.ListComp elt [⟨tg, iter, ifs, 0⟩] scope pos) 0 (.ref it) acc { cenv with scope := relabel scope X.env }) (RR acc cenv.locals) s4) E s3) E s := by
  have hD : H s.heap.objs.size = none := I.fresh
  obtain ⟨W, ⟨m0, w0⟩, turn⟩ := h _ hD
  refine wpAny_newList ?_
  have I0 := I.lnew (its := []) (ys := []) (t' := s.toks) .nil (Nat.zero_le _)
  have hold : ∀ b o, s.heap.get? b = some o → (s.heap.push { cls := .type "list", data := .seq ([] : List Value).toArray }).get? b = some o := fun b o e => Heap.get?_push_of_some _ e
  have f0' : ∀ b ∈ fp, FpOk X pins (upd H s.heap.objs.size (.lst [])) b ∧ b < (s.heap.push { cls := .type "list", data := .seq ([] : List Value).toArray }).objs.size := fun b hb => by
    obtain ⟨o, ho, _⟩ := T.obj _ _ t0 b hb
    have hlt := Heap.lt_size ho
    refine ⟨⟨?_, (f0 b hb).2⟩, Heap.lt_size (hold b o ho)⟩
    rw [upd_ne (Nat.ne_of_lt hlt)]
    exact (f0 b hb).1
  have t0' : tn 0 (s.heap.push { cls := .type "list", data := .seq ([] : List Value).toArray }) := T.keep _ _ _ t0 fun b hb o e => hold b o e
  clear f0 t0 I
  generalize hs0 : ({ s with heap := s.heap.push { cls := .type "list", data := .seq ([] : List Value).toArray }, toks := s.toks } : Shared) = s0 at I0
  have es0 : s0.heap = s.heap.push { cls := .type "list", data := .seq ([] : List Value).toArray } := by rw [← hs0]
  rw [← es0] at f0' t0'
  generalize s.heap.objs.size = D at *
  generalize upd H D (.lst []) = H0 at *
  refine wpAny_newFunctionEnv (compOk_cell ok) (by intro y hy; simp at hy) (fun h1 hns1 hsb1 => ?_) (compOk_kind ok)
  generalize hCe : s0.heap.objs.size = C at hns1 hsb1
  have hk1 : ∀ b o, s0.heap.get? b = some o → h1.get? b = some o := fun b o e => hsb1.extBut b o (by rw [← hCe]; exact Nat.ne_of_lt (Heap.lt_size e)) (Heap.get?_push_of_some _ e)
  have IC := comp_inv (C := C) (fp := fp) (Nc := Nc) (ix := ix) (h1 := h1) (tk := s0.toks + ([] : List (Str × Value)).length) I0 hc ok hix f0' hCe.symm hns1 hk1
  have t1 : tn 0 h1 := T.keep _ _ _ t0' fun b hb o e => hk1 b o e
  have fpx : ∀ {H' : Hp} {pl : List (Addr × Obj)}, (∀ p ∈ pl, p.1 ∉ fp) → (∀ b ∈ fp, H' b = none) → ∀ b ∈ fp, FpOk (compCx X scope C s0 H0 fp Nc) pl H' b := fun {H' pl} hpl hn b hb =>
    ⟨hn b hb, (IC.ok.exf b hb).1, IC.ok.exfs b hb, .inl hb, (IC.ok.exf b hb).2, fun p hp e => hpl p (by simpa [compCx] using hp) (e ▸ hb)⟩
  have loop : ∀ s1 : Shared, s1 = { s0 with heap := h1, toks := s0.toks + ([] : List (Str × Value)).length } →
      codeAny (model X.prog X.w) X.A (.compLoop (.ListComp elt [⟨tg, iter, ifs, 0⟩] scope pos) 0 (.ref it) (.ref D) (compCx X scope C s0 H0 fp Nc).env) (RR (.ref D) C) s1 := by
    rintro s1 rfl
    refine compLoop_any (fun n s' => ∃ i ys H', Inv (compCx X scope C s0 H0 fp Nc) [] (cSt σ ix) H' s' ∧ tn i s'.heap ∧ (∀ b ∈ fp, H' b = none) ∧ W i n ys H') ?_ m0 ⟨0, [], _, IC, t1, fun b hb => (f0' b hb).1.1, w0⟩
    rintro n s3 ⟨i, ys, H3, I3, st3, fr3, w3⟩
    obtain ⟨hD3, alt⟩ := turn i n ys H3 w3
    rcases alt with ⟨stop, qn⟩ | ⟨go, hlen, N, N', hN, hN', step⟩
    · refine thn (T.done (compCx X scope C s0 H0 fp Nc) rfl rfl rfl rfl i [] s3 _ H3 (fun _ _ => False) I3 (fpx (fun p hp => by cases hp) fr3) st3 stop) fun r s4 ⟨hr, I4⟩ => ?_
      subst hr
      have J4 : Inv X pins σ H3 s4 := I0.call' (s' := s4) (ch := fp) I4.os I4.base I4.hok I4.bare fun b hb => ⟨(f0' b hb).1.2.2.2.1, (f0' b hb).1.2.1, (f0' b hb).1.2.2.2.2.1, (f0' b hb).1.2.2.2.2.2⟩
      obtain ⟨m4, hn4, _⟩ := I4.loc
      exact hRR D C s4 H3 m4 J4 hn4 I4.free (by rw [← hCe]; exact I0.sz) (by rw [← hCe]; exact (Nat.ne_of_lt I0.lt).symm)
        (fun x c e z => by
          obtain ⟨_, o, ho, _⟩ := I0.cell x c e
          have := Heap.lt_size ho
          rw [z, ← hCe] at this
          exact Nat.lt_irrefl _ this)
        (fun p hp z => by
          have := Heap.lt_size (I0.pin p hp).1
          rw [z, ← hCe] at this
          exact Nat.lt_irrefl _ this) qn
    · refine thn (T.item (compCx X scope C s0 H0 fp Nc) rfl rfl rfl rfl i [] s3 _ H3 (fun _ _ => False) I3 (fpx (fun p hp => by cases hp) fr3) st3 go) fun r s4 ⟨u, hr, h4⟩ => ?_
      subst hr
      refine thn h4 fun _ s5 ⟨x, H5, I5, r5, y5, st5, fr5⟩ => ?_
      have I5' := I5.pinned (fpx (fun p hp => by cases hp) fr5) (T.obj _ _ st5)
      refine thn (hg C s0 H0 fp _ s5 _ H5 x u _ I5' r5 (step x H5 y5)) fun _ s6 ⟨σ6, H6, I6, hag, q6⟩ => ?_
      refine thn (ht C s0 H0 fp _ s6 σ6 H6 _ I6 q6) fun ok7 s7 ⟨H7, I7, q7⟩ => ?_
      have again : ∀ {H8 : Hp} {s8 : Shared} {zs : List V} {m' : Nat}, Inv (compCx X scope C s0 H0 fp Nc) ([] ++ pinsAt fp s5.heap) σ6 H8 s8 → m' < n → W (i + 1) m' zs H8 →
          ∃ m, m < n ∧ ∃ i ys H', Inv (compCx X scope C s0 H0 fp Nc) [] (cSt σ ix) H' s8 ∧ tn i s8.heap ∧ (∀ b ∈ fp, H' b = none) ∧ W i m ys H' := fun {H8 s8 zs m'} I8 hm w8 => by
        refine ⟨m', hm, i + 1, zs, H8, I8.unpinned.weak hag.1.symm hag.2, T.keep _ _ _ st5 fun b hb o e => (I8.pin (b, o) (List.mem_append_right _ (List.mem_append_right _ (mem_pinsAt hb e)))).1, fun b hb => ?_, w8⟩
        obtain ⟨o, e, d⟩ := T.obj _ _ st5 b hb
        exact (I8.pin (b, o) (List.mem_append_right _ (List.mem_append_right _ (mem_pinsAt hb e)))).2.1
      cases ok7 with
      | false =>
        rw [if_neg Bool.false_ne_true] at q7 ⊢
        obtain ⟨m', hm, w7⟩ := hN' _ q7
        exact again I7 hm w7
      | true =>
        rw [if_pos rfl] at q7 ⊢
        refine thn (he C s0 H0 fp _ s7 σ6 H7 _ I7 q7) fun y s8 ⟨yv, H8, I8, r8, q8⟩ => ?_
        obtain ⟨hD8, m', hm, w8⟩ := hN _ _ q8
        refine thn (mt_append (X := compCx X scope C s0 H0 fp Nc) _ s8 σ6 H8 (.ref D) [yv] (.ref D) [y] (fun v H9 => v = .non ∧ H9 = upd H8 D (.lst (ys ++ [yv]))) I8 rfl (.cons r8 .nil) ⟨D, ys, yv, rfl, rfl, hD8, hlen, rfl, rfl⟩) fun _ s9 ⟨v9, H9, I9, _, _, e9⟩ => ?_
        subst e9
        exact again I9 hm w8
  exact codeAny_compStart_list (loop _ rfl) (T.self X.A 0 _ _ _ t1 (loop _ rfl))
theorem pe_comp {wi : TI} {g : TG} {tt : TT} {te : TE} (Nc : List Str) (ix : List (Option Nat)) (hc : X.calm = true) (ok : compOk scope X.env.scope = true) (hix : ixOk scope X.N Nc ix = true)
    (hi : PI X tg iter wi) (hg : ∀ C s0 H0 fp, PG (compCx X scope C s0 H0 fp Nc) tg g) (ht : ∀ C s0 H0 fp, PIfs (compCx X scope C s0 H0 fp Nc) ifs tt) (he : ∀ C s0 H0 fp, PE (compCx X scope C s0 H0 fp Nc) elt te)
    (hs : ∀ x, foldedSetIterable iter X.env x = pure x := by intro _; rfl) : PE X (.ListComp elt [⟨tg, iter, ifs, 0⟩] scope pos) (tComp ix wi g tt te) := by
  intro pins s σ H Q I h
  rw [eval_ListComp]
  refine wpAny_comprehension_free (use := none) rfl hs (closureFor_clOf (comp_cells I ok)) (compOk_kind ok) (compOk_local ok) (thn (hi pins s σ H _ I h) fun xv s1 h1 => thn h1 fun itv s2 h2 => ?_)
  obtain ⟨it, fp, tn, J, H2, rfl, I2, T, st2, f2, q2⟩ := h2
  exact comp_run (RR := fun acc C => compPost (model X.prog X.w) X.A X.xe none (EP X pins σ Q) acc C) I2 hc ok hix hg ht he T st2 f2 q2
    (fun D C s' H' m J' hn hC h1 h2 h3 h4 q => ⟨m, hn, fun h' hs' => ⟨.ref D, H', J'.turned (t' := s'.toks) (fun b o nb e => hs'.extBut b o nb e) hC h2 (.inr h1) h3 h4, rfl, q⟩⟩)
theorem ps_setC {wi : TI} {g : TG} {tt : TT} {te : TE} {i : Nat} {y : Str} {py spos : Pos} (hN : X.N.Nodup) (hy : X.N[i]? = some y) (hx : Loc X.env.scope y) (Nc : List Str) (ix : List (Option Nat)) (hc : X.calm = true) (ok : compOk scope X.env.scope = true) (hix : ixOk scope X.N Nc ix = true)
    (hi : PI X tg iter wi) (hg : ∀ C s0 H0 fp, PG (compCx X scope C s0 H0 fp Nc) tg g) (ht : ∀ C s0 H0 fp, PIfs (compCx X scope C s0 H0 fp Nc) ifs tt) (he : ∀ C s0 H0 fp, PE (compCx X scope C s0 H0 fp Nc) elt te)
    (hs : ∀ x, foldedSetIterable iter X.env x = pure x := by intro _; rfl)
    (hsw : swapsWith (.ListComp elt [⟨tg, iter, ifs, 0⟩] scope pos) (some (.Name y py)) spos.line X.env = pure true := by rfl) (hf : X.fn y = true ∨ X.env.scope.names.lookup y = some .local := by first | exact .inl rfl | exact .inr rfl | assumption) :
    PS X (.Assign [.Name y py] (.ListComp elt [⟨tg, iter, ifs, 0⟩] scope pos) spos) (tAsg (tComp ix wi g tt te) (gName i)) := by
  intro pins s σ H Dn I h
  rw [exec_Assign_Name_used _ _ _ _ hsw]
  refine wpAny_bind (wpAny_standAt (wpAny_bind ?_))
  show wpAny _ X.A (do let _ ← comprehension (.ListComp elt [⟨tg, iter, ifs, 0⟩] scope pos) scope X.env _ (newList []) false (eval iter X.env) (some (assign (.Name y py) X.env))) _ _ s
  refine wpAny_bind (wpAny_mono (wpAny_comprehension_free (use := some (assign (.Name y py) X.env)) (Q := fun _ s' => SP X pins Dn .next s') rfl hs (closureFor_clOf (comp_cells I ok)) (compOk_kind ok) (compOk_local ok)
    (thn (hi pins s σ H _ I h) fun xv s1 h1 => thn h1 fun itv s2 h2 => ?_)) (fun _ s' hq => wpAny_pure (wpAny_pure hq)) fun _ _ e => e)
  obtain ⟨it, fp, tn, J, H2, rfl, I2, T, st2, f2, q2⟩ := h2
  refine comp_run (RR := fun acc C => compPost (model X.prog X.w) X.A X.xe (some (assign (.Name y py) X.env)) (fun _ s' => SP X pins Dn .next s') acc C) I2 hc ok hix hg ht he T st2 f2 q2
    (fun D C s' H' m J' hn hC h1 h2 h3 h4 q => ?_)
  show wpAny _ X.A (assign (.Name y py) X.env (.ref D)) _ _ _
  refine wpAny_assign_Name (store_ok2 J' hN hy hx (v := .ref D) rfl (fun s'' J'' ⟨a, hsb, ha⟩ => ⟨m, hn.sameBut hsb ?_, fun h' hs' => ⟨_, H', J''.turned (t' := s''.toks) (fun b o nb e => hs'.extBut b o nb e) hC h2 (.inr h1) h3 h4, q⟩⟩) hf)
  rcases ha with ha | ha
  · rw [ha]
    exact h2
  · exact (h3 _ _ ha).symm
end
def Keep (D : Addr) (H H' : Hp) : Prop := ∀ b o, b ≠ D → H b = some o → H' b = some o
theorem Same.keep {H H' : Hp} (h : Same H H') (D : Addr) : Keep D H H' := fun b o _ e => h b o e
theorem Keep.upd {H : Hp} {D : Addr} {o : HO} : Keep D H (upd H D o) := fun b u n e => by rw [upd_ne n]; exact e
theorem Same.upd {H : Hp} {D : Addr} {o : HO} (h : H D = none) : Same H (upd H D o) := fun b u e => by rw [upd_ne (ne_of_none e h)]; exact e
theorem Same.updT {H H' : Hp} {D : Addr} {o : HO} (s : Same H H') (h : H D = none) : Same H (L2.upd H' D o) := fun b u e => by rw [upd_ne (ne_of_none e h)]; exact s b u e
theorem comp1 {J : It} {D : Addr} {te : TE} {σf : St} {H1 : Hp} {Q : VK} (n : Nat) (xv : Nat → V) (R : Nat → V → Hp → Prop) (hn : n < sizeLine) (hD1 : H1 D = none)
    (hgo : ∀ i H, i < n → Same H1 H → J.go i H) (hst : ∀ H, Same H1 H → J.stop n H) (hy : ∀ i H x H', i < n → Same H1 H → J.yld i H x H' → x = xv i ∧ H' = H)
    (mono : ∀ i y H H', Keep D H H' → R i y H → R i y H')
    (hs : ∀ i H ys (N : VK), i < n → Same H1 H → H D = some (.lst ys) → (∀ y H', Same H H' → R i y H' → N y H') → te (some (xv i) :: σf) H N)
    (hd : ∀ ys H, Same H1 H → H D = some (.lst ys) → ys.length = n → (∀ (i : Nat) y, ys[i]? = some y → R i y H) → Q (.ref D) H) : CompW J D (gName 0) tYes te (none :: σf) (upd H1 D (.lst [])) Q := by
  refine ⟨fun i m ys H => i ≤ n ∧ m = n - i ∧ Same H1 H ∧ H D = some (.lst ys) ∧ ys.length = i ∧ ∀ j y, ys[j]? = some y → R j y H, ⟨n, Nat.zero_le _, rfl, Same.upd hD1, upd_same, rfl, fun j y e => by simp at e⟩, ?_⟩
  rintro i m ys H ⟨hi, rfl, s1, d1, l1, r1⟩
  refine ⟨d1, ?_⟩
  by_cases hlt : i < n
  · refine .inr ⟨hgo i H hlt s1, by rw [l1]; exact Nat.lt_trans hlt hn, fun y H' => Same H H' ∧ R i y H', fun _ => False, fun y H6 q => ?_, fun _ z => z.elim, fun x H' y => ?_⟩
    · obtain ⟨s6, r6⟩ := q
      refine ⟨s6 _ _ d1, n - (i + 1), by omega, hlt, rfl, (s1.trans s6).updT hD1, upd_same, by simp [l1], fun j z e => ?_⟩
      by_cases hj : j < ys.length
      · rw [List.getElem?_append_left hj] at e
        exact mono _ _ _ _ Keep.upd (mono _ _ _ _ (s6.keep D) (r1 j z e))
      · have hj' : j = ys.length := by
          have := (List.getElem?_eq_some_iff.mp e).1
          simp at this
          omega
        subst hj'
        simp at e
        subst e
        rw [l1]
        exact mono _ _ _ _ Keep.upd r6
    · obtain ⟨rfl, rfl⟩ := hy i H x H' hlt s1 y
      refine ⟨Agree.one _ _ _ rfl, ?_⟩
      show if true = true then te (some (xv i) :: σf) H' (fun y H'' => Same H' H'' ∧ R i y H'') else False
      rw [if_pos rfl]
      exact hs i H' ys _ hlt s1 d1 fun y H6 a b => ⟨a, b⟩
  · obtain rfl : i = n := Nat.le_antisymm hi (Nat.not_lt.mp hlt)
    exact .inl ⟨hst H s1, hd ys H s1 d1 l1 r1⟩
theorem comp_range {lo : Int} {n : Nat} {D : Addr} {te : TE} {σf : St} {H1 : Hp} {Q : VK} (R : Nat → V → Hp → Prop) (hz : n < sizeLine) (hD1 : H1 D = none)
    (mono : ∀ i y H H', Keep D H H' → R i y H → R i y H')
    (hs : ∀ (i : Nat) H ys (N : VK), i < n → Same H1 H → H D = some (.lst ys) → (∀ y H', Same H H' → R i y H' → N y H') → te (some (.int (lo + i)) :: σf) H N)
    (hd : ∀ ys H, Same H1 H → H D = some (.lst ys) → ys.length = n → (∀ (i : Nat) y, ys[i]? = some y → R i y H) → Q (.ref D) H) : CompW (Itr lo n) D (gName 0) tYes te (none :: σf) (upd H1 D (.lst [])) Q :=
  comp1 n (fun i => .int (lo + i)) R hz hD1 (fun i H hi _ => hi) (fun H _ => Nat.le_refl _) (fun i H x H' hi s y => ⟨y.2, y.1⟩) mono hs hd
end L2
set_option Elab.async false
set_option linter.all false
set_option maxRecDepth 100000
set_option maxHeartbeats 4000000
namespace L2
open PySem PySem.Spec PyProof.Rows
def CBig (i j : Int) : Prop := (-(10 ^ 200) < i ∧ i < 10 ^ 200) ∧ (-(10 ^ 200) < j ∧ j < 10 ^ 200)
def CDivB (i j : Int) : Prop := 0 < j ∧ j < 10 ^ 200
theorem big_pow : (10 : Nat) ^ 200 ≤ 2 ^ 700 := by decide +kernel
theorem big_abs {i : Int} (h : -(10 ^ 200) < i ∧ i < 10 ^ 200) : i.natAbs < 2 ^ 700 := by
  have h1 : i.natAbs < 10 ^ 200 := by
    have e : ((10 ^ 200 : Nat) : Int) = (10 : Int) ^ 200 := by simp
    have : (i.natAbs : Int) < ((10 ^ 200 : Nat) : Int) := by rw [e]; omega
    exact Int.ofNat_lt.mp this
  exact Nat.lt_of_lt_of_le h1 big_pow
theorem CBig.ok {i j : Int} (h : CBig i j) : IntMulOk i j := IntMulOk.of_le (m := 700) (n := 700) (intBits_le_iff.mpr (big_abs h.1)) (intBits_le_iff.mpr (big_abs h.2)) (by decide)
section
variable {X : Cx}
theorem op_mulW : OpR X (binaryOp .Mult) (rI CBig fun i j => .int (i * j)) := opI fun _ _ _ _ _ _ _ hc q => mul_int q hc.ok
theorem op_fdivW : OpR X (binaryOp .FloorDiv) (rI CDivB fun i j => .int (i / j)) := opI fun i j _ _ _ _ _ hc q => by
  have h1 : (0 : Int) < j := hc.1
  have h2 : j.natAbs < 2 ^ 700 := big_abs ⟨by have := hc.2; omega, hc.2⟩
  refine floordiv_int (by omega) (by rw [Int.fdiv_eq_ediv_of_nonneg i (by omega)]; exact q) (.inl (PyProof.noPylong_of_log2 ?_))
  have h3 : j.natAbs.log2 < 700 := (Nat.log2_lt (by omega)).mpr h2
  omega
end
structure Src (K : PySem.W.Frag) (mg : Str → Option Value) (x qual : Str) (st : Stmt) : Prop where
  ex : ∃ f fd, Fun K x qual st f fd ∧ mg x = some (.ref f)
theorem src_mk {K : PySem.W.Frag} {h : Heap} {mg : Str → Option Value} {x qual : Str} {st : Stmt} {f : Addr} {oc : Value} {od an : Option Addr} {osl : Array (Option Value)} {kV doc pm cdv ct : Value} (X : K.In h) (G : h.Ns mainGlobals mg)
    (a : PySem.W.nsIn K mainGlobals x = some (some (.ref f))) (l : K.lookup f = some ⟨oc, od, .func (PySem.W.fnOf x qual (defArgs st) (defBody st) (defScope st) .none kV doc pm an cdv ct), osl⟩)
    (c : PySem.W.codeIn K cdv qual = true) (k : PySem.W.keepIn K (.ref f) = true) : Src K mg x qual st := ⟨f, _, fun_mk l c k, PySem.W.mg_of X G a⟩
structure Def (P : Program) (w : World) (K : PySem.W.Frag) (mg : Str → Option Value) (base : Heap) (k : Nat) (x : Str) (ps : List Str) (sp : Sp) : Prop where
  ex : ∃ f fd, mg x = some (.ref f) ∧ PySem.W.keepIn K (.ref f) = true ∧ Binds K fd ps [] ∧ FnOk P w K mg base CX0 k f fd ps sp ∧ ∃ oc od osl, K.lookup f = some ⟨oc, od, .func fd, osl⟩
section
variable {P : Program} {w : World} {K : PySem.W.Frag} {mg : Str → Option Value} {base : Heap}
theorem Src.mk' {x qual : Str} {st : Stmt} {N ps : List Str} {k : Nat} {sp : Sp} (S : Src K mg x qual st) (Sc : FnScope N ps (defScope st)) (len : ∀ vs H Q E, sp vs H Q E → vs.length = ps.length)
    (hb : ∀ (kV doc pm : Value) (an : Option Addr) (cdv ct : Value) (us : List Value), us.length = ps.length → bindArgs (PySem.W.fnOf x qual (defArgs st) (defBody st) (defScope st) .none kV doc pm an cdv ct) ⟨us, []⟩ = pure (ps.zip us))
    (hbody : ∀ (f : Addr) (cdv : Value) (A : Around) (outer : List Env) (s : Shared) (H : Hp) (vs : List V) (Q : VK) (E : XK), Room k (A.deeper (envOfC qual (defScope st) s.heap.objs.size f cdv)) → sp vs H Q E →
      ∃ t, PSs (cxOf CX0 P w K mg base N qual (defScope st) f cdv A outer s H E).nox (defBody st) t ∧ t { nx := fun _ H' => Q .non H', rt := Q } (start N vs) H) : Def P w K mg base (k + 1) x ps sp := by
  obtain ⟨f, fd, F, hm⟩ := S.ex
  obtain ⟨oc, od, _, _, _, _, _, _, osl, _, lk, _⟩ := F.ex
  exact ⟨f, fd, hm, F.kp, F.binds hb, F.ok Sc len (hbody f), oc, od, osl, lk⟩
theorem law_fd {x p : Str} {st : Stmt} {k : Nat} {sp : Sp} {fa : Addr} (S : Src K mg x x st)
    (hb : ∀ (kV doc pm : Value) (an : Option Addr) (cdv ct : Value) (u : Value), bindArgs (PySem.W.fnOf x x (defArgs st) (defBody st) (defScope st) .none kV doc pm an cdv ct) ⟨[u], []⟩ = pure [(p, u)])
    (h : ∀ base, Def P w K mg base k x [p] sp) (hfa : mg x = some (.ref fa)) :
    ∃ fd : FuncData, (∀ (s : Shared) (u : Value), BindsTo s fd ⟨[u], []⟩ [(p, u)]) ∧ ∀ base : Heap, K.In base → base.Ns mainGlobals mg → FnOk P w K mg base CX0 k fa fd [p] sp := by
  obtain ⟨f, fd, F, hm⟩ := S.ex
  rw [hm] at hfa
  cases hfa
  obtain ⟨oc, od, kV, doc, pm, an, cdv, ct, osl, e, lk, hcd⟩ := F.ex
  refine ⟨fd, fun s u => by subst e; exact .of_eq (hb kV doc pm an cdv ct u), fun base _ _ => ?_⟩
  obtain ⟨f', fd', hm', _, _, G, oc', od', osl', lk'⟩ := (h base).ex
  rw [hm] at hm'
  cases hm'
  rw [lk] at lk'
  cases lk'
  exact G
end
section
variable {X : Cx} {k : Nat} {x : Str} {ps : List Str} {sp : Sp} {p pos : Pos} {e : Expr} {es : List Expr} {t : TA}
theorem pe_def (D : Def X.prog X.w X.K X.mg X.base k x ps sp) (hr : Room k X.A) (hg : Gl X x) (ha : PA X (e :: es) t) (hdb : (x == ("__debug__" : Str)) = false := by decide) (he : starEach (e :: es) X.env = (false, eval e X.env) :: starEach es X.env := by rfl)
    (hpl : (backTo pos (starEach es X.env)).any (·.1) = false := by rfl) : PE X (.Call (.Name x p) (e :: es) [] pos) (tCall sp [] E0 t) := by
  obtain ⟨f, fd, hm, hk, hb, F, _⟩ := D.ex
  exact pe_call F hr hg hm hk hb .nil pass0 ha hdb he hpl
end
section
variable {X : Cx}
def rIs (K : PySem.W.Frag) : List V → Hp → VK → Prop := fun xs H Q => ∃ x n t b, xs = [x, .ty n] ∧ TyOf K H x t ∧ PySem.W.kitOne K t (.type n) = some b ∧ Q (.bl b) H
theorem call_isinst : CallR X (.builtin "isinstance") (rIs X.K) := by
  intro pins s σ H xs us Q I r h
  obtain ⟨x, n, t, b, rfl, ty, e, q⟩ := h
  obtain ⟨u, u2, rfl, ru, r2⟩ := vals2 r
  have e2 : u2 = Value.type n := r2
  subst e2
  exact isinst_ok I ru ty e fun tk => ⟨.bl b, H, I.tok tk, rfl, q⟩
theorem boot_len' : bootBuiltins "len" = some (.builtin "len") := by decide +kernel
theorem boot_isinstance' : bootBuiltins "isinstance" = some (.builtin "isinstance") := by decide +kernel
theorem boot_all' : bootBuiltins "all" = some (.builtin "all") := by decide +kernel
theorem boot_bool' : bootBuiltins "bool" = some (.type "bool") := by decide +kernel
theorem boot_int' : bootBuiltins "int" = some (.type "int") := by decide +kernel
theorem boot_str' : bootBuiltins "str" = some (.type "str") := by decide +kernel
theorem boot_list' : bootBuiltins "list" = some (.type "list") := by decide +kernel
theorem boot_tuple' : bootBuiltins "tuple" = some (.type "tuple") := by decide +kernel
theorem boot_abs' : bootBuiltins "abs" = some (.builtin "abs") := by decide +kernel
theorem boot_enumerate' : bootBuiltins "enumerate" = some (.type "enumerate") := by decide +kernel
theorem kit_same (K : PySem.W.Frag) (n : String) : PySem.W.kitOne K (.type n) (.type n) = some true := by
  unfold PySem.W.kitOne
  rw [if_pos (beq_self_eq_true _)]
end
def Ite (K : PySem.W.Frag) (a : Addr) : It :=
  ⟨fun i H => ∃ xs x, SqL K H a xs ∧ xs[i]? = some x, fun i H x H' => ∃ T, H T = none ∧ x = .ref T ∧ ∀ xs, SqL K H a xs → ∃ v, xs[i]? = some v ∧ H' = upd H T (.tup [.int i, v]), fun i H => ∃ xs, SqL K H a xs ∧ xs.length ≤ i⟩
theorem Inv.turnNew {X : Cx} {pins : List (Addr × Obj)} {σ : St} {H : Hp} {s : Shared} {e it T : Addr} {h' : Heap} {xs : List V} {t' : Nat} (I : Inv X pins σ H s) (k : ∀ b o, b ≠ e → b ≠ it → s.heap.get? b = some o → h'.get? b = some o) (fe : FpOk X pins H e) (fi : FpOk X pins H it)
    (hT : T = s.heap.objs.size) (new : ObjOk X.prog X.w (upd H T (.tup xs)) h' T (.tup xs)) : Inv X pins σ (upd H T (.tup xs)) { s with heap := h', toks := t' } := by
  have hn : H T = none := by rw [hT]; exact I.fresh
  have nT : ∀ b o, s.heap.get? b = some o → b ≠ T := fun b o e => by rw [hT]; exact Nat.ne_of_lt (Heap.lt_size e)
  have nch : ∀ b, b ∉ [e, it] → b ≠ e ∧ b ≠ it := fun b h => ⟨fun z => h (by simp [z]), fun z => h (by simp [z])⟩
  refine I.step (g' := s.gens) (d' := s.drawn) (ch := [e, it]) (fun b hb => ?_) (fun b o _ _ hc q _ => k b o (nch b hc).1 (nch b hc).2 q) (fun b o _ _ hc q _ => ⟨o.slots, k b o (nch b hc).1 (nch b hc).2 q⟩) (fun b o _ q n => by rw [upd_ne (nT b o q)]; exact n)
    (fun b o hc q => ⟨o, k b o (nch b hc).1 (nch b hc).2 q⟩) (fun b ys q => by rw [upd_ne (ne_of_none q hn)]; exact q) (fun b o u q => by rw [upd_ne (ne_of_none q hn)]; exact q) (fun b ps q => ⟨#[], by rw [upd_ne (ne_of_none q hn), q]; simp⟩) (fun m hm => ?_) (fun b u q => ?_) I.bare
  · rcases List.mem_cons.mp hb with z | hb
    · subst z
      exact ⟨fe.2.2.2.1, fe.2.1, fe.2.2.2.2.1, fe.2.2.2.2.2⟩
    · have z : b = it := by simpa using hb
      subst z
      exact ⟨fi.2.2.2.1, fi.2.1, fi.2.2.2.2.1, fi.2.2.2.2.2⟩
  · obtain ⟨o, es, ep, ho, r⟩ := hm
    exact ⟨o, es, ep, k _ o (Ne.symm fe.2.1) (Ne.symm fi.2.1) ho, r⟩
  · by_cases hb : b = T
    · subst hb
      rw [upd_same] at q
      cases q
      exact new
    · rw [upd_ne hb] at q
      have ne : ∀ c u, H c = some u → c ≠ e ∧ c ≠ it := fun c u z => ⟨fun w => (by rw [w, fe.1] at z; cases z), fun w => (by rw [w, fi.1] at z; cases z)⟩
      refine (I.hok b u q).stay (fun c v hc z => ?_) (fun c z => by rw [upd_ne (ne_of_none z hn)]; exact z) fun c ys z => by rw [upd_ne (ne_of_none z hn)]; exact z
      rcases hc with w | w
      · rw [w] at z ⊢
        exact k b v (ne b u q).1 (ne b u q).2 z
      · exact k c v (ne c _ w).1 (ne c _ w).2 z
theorem turn_enum {P : Program} {w : World} {K : PySem.W.Frag} {elts : List Expr} {tk : Nat} {tp : Pos} (a e it : Addr) (hne : e ≠ it) :
    Turn P w K (.Tuple elts tk tp) (Ite K a) [e, it] e (fun i h => (∃ old, IsEnum h e it (i : Nat) old) ∧ h.IsListIter it a i) where
  mem := by simp
  obj := fun i h st b hb => by
    obtain ⟨⟨old, he⟩, hit⟩ := st
    rcases List.mem_cons.mp hb with z | hb
    · subst z
      exact ⟨_, he, fun v z => by
        have z' : Data.fields _ = Data.cell v := z
        cases z'⟩
    · have z : b = it := by simpa using hb
      subst z
      obtain ⟨o, e, c, d⟩ := hit
      exact ⟨o, e, fun v z => by rw [d] at z; cases z⟩
  keep := fun i h h' st k => by
    obtain ⟨⟨old, he⟩, hit⟩ := st
    exact ⟨⟨old, k e (by simp) _ he⟩, hit.at fun o x => k it (by simp) o x⟩
  item := by
    intro X hP hw hK hc i pins s σ H E I hf st hg
    subst hP hw hK
    obtain ⟨⟨old, he⟩, hit⟩ := st
    obtain ⟨xs, x, hq, hx⟩ := hg
    obtain ⟨its, rv, p, hz⟩ := I.list hq
    obtain ⟨u, hu, ru⟩ := rv.get hx
    refine wpAny_pyNext_enum_item he hit p.isList (x := u) (by simpa using hu) hne fun h' heo hit' hT hsz hk => ?_
    refine ⟨_, rfl, wpAny_letOwnedTupleGo_enum heo fun h2 he2 hs2 => ?_⟩
    have helt : e < s.heap.objs.size := Heap.lt_size he
    have hT2 : h2.get? s.heap.objs.size = some { cls := .type "tuple", data := .seq #[.int i s.toks, u] } := (hs2.2 _ (Nat.ne_of_gt helt)).trans hT
    have I2 : Inv X pins σ (upd H s.heap.objs.size (.tup [.int i, x])) { s with heap := h2, toks := s.toks + 1 } :=
      I.turnNew (e := e) (it := it) (fun b o h1 h3 q => (hs2.2 b h1).trans (hk b o h1 h3 q)) (hf e (by simp)) (hf it (by simp)) rfl
        ⟨by show 2 ≤ sizeLine; rw [sizeLine_eq]; decide, [.int i s.toks, u], .cons ⟨_, rfl⟩ (.cons ru .nil), ⟨_, hT2, rfl, _, rfl⟩⟩
    refine ⟨.ref s.heap.objs.size, _, I2, rfl, ⟨_, I.fresh, rfl, fun ys hy => ⟨x, by rw [I.list_inj hy hq]; exact hx, rfl⟩⟩, ⟨⟨u, ?_⟩, hit'.at fun o q => (hs2.2 it hne.symm).trans q⟩, fun b hb => ?_⟩
    · have e1 : ((i + 1 : Nat) : Int) = (i : Int) + 1 := by simp
      rw [e1]
      exact he2
    · obtain ⟨o, ho, _⟩ : ∃ o, s.heap.get? b = some o ∧ True := by
        rcases List.mem_cons.mp hb with z | hb
        · subst z
          exact ⟨_, he, trivial⟩
        · have z : b = it := by simpa using hb
          subst z
          obtain ⟨o, q, _⟩ := hit
          exact ⟨o, q, trivial⟩
      rw [upd_ne (Nat.ne_of_lt (Heap.lt_size ho))]
      exact (hf b hb).1
  done := by
    intro X hP hw hK hc i pins s σ H E I hf st hg
    subst hP hw hK
    obtain ⟨⟨old, he⟩, hit⟩ := st
    obtain ⟨xs, hq, hx⟩ := hg
    obtain ⟨its, rv, p, hz⟩ := I.list hq
    obtain ⟨f0, f1, f2, f3, f4, f5⟩ := hf it (by simp)
    have hl := rv.length
    exact wpAny_pyNext_enum_end (I.ok.hd hc) he hit p.isList (by simp; omega) fun h' eb => ⟨rfl, I.turned (t' := s.toks) (fun b o hb e => eb b o hb e) f0 f1 f3 f4 f5⟩
  self := fun A i s Q E st h => by
    obtain ⟨⟨old, he⟩, _⟩ := st
    exact wpAny_pyIter_enum he h
section
variable {X : Cx}
def iEnum (K : PySem.W.Frag) (ta : TA) : TI := fun σ H R => ta σ H fun vs H1 => ∃ a, vs = [.ref a] ∧ (∃ xs, SqL K H1 a xs) ∧ R (Ite K a) H1
theorem pi_enum {l : Expr} {ta : TA} {p pos tp : Pos} {elts : List Expr} {tk : Nat} (hg : Gl X "enumerate") (hm : X.mg "enumerate" = none) (ha : PA X [l] ta) (hs : starEach [l] X.env = [(false, eval l X.env)] := by rfl) :
    PI X (.Tuple elts tk tp) (.Call (.Name "enumerate" p) [l] [] pos) (iEnum X.K ta) := by
  intro pins s σ H R I h
  refine Call_ (ld_blt I hg hm boot_enumerate' (PyProof.Rows.callWith_type1 (thn (ha pos pins s σ H _ I h) fun us s1 ⟨vs, H1, I1, r1, q1⟩ => ?_) hs rfl))
  obtain ⟨a, e, ⟨xs, hq⟩, q⟩ := q1
  subst e
  cases r1 with
  | cons r rr =>
    cases rr
    obtain rfl := r
    obtain ⟨its, rv, pl, hz⟩ := I1.list hq
    refine call_enumerate_list pl.isList fun h' he hit hsz hk => ?_
    refine wpAny_pyIter_enum he ?_
    refine ⟨s1.heap.objs.size + 1, [s1.heap.objs.size + 1, s1.heap.objs.size], _, _, H1, rfl, I1.kept (t' := s1.toks) hk, turn_enum a _ _ (Nat.succ_ne_self _), ⟨⟨_, he⟩, hit⟩, fun b hb => ?_, q⟩
    have hle : s1.heap.objs.size ≤ b := by
      rcases List.mem_cons.mp hb with z | hb
      · rw [z]; exact Nat.le_succ _
      · have z : b = s1.heap.objs.size := by simpa using hb
        rw [z]
        exact Nat.le_refl _
    exact I1.fpOk hle (I1.hok.fresh hle)
end
theorem for_enum {K : PySem.W.Frag} {a : Addr} {xs : List V} {g : TG} {tb : TS} {D : Ends} {σ : St} {H : Hp} (Pv : Nat → St → Hp → Prop) (h0 : Pv 0 σ H) (hl : ∀ i σ H, i ≤ xs.length → Pv i σ H → SqL K H a xs)
    (hs : ∀ i x σ H T, xs[i]? = some x → Pv i σ H → H T = none → g (.ref T) σ (upd H T (.tup [.int i, x])) fun σ2 H2 => tb { D with nx := Pv (i + 1), ct := Pv (i + 1), bk := D.nx } σ2 H2) (hd : ∀ σ H, Pv xs.length σ H → D.nx σ H) :
    ∃ W : Nat → Nat → St → Hp → Prop, (∃ m, W 0 m σ H) ∧ ∀ i m σ H, W i m σ H →
      ((Ite K a).stop i H ∧ D.nx σ H) ∨ ((Ite K a).go i H ∧ ∃ N : St → Hp → Prop, (∀ σ' H', N σ' H' → ∃ m', m' < m ∧ W (i + 1) m' σ' H') ∧ ∀ x H', (Ite K a).yld i H x H' → g x σ H' fun σ2 H2 => tb { D with nx := N, ct := N, bk := D.nx } σ2 H2) := by
  refine ⟨fun i m σ H => m = xs.length - i ∧ i ≤ xs.length ∧ Pv i σ H, ⟨xs.length, by simp, Nat.zero_le _, h0⟩, ?_⟩
  rintro i m σ H ⟨rfl, hi, p⟩
  have q := hl i σ H hi p
  by_cases hlt : i < xs.length
  · refine .inr ⟨⟨xs, xs[i], q, by simp [hlt]⟩, Pv (i + 1), fun σ' H' p' => ⟨xs.length - (i + 1), by omega, rfl, hlt, p'⟩, fun x H' y => ?_⟩
    obtain ⟨T, hT, rfl, y⟩ := y
    obtain ⟨v, hv, rfl⟩ := y xs q
    exact hs i v σ H T hv p hT
  · obtain rfl : i = xs.length := by omega
    exact .inl ⟨⟨xs, q, Nat.le_refl _⟩, hd σ H p⟩
end L2
namespace L2
open PySem PySem.Spec PyProof.Rows
theorem len_small {n : Nat} (h : n ≤ 1000) : n ≤ sizeLine := Nat.le_of_lt (small1000 h)
theorem atI_int {α : Type} {xs : List α} {z : Int} (j : Nat) {v : α} (hz : z = (j : Int)) (h : xs[j]? = some v) : atI xs z = some v := by
  subst hz
  exact atI_nat h
end L2
namespace L2
open PySem PySem.Spec PyProof.Rows
structure New (H : Hp) (p : Addr) (o : HO) (H' : Hp) : Prop where
  same : Same H H'
  none : H p = Option.none
  at_ : H' p = some o
theorem new_upd {H : Hp} {p : Addr} {o : HO} (h : H p = Option.none) : New H p o (upd H p o) := ⟨Same.upd h, h, upd_same⟩
section
variable {X : Cx} {es : List Expr} {t : TA} {pos : Pos}
def tTup' (t : TA) : TE := fun σ H Q => t σ H fun xs H1 => xs.length ≤ sizeLine ∧ ∀ p H', New H1 p (.tup xs) H' → Q (.ref p) H'
def tLst' (t : TA) : TE := fun σ H Q => t σ H fun xs H1 => xs.length ≤ sizeLine ∧ ∀ p H', New H1 p (.lst xs) H' → Q (.ref p) H'
theorem OpR.imp {f : Value → Value → Sem Value} {r r' : R2} (h : OpR X f r) (i : ∀ x y H Q, r' x y H Q → r x y H Q) : OpR X f r' := fun pins s σ H x y v u Q I rx ry q => h pins s σ H x y v u Q I rx ry (i _ _ _ _ q)
theorem SlR.imp {r r' : V → Option Int → Option Int → Hp → VK → Prop} (h : SlR X r) (i : ∀ x l u H Q, r' x l u H Q → r x l u H Q) : SlR X r' := fun pins s σ H x v vl vu lo hi sl Q I rx hs pl pu q => h pins s σ H x v vl vu lo hi sl Q I rx hs pl pu (i _ _ _ _ _ q)
def rSlL' (K : PySem.W.Frag) : V → Option Int → Option Int → Hp → VK → Prop := fun x lo hi H Q => ∃ a xs, x = .ref a ∧ SqL K H a xs ∧ ∀ p H', New H p (.lst (cutV xs lo hi)) H' → Q (.ref p) H'
theorem sl_list' : SlR X (rSlL' X.K) := sl_list.imp fun x l u H Q ⟨a, xs, e, h, q⟩ => ⟨a, xs, e, h, fun p hp => q p _ (new_upd hp)⟩
def rCat' : R2 := fun x y H Q => ∃ l b xs zs, x = .ref l ∧ y = .ref b ∧ H l = some (.lst xs) ∧ H b = some (.lst zs) ∧ xs.length + zs.length ≤ sizeLine ∧ ∀ p H', New H p (.lst (xs ++ zs)) H' → Q (.ref p) H'
theorem op_cat' : OpR X (binaryOp .Add) rCat' := op_cat.imp fun x y H Q ⟨l, b, xs, zs, e1, e2, h1, h2, hz, q⟩ => ⟨l, b, xs, zs, e1, e2, h1, h2, hz, fun p hp => q p _ (new_upd hp)⟩
theorem pe_tup' {x1} (h : PA X es t) : PE X (.Tuple es x1 pos) (tTup' t) := by
  intro pins s σ H Q I hq
  refine wpAny_Tuple_spliced (thn (h pos pins s σ H _ I hq) fun us s1 ⟨xs, H1, I1, r, z, q⟩ => ⟨by rw [← r.length]; exact z, ?_⟩)
  refine ⟨.ref s1.heap.objs.size, _, I1.laid (t' := s1.toks) (o := .tup xs) (fun b u e => Heap.get?_push_of_some _ e) (Nat.le_refl _) ?_, rfl, q _ _ (new_upd I1.fresh)⟩
  exact ⟨z, us, r, ⟨_, Heap.get?_push_size _ rfl, rfl, _, rfl⟩⟩
theorem pe_lst' (h : PA X es t) : PE X (.List es pos) (tLst' t) := by
  intro pins s σ H Q I hq
  refine wpAny_List_spliced (thn (h pos pins s σ H _ I hq) fun us s1 ⟨xs, H1, I1, r, z, q⟩ => ⟨by rw [← r.length]; exact z, ?_⟩)
  refine ⟨.ref s1.heap.objs.size, _, I1.laid (t' := s1.toks) (o := .lst xs) (fun b u e => Heap.get?_push_of_some _ e) (Nat.le_refl _) ?_, rfl, q _ _ (new_upd I1.fresh)⟩
  exact ⟨z, us, 0, r, Heap.get?_push_size _ rfl⟩
end
end L2
set_option Elab.async false
set_option linter.all false
set_option maxRecDepth 100000
set_option maxHeartbeats 4000000
namespace L2
open PySem PySem.Spec PyProof.Rows
theorem kit_ib (K : PySem.W.Frag) : PySem.W.kitOne K (.type "int") (.type "bool") = some false := by kernel_rfl
section
variable {X : Cx}
end
end L2
namespace L2
open PySem PySem.Spec PyProof.Rows
section
variable {X : Cx} {K : PySem.W.Frag}
theorem ix_seqK (h : X.K = K) : IxR X (rIx K) := h ▸ ix_seq
theorem sl_listK (h : X.K = K) : SlR X (rSlL' K) := h ▸ sl_list'
def rLen (K : PySem.W.Frag) : List V → Hp → VK → Prop := fun xs H Q => ∃ p ys, xs = [.ref p] ∧ (SqL K H p ys ∨ SqT K H p ys) ∧ Q (.int ys.length) H
theorem call_lenK (h : X.K = K) : CallR X (.builtin "len") (rLen K) := h ▸ call_len_seq
theorem call_isinstK (h : X.K = K) : CallR X (.builtin "isinstance") (rIs K) := h ▸ call_isinst
theorem op_in_seqK (h : X.K = K) : OpR X (compareOp .In) (rIn K false) := h ▸ op_in_seq
theorem pi_enumK {l : Expr} {ta : TA} {p pos tp : Pos} {elts : List Expr} {tk : Nat} (h : X.K = K) (hg : Gl X "enumerate") (hm : X.mg "enumerate" = none) (ha : PA X [l] ta) (hs : starEach [l] X.env = [(false, eval l X.env)] := by rfl) :
    PI X (.Tuple elts tk tp) (.Call (.Name "enumerate" p) [l] [] pos) (iEnum K ta) := h ▸ pi_enum hg hm ha hs
theorem pg_tupK {es : List Expr} {k : Nat} {t : TGs} {n : Nat} {pos : Pos} (hK : X.K = K) (hc : X.calm = true) (h : PGs X es t)
    (hn : (assignEach es X.env).length = n := by rfl) (hst : (assignEach es X.env).findIdx? (·.1) = none := by rfl) : PG X (.Tuple es k pos) (gTup K n t) := hK ▸ pg_tup hc h hn hst
theorem pe_bmK {o e : Expr} {es : List Expr} {to : TE} {t : TA} {name : Str} {apos cpos : Pos} {T id : String} {r : V → List V → Hp → VK → Prop} (h : X.K = K) (pa : PlainAttrs T) (slot : Slot T name id) (hty : typeOf (.builtin id) = pure (.type "method_descriptor")) (hm : MtR X id r) (ho : PE X o to) (ha : PA X (e :: es) t)
    (hbase : attributeBase o name X.env (eval o X.env) = eval o X.env := by rfl)
    (hfew : ((backTo cpos (starEach (e :: es) X.env)).all (fun x => !x.1) && (backToKw cpos (keywordEach [] X.env)).all (fun x => x.1.isSome) && decide ((e :: es).length + ([] : List Keyword).length + (if ([] : List Keyword).isEmpty then 0 else 1) < 30)) = true := by rfl)
    (hline : (apos.endLine == cpos.line) = true := by rfl) (hs : starEach (e :: es) X.env = (false, eval e X.env) :: starEach es X.env := by rfl) (hplain : (backTo cpos (starEach es X.env)).any (·.1) = false := by rfl) :
    PE X (.Call (.Attribute o name apos) (e :: es) [] cpos) (tBM K T r to t) := by
  subst h
  exact pe_bm pa slot hty hm ho ha hbase hfew hline hs hplain
end
end L2
set_option Elab.async false
set_option linter.all false
set_option maxRecDepth 100000
set_option maxHeartbeats 4000000
namespace L2
open PySem PySem.Spec PyProof.Rows
abbrev cod (x : Str) : List Nat := x.cps.toList
theorem cod_len (x : Str) : (cod x).length = x.length := by simp [cod, Str.length]
theorem cod_app (a b : Str) : cod (a ++ b) = cod a ++ cod b := by
  show (a.cps ++ b.cps).toList = _
  simp [cod]
theorem cod_ext {a b : Str} (h : cod a = cod b) : a = b := PyProof.Rows.ext_toList h
def cutC (xs : List Nat) (lo hi : Option Int) : List Nat := (xs.drop (HT.sIx xs.length 0 lo)).take (HT.sIx xs.length xs.length hi - HT.sIx xs.length 0 lo)
theorem clip_str (n d : Nat) (i : Int) : max (0 : Int) (min (if i < 0 then i + (n : Int) else i) (n : Int)) = ((HT.sIx n d (some i) : Nat) : Int) := by
  show _ = (((if i < 0 then (i + (n : Int)).toNat else min i.toNat n) : Nat) : Int)
  by_cases h : i < 0
  · simp only [if_pos h]; omega
  · simp only [if_neg h]; omega
theorem strSlice_ix (lo hi : Option Int) (n : Nat) : Builtin.Str.strSliceIndices lo hi 1 n = (List.range (HT.sIx n n hi - HT.sIx n 0 lo)).map (HT.sIx n 0 lo + ·) := by
  rw [← sliceRange_one]
  unfold Builtin.Str.strSliceIndices
  simp only [show (1 : Int) > 0 by decide, if_true]
  cases lo with
  | none =>
    cases hi with
    | none => rfl
    | some j => rw [← clip_str n n j]; rfl
  | some i =>
    cases hi with
    | none => rw [← clip_str n 0 i]; rfl
    | some j => rw [← clip_str n n j, ← clip_str n 0 i]
theorem slice_cod (x : Str) (lo hi : Option Int) : cod (Txt.slice x lo hi) = cutC (cod x) lo hi := by
  have h2 := HT.sIx_le x.length x.length (Nat.le_refl _) hi
  unfold Txt.slice
  rw [strSlice_ix]
  split
  · rename_i h
    have hl : HT.sIx x.length x.length hi - HT.sIx x.length 0 lo = x.length := by simpa using h
    by_cases h0 : HT.sIx x.length 0 lo = 0
    · unfold cutC
      rw [cod_len, hl, h0, List.drop_zero, ← cod_len, List.take_length]
    · have : x.length = 0 := by omega
      have e : cod x = [] := List.eq_nil_of_length_eq_zero (by rw [cod_len]; exact this)
      unfold cutC
      rw [e]
      simp
  · show (List.filterMap (fun i => x.cps[i]?) _).toArray.toList = _
    rw [pick_run]
    unfold cutC
    rw [cod_len]
theorem cutC_length (xs : List Nat) (lo hi : Option Int) : (cutC xs lo hi).length ≤ xs.length := by
  unfold cutC
  rw [List.length_take, List.length_drop]
  omega
theorem cutC_to (xs : List Nat) (k : Nat) : cutC xs none (some (k : Int)) = xs.take k := by
  unfold cutC
  rw [HT.sIx_none, HT.sIx_nat, List.drop_zero, Nat.sub_zero]
  by_cases h : k ≤ xs.length
  · rw [Nat.min_eq_left h]
  · rw [Nat.min_eq_right (by omega), List.take_length, List.take_of_length_le (by omega)]
theorem cutC_from (xs : List Nat) (k : Nat) : cutC xs (some (k : Int)) none = xs.drop k := by
  unfold cutC
  rw [HT.sIx_none, HT.sIx_nat]
  by_cases h : k ≤ xs.length
  · rw [Nat.min_eq_left h, List.take_of_length_le (by rw [List.length_drop] <;> omega)]
  · rw [Nat.min_eq_right (by omega), List.drop_of_length_le (Nat.le_refl _), List.drop_of_length_le (by omega), List.take_nil]
section
variable {X : Cx}
def rSlS : V → Option Int → Option Int → Hp → VK → Prop := fun x lo hi H Q => ∃ z, x = .str z ∧ z.length ≤ sizeLine ∧ ∀ y, cod y = cutC (cod z) lo hi → Q (.str y) H
theorem sl_str : SlR X rSlS := by
  intro pins s σ H x v vl vu lo hi sl Q I rx hs pl pu h
  obtain ⟨z, rfl, hz, q⟩ := h
  obtain ⟨t, rfl⟩ := rx
  have hs' : ∃ l u, s.heap.IsSlice sl l u none ∧ l.map (·.1) = lo ∧ u.map (·.1) = hi := by
    obtain ⟨o, ho, hc, hd⟩ := hs
    cases pl with
    | none =>
      cases pu with
      | none => exact ⟨none, none, ⟨o, ho, hc, hd⟩, rfl, rfl⟩
      | int j tj => exact ⟨none, some (j, tj), ⟨o, ho, hc, hd⟩, rfl, rfl⟩
    | int i ti =>
      cases pu with
      | none => exact ⟨some (i, ti), none, ⟨o, ho, hc, hd⟩, rfl, rfl⟩
      | int j tj => exact ⟨some (i, ti), some (j, tj), ⟨o, ho, hc, hd⟩, rfl, rfl⟩
  obtain ⟨l, u, hS, e1, e2⟩ := hs'
  subst e1 e2
  refine ⟨"str", _, slot_str_getitem.lookup, typeIs_str _ _ _, ?_⟩
  refine wpAny_getItem_str_slice (st := none) hS rfl ?_
  have key := slice_cod z (l.map (·.1)) (u.map (·.1))
  have hle := Nat.le_trans (Txt.slice_le z (l.map (·.1)) (u.map (·.1))) hz
  exact post_val_or_str ⟨hle, fun t' k => ⟨.str _, H, I.tok k, ⟨_, rfl⟩, q _ key⟩⟩
def rZfill : V → List V → Hp → VK → Prop := fun x xs H Q => ∃ z i, x = .str z ∧ xs = [.int i] ∧ PadOk i = true ∧ Q (.str (Txt.zfill z i)) H
theorem mt_zfill : MtR X "str.zfill" rZfill := by
  intro pins s σ H x xs v us Q I rx r h
  obtain ⟨z, i, rfl, rfl, hp, q⟩ := h
  obtain ⟨t, rfl⟩ := rx
  obtain ⟨u, rfl, t', rfl⟩ := vals1 r
  exact SC.zfill hp fun t' k => ⟨.str _, H, I.tok k, ⟨_, rfl⟩, q⟩
theorem pe_gint {x : Str} {i : Int} {pos : Pos} (hg : Gl X x) (hm : ∃ v, X.mg x = some v ∧ ∃ t, v = .int i t) (hd : (x == ("__debug__" : Str)) = false := by decide) : PE X (.Name x pos) (tC (.int i)) := by
  obtain ⟨v, hm, t, rfl⟩ := hm
  exact pe_glob hg hm ⟨t, rfl⟩ hd
theorem pe_gstr {x y : Str} {pos : Pos} (hg : Gl X x) (hm : ∃ v, X.mg x = some v ∧ ∃ t, v = .str y t) (hd : (x == ("__debug__" : Str)) = false := by decide) : PE X (.Name x pos) (tC (.str y)) := by
  obtain ⟨v, hm, t, rfl⟩ := hm
  exact pe_glob hg hm ⟨t, rfl⟩ hd
abbrev TJ := St → Hp → List Nat → VK → Prop
def PJ (X : Cx) (es : List Expr) (t : TJ) : Prop :=
  ∀ (pins : List (Addr × Obj)) (s : Shared) (σ : St) (H : Hp) (acc : Str) (Q : VK), Inv X pins σ H s → t σ H (cod acc) Q → wpAny (model X.prog X.w) X.A (joinParts acc (evalEach es X.env)) (EP X pins σ Q) X.xe s
def jNil : TJ := fun _ H acc Q => acc.length ≤ sizeLine ∧ ∀ z, cod z = acc → Q (.str z) H
def jCons (te : TE) (tr : TJ) : TJ := fun σ H acc Q => te σ H fun x H1 => ∃ z, x = .str z ∧ acc.length + (cod z).length ≤ sizeLine ∧ tr σ H1 (acc ++ cod z) Q
theorem pj_nil : PJ X [] jNil := by
  intro pins s σ H acc Q I ⟨hz, q⟩
  refine joinParts_nil ⟨.str acc, H, I.tok _, ⟨_, rfl⟩, q acc rfl⟩ ?_
  rw [← cod_len]
  exact hz
theorem pj_cons {e : Expr} {es : List Expr} {te : TE} {tr : TJ} (he : PE X e te) (hr : PJ X es tr) (hs : evalEach (e :: es) X.env = eval e X.env :: evalEach es X.env := by rfl) : PJ X (e :: es) (jCons te tr) := by
  intro pins s σ H acc Q I h
  rw [hs]
  refine joinParts_cons (thn (he pins s σ H _ I h) fun u s1 ⟨x, H1, I1, r1, z, e1, hz, q⟩ => ?_)
  subst e1
  obtain ⟨t, rfl⟩ := r1
  rw [← cod_app] at q
  refine ⟨?_, hr pins s1 σ H1 _ Q I1 q⟩
  rw [← cod_len, cod_app, List.length_append]
  exact hz
def tFstr (t : TJ) : TE := fun σ H Q => t σ H [] Q
theorem pe_fstr {e1 e2 : Expr} {rest : List Expr} {t : TJ} {pos : Pos} (h : PJ X (e1 :: e2 :: rest) t) (hs : evalEach (e1 :: e2 :: rest) X.env = eval e1 X.env :: eval e2 X.env :: evalEach rest X.env := by rfl) : PE X (.JoinedStr (e1 :: e2 :: rest) pos) (tFstr t) := by
  intro pins s σ H Q I q
  refine JoinedStr_many ?_
  rw [← hs]
  exact h pins s σ H Str.empty Q I q
def tFmt (te : TE) : TE := fun σ H Q => te σ H fun x H1 => (∃ z, x = .str z ∧ z.length ≤ sizeLine ∧ Q (.str z) H1) ∨ (∃ i : Int, x = .int i ∧ i.natAbs.log2 < 1920 ∧ Q (.str (toString i)) H1)
theorem pe_fmt {e : Expr} {te : TE} {pos : Pos} (he : PE X e te) : PE X (.FormattedValue e (-1) none pos) (tFmt te) := by
  intro pins s σ H Q I h
  refine FormattedValue_plain (thn (he pins s σ H _ I h) fun u s1 ⟨x, H1, I1, r1, q⟩ => ?_)
  rcases q with ⟨z, rfl, hz, q⟩ | ⟨i, rfl, hi, q⟩
  · obtain ⟨t, rfl⟩ := r1
    exact formatField_str (fun t' tk => ⟨.str z, H1, I1.tok _, ⟨_, rfl⟩, q⟩) hz
  · obtain ⟨t, rfl⟩ := r1
    exact formatField_int_small hi ⟨.str _, H1, I1.tok _, ⟨_, rfl⟩, q⟩
end
def tJoinE (t : TE) : TE := fun σ H Q => ∃ N : VK, t σ H N ∧ ∀ v H', N v H' → Q v H'
theorem pe_join {X : Cx} {e : Expr} {t : TE} (h : PE X e t) : PE X e (tJoinE t) := by
  intro pins s σ H Q I q
  obtain ⟨N, q, hN⟩ := q
  refine thn (h pins s σ H _ I q) fun u s' ⟨v, H', I', r, n⟩ => ⟨v, H', I', r, hN v H' n⟩
theorem iteE {b : Bool} {A B : Prop} (e : b = false) (h : B) : if b = true then A else B := by
  rw [e]
  exact iteF h
theorem iteTr {b : Bool} {A B : Prop} (e : b = true) (h : A) : if b = true then A else B := by
  rw [e]
  exact iteT h
end L2
set_option Elab.async false
set_option linter.all false
set_option maxRecDepth 100000
set_option maxHeartbeats 4000000
namespace L2
open PySem PySem.Spec PyProof.Rows
theorem mul_bd {a b A B : Int} (a1 : -A ≤ a) (a2 : a ≤ A) (b1 : -B ≤ b) (b2 : b ≤ B) : -(A * B) ≤ a * b ∧ a * b ≤ A * B := by
  have hA : 0 ≤ A := by omega
  have hB : 0 ≤ B := by omega
  have h1 : (a.natAbs : Int) ≤ A := by omega
  have h2 : (b.natAbs : Int) ≤ B := by omega
  have h3 : ((a * b).natAbs : Int) ≤ A * B := by
    rw [Int.natAbs_mul, Int.natCast_mul]
    exact Int.mul_le_mul h1 h2 (Int.natCast_nonneg _) hA
  omega
theorem ixT {K : PySem.W.Frag} {H : Hp} {a : Addr} {xs : List V} {i : Int} {v : V} {Q : VK} (h : SqT K H a xs) (e : atI xs i = some v) (q : Q v H) : rIx K (.ref a) (.int i) H Q := .inr (.inl ⟨a, xs, i, v, rfl, rfl, h, e, q⟩)
theorem ixL {K : PySem.W.Frag} {H : Hp} {a : Addr} {xs : List V} {i : Int} {v : V} {Q : VK} (h : SqL K H a xs) (e : atI xs i = some v) (q : Q v H) : rIx K (.ref a) (.int i) H Q := .inl ⟨a, xs, i, v, rfl, rfl, h, e, q⟩
theorem ixInts {K : PySem.W.Frag} {H : Hp} {a : Addr} {ns : List Int} {i : Int} {Q : VK} (h : SqL K H a (ns.map V.int)) (h0 : 0 ≤ i) (h1 : i < ns.length) (q : ∀ z ∈ ns, Q (.int z) H) : rIx K (.ref a) (.int i) H Q := by
  have hi : i.toNat < ns.length := by omega
  refine ixL h (atI_int i.toNat (by omega) (v := .int ns[i.toNat]) (by simp [hi])) (q _ (List.getElem_mem hi))
theorem abs_nat (r : Int) : (if r < 0 then -r else r) = ((r.natAbs : Nat) : Int) := by
  split <;> omega
theorem int_at {ns : List Int} {i : Nat} {x : V} (hx : (ns.map V.int)[i]? = some x) : ∃ z, ns[i]? = some z ∧ x = .int z := by
  rw [List.getElem?_map] at hx
  cases e : ns[i]? with
  | none => rw [e] at hx; cases hx
  | some z => rw [e] at hx; exact ⟨z, rfl, (Option.some.inj hx).symm⟩
theorem cut_ints (ns : List Int) (lo hi : Option Int) : ∃ ms : List Int, cutV (ns.map V.int) lo hi = ms.map V.int ∧ ms.length ≤ ns.length := by
  refine ⟨(ns.drop (HT.sIx ns.length 0 lo)).take (HT.sIx ns.length ns.length hi - HT.sIx ns.length 0 lo), ?_, ?_⟩
  · unfold cutV
    rw [List.length_map, List.map_take, List.map_drop]
  · simp
    omega
def dec (m : Nat) : List Nat := (Nat.toDigits 10 m).map Char.toNat
def padz (k : Nat) (l : List Nat) : List Nat := List.replicate (k - l.length) 48 ++ l
theorem digit_code : ∀ d, d < 10 → (Nat.digitChar d).toNat = 48 + d := by decide
theorem dec_small {n : Nat} (h : n < 10) : dec n = [48 + n] := by
  unfold dec
  rw [Nat.toDigits_of_lt_base h]
  simp [digit_code n h]
theorem dec_big {n : Nat} (h : 10 ≤ n) : dec n = dec (n / 10) ++ [48 + n % 10] := by
  unfold dec
  rw [Nat.toDigits_of_base_le (by decide) h, List.map_append]
  simp [digit_code (n % 10) (Nat.mod_lt _ (by decide))]
theorem dec_two {r : Nat} (h : r < 100) : padz 2 (dec r) = [48 + r / 10, 48 + r % 10] := by
  by_cases h1 : r < 10
  · rw [dec_small h1]
    have e1 : r / 10 = 0 := by omega
    have e2 : r % 10 = r := by omega
    simp [padz, e1, e2]
  · rw [dec_big (by omega), dec_small (show r / 10 < 10 by omega)]
    simp [padz]
theorem dec_hund (n : Nat) : padz 3 (dec n) = dec (n / 100) ++ padz 2 (dec (n % 100)) := by
  rw [dec_two (Nat.mod_lt _ (by decide))]
  by_cases h1 : n < 10
  · rw [dec_small h1, show n / 100 = 0 by omega, dec_small (show 0 < 10 by decide)]
    have e1 : n % 100 / 10 = 0 := by omega
    have e2 : n % 100 % 10 = n := by omega
    simp [padz, e1, e2, List.replicate]
  · by_cases h2 : n < 100
    · rw [dec_big (by omega), dec_small (show n / 10 < 10 by omega), show n / 100 = 0 by omega, dec_small (show 0 < 10 by decide)]
      have e1 : n % 100 / 10 = n / 10 := by omega
      have e2 : n % 100 % 10 = n % 10 := by omega
      simp [padz, e1, e2, List.replicate]
    · rw [dec_big (show 10 ≤ n by omega), dec_big (show 10 ≤ n / 10 by omega)]
      have e0 : n / 10 / 10 = n / 100 := by omega
      have e1 : n % 100 / 10 = n / 10 % 10 := by omega
      have e2 : n % 100 % 10 = n % 10 := by omega
      rw [e0, e1, e2]
      have hl : 1 ≤ (dec (n / 100)).length := by
        by_cases h3 : n / 100 < 10
        · rw [dec_small h3]; simp
        · rw [dec_big (by omega)]; simp
      have hr : 3 - (dec (n / 100) ++ [48 + n / 10 % 10] ++ [48 + n % 10]).length = 0 := by simp; omega
      unfold padz
      rw [hr]
      simp
theorem dec_len (n : Nat) : 1 ≤ (dec n).length := by
  by_cases h3 : n < 10
  · rw [dec_small h3]; simp
  · rw [dec_big (by omega)]; simp
def sp_law (K : PySem.W.Frag) : Sp := fun vs H Q _ => ∃ (a : Addr) (ns : List Int), vs = [.ref a] ∧ SqL K H a (ns.map V.int) ∧ ns.length ≤ 63 ∧ ∀ H', Q (.bl true) H'
def sp_mixed : Sp := fun vs H Q _ => ∃ c k : Int, vs = [.int c, .int k] ∧ 0 ≤ k ∧ k ≤ 1000000 ∧ ∀ m : Int, 0 ≤ m → m < 2147483629 → Q (.int m) H
def sp_number : Sp := fun vs H Q _ => ∃ c k most : Int, vs = [.int c, .int k, .int most] ∧ 0 ≤ k ∧ k ≤ 1000000 ∧ 200 ≤ most ∧ most < 10 ^ 60 ∧
  ∀ (z : Int) (H' : Hp), -(max most (10 ^ 20)) ≤ z → z ≤ max most (10 ^ 20) → Same H H' → Q (.int z) H'
def sp_cell (K : PySem.W.Frag) : Sp := fun vs H Q _ => ∃ (a : Addr) (ns : List Int) (k : Int), vs = [.ref a, .int k] ∧ SqL K H a (ns.map V.int) ∧ 0 ≤ k ∧ ∀ z : Int, Q (.int z) H
def sp_whole : Sp := fun vs H Q _ => ∃ i : Int, vs = [.int i] ∧ Q (.bl true) H
theorem dec_le {n : Nat} : ∀ k, n < 10 ^ (k + 1) → (dec n).length ≤ k + 1 := by
  intro k
  induction k generalizing n with
  | zero => intro h; rw [dec_small (by omega)]; simp
  | succ k ih =>
    intro h
    by_cases h1 : n < 10
    · rw [dec_small h1]; simp
    · rw [dec_big (by omega), List.length_append]
      have : n / 10 < 10 ^ (k + 1) := by
        rw [Nat.pow_succ] at h
        omega
      have := ih this
      simp
      omega
theorem dec_codes (n : Nat) : ∀ c ∈ dec n, 48 ≤ c ∧ c ≤ 57 := by
  induction n using Nat.strongRecOn with
  | _ n ih =>
    intro c hc
    by_cases h1 : n < 10
    · rw [dec_small h1] at hc
      simp at hc
      omega
    · rw [dec_big (by omega)] at hc
      rcases List.mem_append.mp hc with h | h
      · exact ih (n / 10) (by omega) c h
      · simp at h
        omega
theorem cod_num {i : Int} (h : 0 ≤ i) : cod (Str.ofString (toString i)) = dec i.toNat := by
  obtain ⟨m, rfl⟩ := Int.eq_ofNat_of_zero_le h
  exact PySem.W.KIN.signs_num m
theorem log_small {i : Int} (h : -(10 ^ 200) < i ∧ i < 10 ^ 200) : i.natAbs.log2 < 1920 := by
  by_cases h0 : i.natAbs = 0
  · rw [h0]; decide
  · have := (Nat.log2_lt h0).mpr (big_abs h)
    omega
theorem zfill_cod {z : Str} {k : Nat} (h : ∀ c ∈ cod z, 48 ≤ c) : cod (Txt.zfill z (k : Int)) = padz k (cod z) := by
  unfold Txt.zfill padz
  by_cases hk : (k : Int) ≤ z.length
  · rw [if_pos hk, cod_len, show k - z.length = 0 by omega]
    rfl
  · rw [if_neg hk, cod_len, Int.toNat_natCast]
    have hpad : PySem.zfilled z (k - z.length) = Builtin.Str.padded z (k - z.length) 0 48 := by
      unfold PySem.zfilled
      cases e : z.cps[0]? with
      | none => rfl
      | some c =>
        have hc : 48 ≤ c := h c (by
          have : (cod z)[0]? = some c := by simpa [cod] using e
          exact List.mem_of_getElem? this)
        split
        · rename_i q; cases q; omega
        · rename_i q; cases q; omega
        · rfl
    rw [hpad]
    unfold Builtin.Str.padded
    simp [cod]
def wcod (n : Int) : List Nat := (if n < 0 then [45] else []) ++ (dec (n.natAbs / 100) ++ 46 :: padz 2 (dec (n.natAbs % 100)))
def sp_shown : Sp := fun vs H Q _ => ∃ n : Int, vs = [.int n] ∧ -(10 ^ 100) < n ∧ n < 10 ^ 100 ∧ ∀ z, cod z = wcod n → Q (.str z) H
theorem dec_abs_le {n : Int} (h1 : -(10 ^ 100) < n) (h2 : n < 10 ^ 100) : n.natAbs < 10 ^ 100 := by
  have e : ((10 ^ 100 : Nat) : Int) = (10 : Int) ^ 100 := by simp
  have : (n.natAbs : Int) < ((10 ^ 100 : Nat) : Int) := by rw [e]; omega
  exact Int.ofNat_lt.mp this
theorem wcod_len {n : Int} (h1 : -(10 ^ 100) < n) (h2 : n < 10 ^ 100) : (wcod n).length ≤ 110 := by
  have h := dec_abs_le h1 h2
  have a := dec_le (n := n.natAbs / 100) 99 (by omega)
  unfold wcod
  rw [dec_two (Nat.mod_lt _ (by decide))]
  split <;> simp <;> omega
theorem padz_len3 (n : Nat) (h : n < 10 ^ 100) : (padz 3 (dec n)).length ≤ 103 := by
  have a := dec_le (n := n) 99 h
  unfold padz
  simp
  omega
end L2
set_option Elab.async false
set_option linter.all false
set_option maxRecDepth 100000
set_option maxHeartbeats 4000000
namespace L2
open PySem PySem.Spec PyProof.Rows
section
variable {X : Cx} {K : PySem.W.Frag}
theorem Inv.moved {pins : List (Addr × Obj)} {σ : St} {H : Hp} {s s' : Shared} {o : Obj} (I : Inv X pins σ H s) (m : Moved [s.heap.objs.size] (fun a b => b = a) { s with heap := s.heap.push o } s') : Inv X pins σ H s' := by
  obtain ⟨h', g', d', t', os'⟩ := s'
  obtain ⟨m1, m2, m3, m4, m5⟩ := m
  have e1 : g' = s.gens := m2
  have e2 : d' = s.drawn := m3
  have e3 : os' = s.os := m4
  subst e1 e2 e3
  exact I.kept (t' := t') fun b u e => m1 b u (fun z => by
    have : b = s.heap.objs.size := by simpa using z
    exact absurd (Heap.lt_size e) (by rw [this]; exact Nat.lt_irrefl _)) (Heap.get?_push_of_some _ e)
def rAll (K : PySem.W.Frag) : List V → Hp → VK → Prop := fun xs H Q => ∃ (a : Addr) (bs : List Bool), xs = [.ref a] ∧ SqL K H a (bs.map V.bl) ∧ Q (.bl (bs.all id)) H
theorem range_all (bs : List Bool) : (List.range bs.length).all (fun i => bs.getD i false) = bs.all id := by
  rw [Bool.eq_iff_iff, List.all_eq_true, List.all_eq_true]
  constructor
  · intro h b hb
    obtain ⟨i, hi, rfl⟩ := List.mem_iff_getElem.mp hb
    have := h i (List.mem_range.mpr hi)
    simpa [hi] using this
  · intro h i hi
    have hi' := List.mem_range.mp hi
    have := h bs[i] (List.getElem_mem hi')
    simpa [hi'] using this
theorem call_allK (hK : X.K = K) (hc : X.calm = true) : CallR X (.builtin "all") (rAll K) := by
  subst hK
  intro pins s σ H xs us Q I r h
  obtain ⟨a, bs, rfl, hq, q⟩ := h
  obtain ⟨u, rfl, rx⟩ := vals1 r
  cases rx
  obtain ⟨its, rv, pl, hz⟩ := I.list hq
  have hl := rv.length
  have ha : a < s.heap.objs.size := by
    obtain ⟨o, n, e, _⟩ := pl
    exact Heap.lt_size e
  have hhd : X.A.in1.handled = none := I.ok.hd hc
  refine call_all_walkS (wpAny_pyIter_list pl.isList ?_)
  refine ⟨s.heap.objs.size, _, _, _, its.toArray.size, _, _, fun i => bs.getD i false, rfl, (Walks.list hhd s.heap.objs.size a (Nat.ne_of_lt ha) its.toArray).toS, ⟨⟨_, Heap.get?_push_size _ rfl, rfl, rfl⟩, pl.isList.push _⟩, ?_, ?_⟩
  · intro i v s1 Q1 E1 hv hQ
    have hv' : its[i]? = some v := by simpa using hv
    have hi : i < bs.length := by
      have := (List.getElem?_eq_some_iff.mp hv').1
      simp at hl
      omega
    obtain ⟨u, h1, h2⟩ := rv.get (i := i) (x := .bl bs[i]) (by simp [hi])
    rw [hv'] at h1
    cases h1
    have h2' : v = Value.bool bs[i] := h2
    subst h2'
    refine wpAny_truthy_bool ?_
    have e : bs.getD i false = bs[i] := by simp [hi]
    rw [← e]
    exact hQ
  · intro s' m
    refine ⟨.bl (bs.all id), H, I.moved m, ?_, q⟩
    have e : its.toArray.size = bs.length := by
      rw [List.size_toArray, ← hl]; simp
    rw [e, range_all]
    rfl
end
theorem Inv.turnNewL {X : Cx} {pins : List (Addr × Obj)} {σ : St} {H : Hp} {s : Shared} {fp : List Addr} {T : Addr} {h' : Heap} {xs : List V} {t' : Nat} (I : Inv X pins σ H s) (k : ∀ b o, b ∉ fp → s.heap.get? b = some o → h'.get? b = some o) (fe : ∀ b ∈ fp, FpOk X pins H b)
    (hT : T = s.heap.objs.size) (new : ObjOk X.prog X.w (upd H T (.tup xs)) h' T (.tup xs)) : Inv X pins σ (upd H T (.tup xs)) { s with heap := h', toks := t' } := by
  have hn : H T = none := by rw [hT]; exact I.fresh
  have nT : ∀ b o, s.heap.get? b = some o → b ≠ T := fun b o e => by rw [hT]; exact Nat.ne_of_lt (Heap.lt_size e)
  refine I.step (g' := s.gens) (d' := s.drawn) (ch := fp) (fun b hb => ?_) (fun b o _ _ hc q _ => k b o hc q) (fun b o _ _ hc q _ => ⟨o.slots, k b o hc q⟩) (fun b o _ q n => by rw [upd_ne (nT b o q)]; exact n)
    (fun b o hc q => ⟨o, k b o hc q⟩) (fun b ys q => by rw [upd_ne (ne_of_none q hn)]; exact q) (fun b o u q => by rw [upd_ne (ne_of_none q hn)]; exact q) (fun b ps q => ⟨#[], by rw [upd_ne (ne_of_none q hn), q]; simp⟩) (fun m hm => ?_) (fun b u q => ?_) I.bare
  · obtain ⟨f0, f1, f2, f3, f4, f5⟩ := fe b hb
    exact ⟨f3, f1, f4, f5⟩
  · obtain ⟨o, es, ep, ho, r⟩ := hm
    exact ⟨o, es, ep, k _ o (fun z => (fe _ z).2.1 rfl) ho, r⟩
  · by_cases hb : b = T
    · subst hb
      rw [upd_same] at q
      cases q
      exact new
    · rw [upd_ne hb] at q
      have ne : ∀ c u, H c = some u → c ∉ fp := fun c u z w => by rw [(fe c w).1] at z; cases z
      refine (I.hok b u q).stay (fun c v hc z => ?_) (fun c z => by rw [upd_ne (ne_of_none z hn)]; exact z) fun c ys z => by rw [upd_ne (ne_of_none z hn)]; exact z
      rcases hc with w | w
      · rw [w] at z ⊢
        exact k b v (ne b u q) z
      · exact k c v (ne c _ w) z
theorem Inv.turnedL {X : Cx} {pins : List (Addr × Obj)} {σ : St} {H : Hp} {s : Shared} {fp : List Addr} {h' : Heap} {t' : Nat} (I : Inv X pins σ H s) (k : ∀ b o, b ∉ fp → s.heap.get? b = some o → h'.get? b = some o) (fe : ∀ b ∈ fp, FpOk X pins H b) : Inv X pins σ H { s with heap := h', toks := t' } := by
  have ne : ∀ c u, H c = some u → c ∉ fp := fun c u z w => by rw [(fe c w).1] at z; cases z
  refine I.step (g' := s.gens) (d' := s.drawn) (ch := fp) (fun b hb => ?_) (fun b o _ _ hc q _ => k b o hc q) (fun b o _ _ hc q _ => ⟨o.slots, k b o hc q⟩) (fun b o _ q n => n)
    (fun b o hc q => ⟨o, k b o hc q⟩) (fun b ys q => q) (fun b o u q => q) (fun b ps q => ⟨#[], by rw [q]; simp⟩) (fun m hm => ?_) (fun b u q => ?_) I.bare
  · obtain ⟨f0, f1, f2, f3, f4, f5⟩ := fe b hb
    exact ⟨f3, f1, f4, f5⟩
  · obtain ⟨o, es, ep, ho, r⟩ := hm
    exact ⟨o, es, ep, k _ o (fun z => (fe _ z).2.1 rfl) ho, r⟩
  · refine (I.hok b u q).stay (fun c v hc z => ?_) (fun c z => z) fun c ys z => z
    rcases hc with w | w
    · rw [w] at z ⊢
      exact k b v (ne b u q) z
    · exact k c v (ne c _ w) z
theorem zip_apart (n a b : Nat) (h1 : a < n) (h2 : b < n) : ZipApart (n + 4) (n + 2) (n + 3) n (n + 1) a b := by
  constructor <;> (show @Ne Nat _ _; omega)
theorem boot_zip' : bootBuiltins "zip" = some (.type "zip") := by decide +kernel
section
variable {X : Cx} {K : PySem.W.Frag}
end
end L2
set_option Elab.async false
set_option linter.all false
set_option maxRecDepth 100000
set_option maxHeartbeats 4000000
namespace L2
open PySem PySem.Spec PyProof.Rows
section
variable {P : Program} {w : World} {K : PySem.W.Frag} {mg : Str → Option Value} {base : Heap}
end
section
variable {X : Cx} {k : Nat} {C : Addr} {x m : Str} {ps : List Str} {sp : Sp} {p pos apos : Pos} {e o : Expr} {es : List Expr} {ta : TE} {t : TA}
end
theorem compRangeV {n : Nat} {D : Addr} {te : TE} {σf : St} {H1 : Hp} {Q : VK} (f : Nat → V) (hz : n < sizeLine) (hD1 : H1 D = none)
    (hs : ∀ (i : Nat), i < n → ∀ H (N : VK), Same H1 H → (∀ H', Same H H' → N (f i) H') → te (some (.int (0 + (i : Int))) :: σf) H N) (hd : ∀ H, Same H1 H → H D = some (.lst ((List.range n).map f)) → Q (.ref D) H) : CompW (Itr 0 n) D (gName 0) tYes te (none :: σf) (upd H1 D (.lst [])) Q := by
  refine comp_range (fun i y _ => y = f i) hz hD1 (fun _ _ _ _ _ h => h) ?_ ?_
  · rintro i H ys N hi s d hN
    exact hs i hi H N s fun H' s' => hN _ _ s' rfl
  · rintro ys H s d l r
    have e : ys = (List.range n).map f := by
      refine List.ext_getElem? fun i => ?_
      rw [List.getElem?_map]
      cases q : ys[i]? with
      | none =>
        have := List.getElem?_eq_none_iff.mp q
        rw [List.getElem?_eq_none_iff.mpr (by simp; omega)]
        rfl
      | some y =>
        have hi := (List.getElem?_eq_some_iff.mp q).1
        rw [r i y q, List.getElem?_range (by omega)]
        rfl
    rw [e] at d
    exact hd H s d
end L2
set_option Elab.async false
set_option linter.all false
set_option maxRecDepth 100000
set_option maxHeartbeats 4000000
namespace L2
open PySem PySem.Spec PyProof.Rows
def Its (z : Str) : It := ⟨fun i _ => i < z.length, fun i H x H' => H' = H ∧ ∃ c, (cod z)[i]? = some c ∧ x = .str ⟨#[c]⟩, fun i _ => z.length ≤ i⟩
theorem turn_strA {P : Program} {w : World} {K : PySem.W.Frag} {tg : Expr} (z : Str) (t : Tok) (it : Addr) : Turn P w K tg (Its z) [it] it (fun i h => h.IsStrIter it "str_ascii_iterator" z t i) where
  mem := by simp
  obj := fun i h st b hb => by
    have e : b = it := by simpa using hb
    subst e
    obtain ⟨o, e, c, d⟩ := st
    exact ⟨o, e, fun v z => by rw [d] at z; cases z⟩
  keep := fun i h h' st k => by
    obtain ⟨o, e, r⟩ := st
    exact ⟨o, k it (by simp) o e, r⟩
  item := by
    intro X hP hw hK hc i pins s σ H E I hf st hg
    subst hP hw hK
    have hi : i < z.cps.size := hg
    obtain ⟨f0, f1, f2, f3, f4, f5⟩ := hf it (by simp)
    refine wpAny_pyNext_ascii_item st (c := z.cps[i]) (by simp [hi]) fun h' st' sb => ?_
    have I1 : Inv X pins σ H { s with heap := h', toks := s.toks + 1 } := I.turned (t' := s.toks + 1) (fun b o hb e => (sb.2 b hb).trans e) f0 f1 f3 f4 f5
    obtain ⟨o, e, c, d⟩ := id st'
    exact ⟨_, rfl, go_of (s := { s with heap := h', toks := s.toks + 1 }) e c d (by decide) ⟨.str ⟨#[z.cps[i]]⟩, H, I1, ⟨_, rfl⟩, ⟨rfl, z.cps[i], by simp [cod, hi], rfl⟩, st', fun b hb => (hf b hb).1⟩⟩
  done := by
    intro X hP hw hK hc i pins s σ H E I hf st hg
    subst hP hw hK
    obtain ⟨f0, f1, f2, f3, f4, f5⟩ := hf it (by simp)
    have hi : z.cps.size ≤ i := hg
    exact wpAny_pyNext_ascii_end (I.ok.hd hc) st (by simp [hi]) fun h' eb => ⟨rfl, I.turned (t' := s.toks) (fun b o hb e => eb b o hb e) f0 f1 f3 f4 f5⟩
  self := fun _ _ _ _ _ st h => wpAny_pyIter_striter_ascii st h
theorem turn_strW {P : Program} {w : World} {K : PySem.W.Frag} {tg : Expr} (z : Str) (t : Tok) (it : Addr) : Turn P w K tg (Its z) [it] it (fun i h => h.IsStrIter it "str_iterator" z t i) where
  mem := by simp
  obj := fun i h st b hb => by
    have e : b = it := by simpa using hb
    subst e
    obtain ⟨o, e, c, d⟩ := st
    exact ⟨o, e, fun v z => by rw [d] at z; cases z⟩
  keep := fun i h h' st k => by
    obtain ⟨o, e, r⟩ := st
    exact ⟨o, k it (by simp) o e, r⟩
  item := by
    intro X hP hw hK hc i pins s σ H E I hf st hg
    subst hP hw hK
    have hi : i < z.cps.size := hg
    obtain ⟨f0, f1, f2, f3, f4, f5⟩ := hf it (by simp)
    refine wpAny_pyNext_wide_item st (c := z.cps[i]) (by simp [hi]) fun h' st' sb => ?_
    have I1 : Inv X pins σ H { s with heap := h', toks := s.toks + 1 } := I.turned (t' := s.toks + 1) (fun b o hb e => (sb.2 b hb).trans e) f0 f1 f3 f4 f5
    obtain ⟨o, e, c, d⟩ := id st'
    exact ⟨_, rfl, go_of (s := { s with heap := h', toks := s.toks + 1 }) e c d (by decide) ⟨.str ⟨#[z.cps[i]]⟩, H, I1, ⟨_, rfl⟩, ⟨rfl, z.cps[i], by simp [cod, hi], rfl⟩, st', fun b hb => (hf b hb).1⟩⟩
  done := by
    intro X hP hw hK hc i pins s σ H E I hf st hg
    subst hP hw hK
    obtain ⟨f0, f1, f2, f3, f4, f5⟩ := hf it (by simp)
    have hi : z.cps.size ≤ i := hg
    exact wpAny_pyNext_wide_end (I.ok.hd hc) st (by simp [hi]) fun h' eb => ⟨rfl, I.turned (t' := s.toks) (fun b o hb e => eb b o hb e) f0 f1 f3 f4 f5⟩
  self := fun _ _ _ _ _ st h => wpAny_pyIter_striter_wide st h
section
variable {X : Cx} {K : PySem.W.Frag}
def iStr (tl : TE) : TI := fun σ H R => tl σ H fun x H1 => ∃ z, x = .str z ∧ R (Its z) H1
theorem pi_str {tg l : Expr} {tl : TE} (hl : PE X l tl) : PI X tg l (iStr tl) := by
  intro pins s σ H R I h
  refine thn (hl pins s σ H _ I h) fun v s1 ⟨x, H1, I1, r1, q1⟩ => ?_
  obtain ⟨z, e, q⟩ := q1
  subst e
  obtain ⟨t, rfl⟩ := r1
  have fpk : ∀ b ∈ [s1.heap.objs.size], FpOk X pins H1 b := fun b hb => by
    have e : b = s1.heap.objs.size := by simpa using hb
    subst e
    exact I1.fpOk (Nat.le_refl _) (I1.hok.fresh (Nat.le_refl _))
  cases ha : z.cps.all (· < 128) with
  | true =>
    refine wpAny_pyIter_ascii ha ?_
    exact ⟨s1.heap.objs.size, [s1.heap.objs.size], _, _, H1, rfl, I1.kept (t' := s1.toks) fun b o e => Heap.get?_push_of_some _ e, turn_strA z t _, ⟨_, Heap.get?_push_size _ rfl, rfl, rfl⟩, fpk, q⟩
  | false =>
    refine wpAny_pyIter_wide ha ?_
    exact ⟨s1.heap.objs.size, [s1.heap.objs.size], _, _, H1, rfl, I1.kept (t' := s1.toks) fun b o e => Heap.get?_push_of_some _ e, turn_strW z t _, ⟨_, Heap.get?_push_size _ rfl, rfl, rfl⟩, fpk, q⟩
theorem compStrV {z : Str} {D : Addr} {te : TE} {σf : St} {H1 : Hp} {Q : VK} (f : Nat → V) (hz : z.length < sizeLine) (hD1 : H1 D = none)
    (hs : ∀ c ∈ cod z, ∀ H (N : VK), Same H1 H → (∀ H', Same H H' → N (f c) H') → te (some (.str ⟨#[c]⟩) :: σf) H N) (hd : ∀ H, Same H1 H → H D = some (.lst ((cod z).map f)) → Q (.ref D) H) : CompW (Its z) D (gName 0) tYes te (none :: σf) (upd H1 D (.lst [])) Q := by
  have hl := cod_len z
  refine comp1 z.length (fun i => .str ⟨#[(cod z).getD i 0]⟩) (fun i y _ => y = f ((cod z).getD i 0)) hz hD1 (fun i H hi _ => hi) (fun H _ => Nat.le_refl _) (fun i H x H' hi s y => ?_) (fun _ _ _ _ _ h => h) (fun i H ys N hi s d hN => ?_) fun ys H s d l r => ?_
  · obtain ⟨rfl, c, hc, rfl⟩ := y
    refine ⟨?_, rfl⟩
    have : (cod z).getD i 0 = c := by rw [List.getD_eq_getElem?_getD, hc]; rfl
    rw [this]
  · have hm : (cod z).getD i 0 ∈ cod z := by
      have : i < (cod z).length := by omega
      rw [List.getD_eq_getElem?_getD, List.getElem?_eq_getElem this]
      exact List.getElem_mem this
    exact hs _ hm H N s fun H' s' => hN _ _ s' rfl
  · have e : ys = (cod z).map f := by
      refine List.ext_getElem? fun i => ?_
      rw [List.getElem?_map]
      cases q : ys[i]? with
      | none =>
        have := List.getElem?_eq_none_iff.mp q
        rw [List.getElem?_eq_none_iff.mpr (by omega)]
        rfl
      | some y =>
        have hi := (List.getElem?_eq_some_iff.mp q).1
        have hi2 : i < (cod z).length := by omega
        rw [r i y q, List.getElem?_eq_getElem hi2, List.getD_eq_getElem?_getD, List.getElem?_eq_getElem hi2]
        rfl
    rw [e] at d
    exact hd H s d
def rStarts : V → List V → Hp → VK → Prop := fun x xs H Q => ∃ z y, x = .str z ∧ xs = [.str y] ∧ Q (.bl (Txt.startswith z y)) H
theorem mt_startswith : MtR X "str.startswith" rStarts := by
  intro pins s σ H x xs v us Q I rx r h
  obtain ⟨z, y, rfl, rfl, q⟩ := h
  obtain ⟨t, rfl⟩ := rx
  obtain ⟨u, rfl, t', rfl⟩ := vals1 r
  exact SC.startswith ⟨.bl _, H, I, rfl, q⟩
theorem starts_one (z : Str) (c : Nat) : Txt.startswith z ⟨#[c]⟩ = decide ((cod z).head? = some c) := by
  unfold Txt.startswith Builtin.Str.subAt
  have e1 : (Str.length ⟨#[c]⟩) = 1 := rfl
  rw [e1]
  obtain ⟨⟨l⟩⟩ := z
  cases l with
  | nil => simp [Str.length, cod]
  | cons a l =>
    have e2 : (Array.extract (⟨a :: l⟩ : Array Nat) 0 (0 + 1)) = #[a] := by
      apply Array.ext'
      simp
    simp only [e2]
    by_cases h : a = c
    · subst h
      simp [Str.length, cod]
    · simp [Str.length, cod, h]
theorem vals_strs : ∀ l : List (Str × Tok), Vals (l.map fun p => V.str p.1) (strValues l)
  | [] => .nil
  | p :: r => .cons ⟨p.2, rfl⟩ (vals_strs r)
def rSplit : V → List V → Hp → VK → Prop := fun x xs H Q => ∃ z y, x = .str z ∧ xs = [.str y] ∧ (y.length == 0) = false ∧ z.length ≤ 100000 ∧ ∀ l H', New H l (.lst ((Txt.split z y).map V.str)) H' → Q (.ref l) H'
theorem mt_split : MtR X "str.split" rSplit := by
  intro pins s σ H x xs v us Q I rx r h
  obtain ⟨z, y, rfl, rfl, hy, hz, q⟩ := h
  obtain ⟨t, rfl⟩ := rx
  obtain ⟨u0, rfl, u, rfl⟩ := vals1 r
  have hsz := sizeLine_eq
  have fin : ∀ (l : List (Str × Tok)) (tk : Nat), l.map (·.1) = Txt.split z y → EP X pins σ Q (.ref s.heap.objs.size) { s with heap := s.heap.push { cls := .type "list", data := .seq (strValues l).toArray }, toks := tk } := fun l tk e => by
    have e2 : (Txt.split z y).map V.str = l.map fun p => V.str p.1 := by rw [← e, List.map_map]; rfl
    refine ⟨.ref s.heap.objs.size, _, I.laid (t' := tk) (o := .lst ((Txt.split z y).map V.str)) (fun b o e => Heap.get?_push_of_some _ e) (Nat.le_refl _) ?_, rfl, q _ _ (new_upd I.fresh)⟩
    refine ⟨?_, strValues l, 0, ?_, Heap.get?_push_size _ rfl⟩
    · have := split_le z y
      rw [List.length_map, hsz]
      omega
    · rw [e2]
      exact vals_strs l
  have hn : (Builtin.Str.partsBetween z (Builtin.Str.occurrences z y 0 z.length (z.length + 1)) y.length).length ≤ sizeLine := by
    have e1 := StrLaws.occ_length_le z y 0 z.length (z.length + 1)
    rw [length_partsBetween, hsz]; omega
  cases h1 : (decide (z.length < y.length) || decide (Builtin.Str.strKind z < Builtin.Str.strKind y))
  · cases hf : (Builtin.Str.occurrences z y 0 z.length (z.length + 1)).isEmpty
    · refine call_meets F.slot_str_split (typeIs_str _ _ _) F.entry_str_split (F.args_str_split_2 _ _) (meets_str_split_sep z y t u h1 hy hf (by rw [hsz]; omega) hn) ?_
      show wants (EP X pins σ Q) X.xe _ { s with toks := _, heap := s.heap.push { cls := .type "list", data := .seq (strsFrom s.toks (Builtin.Str.partsBetween z (Builtin.Str.occurrences z y 0 z.length (z.length + 1)) y.length)).toArray } }
      rw [strsFrom_eq]
      exact fin (numbered s.toks _) _ ((numbered_texts _ _).trans ((if_neg (ne_true_of_eq_false h1)).trans (if_neg (ne_true_of_eq_false hf))).symm)
    · exact call_meets F.slot_str_split (typeIs_str _ _ _) F.entry_str_split (F.args_str_split_2 _ _) (meets_str_split_not_found z y t u h1 hy hf)
        (fin [(z, t)] s.toks ((if_neg (ne_true_of_eq_false h1)).trans (if_pos hf)).symm)
  · exact call_meets F.slot_str_split (typeIs_str _ _ _) F.entry_str_split (F.args_str_split_2 _ _) (meets_str_split_cannot_occur z y t u h1)
      (fin [(z, t)] s.toks (if_pos h1).symm)
end
end L2
set_option Elab.async false
set_option linter.all false
set_option maxRecDepth 100000
set_option maxHeartbeats 4000000
namespace L2
open PySem PySem.Spec PyProof.Rows
section
variable {X : Cx} {scope : Scope} {y : Str}
variable {pins : List (Addr × Obj)} {σ : St} {H : Hp} {s : Shared}
end
section
variable {X : Cx} {tg iter elt : Expr} {ifs : List Expr} {scope : Scope} {pos : Pos} {pins : List (Addr × Obj)} {σ : St} {H : Hp} {s : Shared}
end
end L2
set_option Elab.async false
set_option linter.all false
set_option maxRecDepth 100000
set_option maxHeartbeats 4000000
namespace L2
open PySem PySem.Spec PyProof.Rows
section
variable {X : Cx} {st : Stmt} {rest : List Stmt} {t u : TS} {pos : Pos}
def PEpos (X : Cx) (e : Expr) (t : TE) : Prop :=
  ∀ (pins : List (Addr × Obj)) (s : Shared) (σ : St) (H : Hp) (Q : VK), Inv X pins σ H s → t σ H Q → wpAny (model X.prog X.w) X.A (eval e X.env) (fun v s' => EP X pins σ Q v s' ∧ 1 ≤ s'.toks) X.xe s
def PSpos (X : Cx) (st : Stmt) (t : TS) : Prop :=
  ∀ (pins : List (Addr × Obj)) (s : Shared) (σ : St) (H : Hp) (D : Ends), Inv X pins σ H s → t D σ H → wpAny (model X.prog X.w) X.A (exec st X.env) (fun f s' => SP X pins D f s' ∧ 1 ≤ s'.toks) X.xe s
def PEP (X : Cx) (e : Expr) (t : TE) : Prop :=
  ∀ (pins : List (Addr × Obj)) (s : Shared) (σ : St) (H : Hp) (Q : VK), 1 ≤ s.toks → Inv X pins σ H s → t σ H Q → wpAny (model X.prog X.w) X.A (eval e X.env) (EP X pins σ Q) X.xe s
def PSP (X : Cx) (st : Stmt) (t : TS) : Prop :=
  ∀ (pins : List (Addr × Obj)) (s : Shared) (σ : St) (H : Hp) (D : Ends), 1 ≤ s.toks → Inv X pins σ H s → t D σ H → wpAny (model X.prog X.w) X.A (exec st X.env) (SP X pins D) X.xe s
def PSsP (X : Cx) (sts : List Stmt) (t : TS) : Prop :=
  ∀ (pins : List (Addr × Obj)) (s : Shared) (σ : St) (H : Hp) (D : Ends), 1 ≤ s.toks → Inv X pins σ H s → t D σ H → wpAny (model X.prog X.w) X.A (execs sts X.env) (SP X pins D) X.xe s
theorem PS.p (h : PS X st t) : PSP X st t := fun pins s σ H D _ I q => h pins s σ H D I q
theorem PSs.p {sts : List Stmt} (h : PSs X sts t) : PSsP X sts t := fun pins s σ H D _ I q => h pins s σ H D I q
theorem pss_consP (h1 : PSP X st t) (h2 : PSsP X rest u) : PSsP X (st :: rest) (tSeq t u) := by
  intro pins s σ H D hp I h
  refine wpAny_execs_cons (wpAny_with_toks (n := 1) hp (wpAny_mono (h1 pins s σ H { D with nx := u D } hp I h) (fun f s1 q hn => ?_) fun _ _ z _ => z))
  cases f with
  | next =>
    obtain ⟨σ', H', I', q⟩ := q
    exact h2 pins s1 σ' H' D hn I' q
  | ret v => exact q
  | brk => exact q
  | cont => exact q
theorem pss_pos (h1 : PSpos X st t) (h2 : PSsP X rest u) : PSs X (st :: rest) (tSeq t u) := by
  intro pins s σ H D I h
  refine wpAny_execs_cons (thn (h1 pins s σ H { D with nx := u D } I h) fun f s1 ⟨q, hn⟩ => ?_)
  cases f with
  | next =>
    obtain ⟨σ', H', I', q⟩ := q
    exact h2 pins s1 σ' H' D hn I' q
  | ret v => exact q
  | brk => exact q
  | cont => exact q
theorem ps_setPos {i : Nat} {x : Str} {e : Expr} {te : TE} {pos' : Pos} (hN : X.N.Nodup) (hi : X.N[i]? = some x) (hx : Loc X.env.scope x) (he : PEpos X e te) (hs : swapsWith e (some (.Name x pos')) pos.line X.env = pure false := by rfl) (hf : X.fn x = true ∨ X.env.scope.names.lookup x = some .local := by first | exact .inl rfl | exact .inr rfl | assumption) :
    PSpos X (.Assign [.Name x pos'] e pos) (tAsg te (gName i)) := by
  intro pins s σ H D I h
  refine wpAny_Assign_Name (thn (he pins s σ H _ I h) fun v s1 ⟨⟨y, H1, I1, r1, q1⟩, hn⟩ => ?_) hs
  exact wpAny_with_toks (n := 1) hn (wpAny_mono (store_ok (Q := fun _ s' => SP X pins D .next s') I1 hN hi hx r1 (fun s2 I2 => ⟨_, H1, I2, q1⟩) hf) (fun _ _ q hn' => ⟨q, hn'⟩) fun _ _ z _ => z)
theorem ps_setP {i : Nat} {x : Str} {e : Expr} {te : TE} {pos' : Pos} (hN : X.N.Nodup) (hi : X.N[i]? = some x) (hx : Loc X.env.scope x) (he : PEP X e te) (hs : swapsWith e (some (.Name x pos')) pos.line X.env = pure false := by rfl) (hf : X.fn x = true ∨ X.env.scope.names.lookup x = some .local := by first | exact .inl rfl | exact .inr rfl | assumption) :
    PSP X (.Assign [.Name x pos'] e pos) (tAsg te (gName i)) := by
  intro pins s σ H D hp I h
  refine wpAny_Assign_Name (thn (he pins s σ H _ hp I h) fun v s1 ⟨y, H1, I1, r1, q1⟩ => ?_) hs
  exact store_ok I1 hN hi hx r1 (fun s2 I2 => ⟨_, H1, I2, q1⟩) hf
end
section
variable {X : Cx} {o : Expr} {to : TE} {K : PySem.W.Frag} {apos cpos p1 p2 : Pos} {j1 j2 : Nat}
theorem pe_startsPos {c : Str} (hK : X.K = K) (ho : PE X o to)
    (hbase : attributeBase o "startswith" X.env (eval o X.env) = eval o X.env := by rfl)
    (hline : (apos.endLine == cpos.line) = true := by rfl) :
    PEpos X (.Call (.Attribute o "startswith" apos) [.Constant (.str c) j1 p1] [] cpos) (tBM K "str" rStarts to (tCons (tC (.str c)) tNil)) := by
  subst hK
  intro pins s σ H Q I h
  refine wpAny_Call_method_late hbase rfl hline rfl (thn (ho pins s σ H _ I h) fun v s1 ⟨x, H1, I1, r1, ty, q1⟩ => ?_)
  obtain ⟨h1, h2⟩ := tyV_is I1 r1 ty
  refine ⟨"str", _, PySem.F.plainAttrs_str, PySem.F.slot_str_startswith, PySem.F.type_str_startswith, h1, h2, ?_⟩
  refine Calls.callWith_builtin rfl (Calls.evalArgs_plain ?_)
  show wpAny _ _ (spliced ((false, eval (.Constant (.str c) j1 p1) X.env) :: [])) _ _ s1
  refine Calls.spliced_cons (Calls.Constant_str (Calls.spliced_nil ?_))
  have I2 : Inv X pins σ H1 { s1 with toks := s1.toks + 1 } := I1.tok _
  refine wpAny_with_toks (n := 1) (Nat.le_add_left 1 s1.toks) (wpAny_mono (mt_startswith pins { s1 with toks := s1.toks + 1 } σ H1 x [.str c] v [.str c s1.toks] Q I2 r1 (.cons ⟨_, rfl⟩ .nil) q1) (fun _ _ q hn => ⟨q, hn⟩) fun _ _ z _ => z)
def tStrike (c : Nat) (to : TE) : TE := fun σ H Q => to σ H fun x H1 => ∃ z, x = .str z ∧ z.length ≤ 100000 ∧ ∀ y, cod y = (cod z).filter (· != c) → Q (.str y) H1
theorem pe_strikeP {a b : Str} {c : Nat} (ha : a = ⟨#[c]⟩) (hb : b = ⟨#[]⟩) (ho : PE X o to)
    (hbase : attributeBase o "replace" X.env (eval o X.env) = eval o X.env := by rfl)
    (hline : (apos.endLine == cpos.line) = true := by rfl) :
    PEP X (.Call (.Attribute o "replace" apos) [.Constant (.str a) j1 p1, .Constant (.str b) j2 p2] [] cpos) (tStrike c to) := by
  intro pins s σ H Q hp I h
  refine wpAny_Call_method_late hbase rfl hline rfl (wpAny_with_toks (n := 1) hp (wpAny_mono (ho pins s σ H _ I h) (fun v s1 ⟨x, H1, I1, r1, z, ez, hz, q1⟩ hn => ?_) fun _ _ z _ => z))
  subst ez
  obtain ⟨t, rfl⟩ := r1
  refine ⟨"str", _, PySem.F.plainAttrs_str, PySem.F.slot_str_replace, PySem.F.type_str_replace, typeIs_str _ _ _, (fun _ e => nomatch e), ?_⟩
  refine Calls.callWith_builtin rfl (Calls.evalArgs_plain ?_)
  show wpAny _ _ (spliced ((false, eval (.Constant (.str a) j1 p1) X.env) :: (false, eval (.Constant (.str b) j2 p2) X.env) :: [])) _ _ s1
  refine Calls.spliced_cons (Calls.Constant_str ?_)
  refine Calls.spliced_cons (Calls.Constant_str (Calls.spliced_nil ?_))
  have hu : s1.toks ≠ 0 := by omega
  refine SC.replaceW hu (Nat.succ_ne_zero _) (Nat.ne_of_lt (Nat.lt_succ_self _)) ?_ (by omega) (by rw [hb]; decide) fun t' k => ⟨.str _, H1, I1.tok k, ⟨_, rfl⟩, q1 _ ?_⟩
  · rw [ha, hb]
    rfl
  · rw [ha, hb]
    exact replace_strikes z c
theorem pe_intP {e : Expr} {te : TE} {p pos : Pos} (hg : Gl X "int") (hm : X.mg "int" = none) (he : PEP X e te) (hs : starEach [e] X.env = [(false, eval e X.env)] := by rfl) :
    PEP X (.Call (.Name "int" p) [e] [] pos) (fun σ H Q => te σ H fun x H1 => ∃ z, x = .str z ∧ NumText.AllDigits (cod z) ∧ cod z ≠ [] ∧ z.length ≤ 640 ∧ Q (.int ((NumText.digitsVal (cod z) : Nat) : Int)) H1) := by
  intro pins s σ H Q hp I h
  refine wpAny_Call_Name_kw (ld_blt I hg hm boot_int' ?_)
  refine PyProof.Rows.callWith_type1 (Q := EP X pins σ Q) ?_ hs rfl
  rw [hs]
  show wpAny _ _ (spliced ((false, eval e X.env) :: [])) _ _ s
  refine Calls.spliced_cons (thn (he pins s σ H _ hp I h) fun u s1 ⟨x, H1, I1, r1, z, ez, h1, h2, h3, q⟩ => Calls.spliced_nil ?_)
  subst ez
  obtain ⟨t, rfl⟩ := r1
  exact PySem.W.KIN.call_text (intText_digits h1 h2 (by omega)) h3 ⟨.int _, H1, I1.tok _, ⟨_, rfl⟩, q⟩
end
end L2
set_option Elab.async false
set_option linter.all false
set_option maxRecDepth 100000
set_option maxHeartbeats 4000000
namespace L2
open PySem PySem.Spec PyProof.Rows
abbrev dotS : Str := ⟨#[46]⟩
theorem split_two {z a b : Str} (h : Txt.split z dotS = [a, b]) : cod z = cod a ++ 46 :: cod b ∧ 46 ∉ cod a ∧ 46 ∉ cod b := by
  have e := StrLaws.join_split z dotS
  rw [h] at e
  have e2 : a ++ dotS ++ b = z := e
  refine ⟨?_, StrLaws.split_free z 46 a (by rw [h]; simp), StrLaws.split_free z 46 b (by rw [h]; simp)⟩
  rw [← e2, cod_app, cod_app, List.append_assoc]
  rfl
theorem uniq_cut {p q a b : List Nat} (h : p ++ 46 :: q = a ++ 46 :: b) (hp : 46 ∉ p) (ha : 46 ∉ a) : p = a ∧ q = b := by
  induction p generalizing a with
  | nil =>
    cases a with
    | nil => simpa using h
    | cons x r =>
      simp only [List.nil_append, List.cons_append, List.cons.injEq] at h
      exact absurd (by rw [← h.1]; exact List.mem_cons_self) ha
  | cons y p ih =>
    cases a with
    | nil =>
      simp only [List.nil_append, List.cons_append, List.cons.injEq] at h
      exact absurd (by rw [h.1]; exact List.mem_cons_self) hp
    | cons x r =>
      simp only [List.cons_append, List.cons.injEq] at h
      have := ih h.2 (fun z => hp (List.mem_cons_of_mem _ z)) (fun z => ha (List.mem_cons_of_mem _ z))
      rw [h.1, this.1]
      exact ⟨rfl, this.2⟩
theorem split_of {z : Str} {p q : List Nat} (h : cod z = p ++ 46 :: q) (hp : 46 ∉ p) (hq : 46 ∉ q) : ∃ a b, Txt.split z dotS = [a, b] ∧ cod a = p ∧ cod b = q := by
  have e := split_len z 46
  have c1 : cnt 46 (cod z) = 1 := by
    rw [h, cnt_append, cnt_none 46 p hp, cnt_cons, cnt_none 46 q hq]
    simp
  have hl : (Txt.split z dotS).length = 2 := by
    have : ((Txt.split z dotS).length : Int) = 2 := by
      rw [e]
      have : cnt 46 z.cps.toList = 1 := c1
      omega
    omega
  match hs : Txt.split z dotS, hl with
  | [a, b], _ =>
    obtain ⟨e1, e2, e3⟩ := split_two hs
    obtain ⟨h1, h2⟩ := uniq_cut (h ▸ e1) hp e2
    exact ⟨a, b, rfl, h1.symm, h2.symm⟩
def isDig (c : Nat) : Bool := decide (48 ≤ c ∧ c ≤ 57)
theorem fig_mem (c : Nat) : decide (c ∈ cod (Str.ofString "0123456789")) = isDig c := by
  have e : cod (Str.ofString "0123456789") = [48, 49, 50, 51, 52, 53, 54, 55, 56, 57] := by decide +kernel
  rw [e]
  unfold isDig
  congr 1
  simp only [List.mem_cons, List.not_mem_nil, or_false, eq_iff_iff]
  omega
def formB (z : Str) : Bool := match Txt.split z dotS with
  | [a, b] => (cod a ++ cod b).all isDig && (decide (1 ≤ (cod a).length) && decide ((cod a).length ≤ 38)) && decide ((cod b).length = 2)
  | _ => false
theorem dv_snoc (a : List Nat) (c : Nat) : NumText.digitsVal (a ++ [c]) = NumText.digitsVal a * 10 + (c - 48) := by
  unfold NumText.digitsVal
  rw [List.foldl_append]
  rfl
theorem dv_dec (n : Nat) : NumText.digitsVal (dec n) = n := by
  induction n using Nat.strongRecOn with
  | _ n ih =>
    by_cases h1 : n < 10
    · rw [dec_small h1]
      show 0 * 10 + (48 + n - 48) = n
      omega
    · rw [dec_big (by omega), dv_snoc, ih (n / 10) (by omega)]
      omega
theorem dv_amt (m : Nat) : NumText.digitsVal (dec (m / 100) ++ padz 2 (dec (m % 100))) = m := by
  rw [dec_two (Nat.mod_lt _ (by decide))]
  have e : dec (m / 100) ++ [48 + m % 100 / 10, 48 + m % 100 % 10] = (dec (m / 100) ++ [48 + m % 100 / 10]) ++ [48 + m % 100 % 10] := by simp
  rw [e, dv_snoc, dv_snoc, dv_dec]
  omega
theorem two_codes (r : Nat) (h : r < 100) : ∀ c ∈ padz 2 (dec r), 48 ≤ c ∧ c ≤ 57 := fun c hc => by
  rw [dec_two h] at hc
  simp at hc
  omega
def ucod (m : Nat) : List Nat := dec (m / 100) ++ 46 :: padz 2 (dec (m % 100))
theorem wcod_eq (n : Int) : wcod n = (if n < 0 then [45] else []) ++ ucod n.natAbs := rfl
theorem ucod_no (m : Nat) : 46 ∉ dec (m / 100) ∧ 46 ∉ padz 2 (dec (m % 100)) := ⟨fun h => by have := dec_codes _ _ h; omega, fun h => by have := two_codes _ (Nat.mod_lt _ (by decide)) _ h; omega⟩
theorem formB_ucod {z : Str} {m : Nat} (h : cod z = ucod m) (hm : m < 10 ^ 40) : formB z = true := by
  obtain ⟨a, b, hs, ha, hb⟩ := split_of (z := z) (p := dec (m / 100)) (q := padz 2 (dec (m % 100))) h (ucod_no m).1 (ucod_no m).2
  unfold formB
  rw [hs]
  dsimp only
  rw [ha, hb]
  have l1 := dec_le (n := m / 100) 37 (by omega)
  have l2 := dec_len (m / 100)
  have h22 := dec_two (r := m % 100) (Nat.mod_lt _ (by decide))
  have hall : (dec (m / 100) ++ padz 2 (dec (m % 100))).all isDig = true := List.all_eq_true.mpr fun c hc => by
    unfold isDig
    rcases List.mem_append.mp hc with h | h
    · exact decide_eq_true (dec_codes _ _ h)
    · exact decide_eq_true (two_codes _ (Nat.mod_lt _ (by decide)) _ h)
  rw [hall, decide_eq_true l2, decide_eq_true (show (dec (m / 100)).length ≤ 38 by omega), h22]
  rfl
theorem strike_ucod (m : Nat) : (ucod m).filter (· != 46) = dec (m / 100) ++ padz 2 (dec (m % 100)) := by
  unfold ucod
  rw [List.filter_append, List.filter_cons]
  have e1 : (dec (m / 100)).filter (· != 46) = dec (m / 100) := List.filter_eq_self.mpr fun c hc => by
    have := dec_codes _ _ hc
    simp
    omega
  have e2 : (padz 2 (dec (m % 100))).filter (· != 46) = padz 2 (dec (m % 100)) := List.filter_eq_self.mpr fun c hc => by
    have := two_codes _ (Nat.mod_lt _ (by decide)) _ hc
    simp
    omega
  rw [e1, e2]
  simp
def sp_figs : Sp := fun vs H Q _ => ∃ z, vs = [.str z] ∧ z.length ≤ 100000 ∧ ∀ H', Same H H' → Q (.bl ((cod z).all isDig)) H'
def sp_form : Sp := fun vs H Q _ => ∃ z, vs = [.str z] ∧ z.length ≤ 50000 ∧ ∀ H', Same H H' → Q (.bl (formB z)) H'
def sp_read (B : Nat) : Sp := fun vs H Q _ => ∃ (z : Str) (n : Int), vs = [.str z] ∧ cod z = wcod n ∧ n.natAbs < B ∧ ∀ H', Same H H' → Q (.int n) H'
theorem dot_is : Str.ofString "." = dotS := by decide +kernel
end L2
set_option Elab.async false
set_option linter.all false
set_option maxRecDepth 100000
set_option maxHeartbeats 4000000
namespace L2
open PySem PySem.Spec PyProof.Rows
section
variable {X : Cx} {pins : List (Addr × Obj)} {σ : St} {H : Hp} {s : Shared}
end
section
variable {P : Program} {w : World} {K : PySem.W.Frag} {mg : Str → Option Value} {base : Heap}
end
end L2
set_option Elab.async false
set_option linter.all false
set_option maxRecDepth 100000
set_option maxHeartbeats 4000000
namespace L2
open PySem PySem.W PySem.Spec PyProof.Rows PySem.Calls Builtin Builtin.ObjectAttr Builtin.Getset_descriptor
section
variable {prog : Program} {w : World} {A : Around} {E : Value → Shared → Prop} {s : Shared} {K : Frag} {x D : Addr} {o : Obj}
end
end L2
set_option Elab.async false
set_option linter.all false
set_option maxRecDepth 100000
set_option maxHeartbeats 4000000
namespace L2
open PySem PySem.Spec PyProof.Rows
section
variable {X : Cx} {pins : List (Addr × Obj)} {σ : St} {H : Hp} {s : Shared} {v : Value}
end
section
variable {X : Cx} {k : Nat} {f C : Addr} {fd : FuncData} {ps : List Str} {sp : Sp} {x m : Str} {p pos : Pos} {e : Expr} {es : List Expr} {t : TA}
end
end L2
set_option Elab.async false
set_option linter.all false
set_option maxRecDepth 100000
set_option maxHeartbeats 4000000
namespace L2
open PySem PySem.Spec PyProof.Rows
section
variable {X : Cx}
end
section
variable {P : Program} {w : World} {K : PySem.W.Frag} {mg : Str → Option Value} {base : Heap}
end
section
variable {X : Cx} {k : Nat} {f : Addr} {x : Str} {ps : List Str} {sp : Sp} {p pos : Pos} {e : Expr} {es : List Expr} {t : TA}
end
end L2
set_option Elab.async false
set_option linter.all false
set_option maxRecDepth 100000
set_option maxHeartbeats 4000000
namespace L2
open PySem PySem.Spec PyProof.Rows
section
variable {X : Cx} {K : PySem.W.Frag}
end
end L2
set_option Elab.async false
set_option linter.all false
set_option maxRecDepth 100000
set_option maxHeartbeats 4000000
namespace L2
open PySem PySem.Spec PyProof.Rows
def ReadV (K : PySem.W.Frag) (H : Hp) (v : V) (d : PyData) : Prop := ∀ (X : Cx) (pins : List (Addr × Obj)) (σ : St) (s : Shared) (u : Value), X.K = K → Inv X pins σ H s → RelV v u → ∃ as, Reads s.heap u d as
theorem rv_int {K : PySem.W.Frag} {H : Hp} {i : Int} : ReadV K H (.int i) (.int i) := fun X pins σ s u _ _ r => by
  obtain ⟨t, rfl⟩ := r
  exact ⟨[], .int i t⟩
theorem rv_all {K : PySem.W.Frag} {H : Hp} {X : Cx} {pins : List (Addr × Obj)} {σ : St} {s : Shared} (e : X.K = K) (I : Inv X pins σ H s) : ∀ {xs : List V} {ds : List PyData} {us : List Value}, Paired (ReadV K H) xs ds → Vals xs us → ∃ as, ReadsAll s.heap us ds as
  | _, _, _, .nil, .nil => ⟨[], .nil⟩
  | _, _, _, .cons a b, .cons r t => by
    obtain ⟨as, h1⟩ := a X pins σ s _ e I r
    obtain ⟨bs, h2⟩ := rv_all e I b t
    exact ⟨as ++ bs, .cons h1 h2⟩
theorem rv_tup {K : PySem.W.Frag} {H : Hp} {a : Addr} {xs : List V} {ds : List PyData} (h : SqT K H a xs) (p : Paired (ReadV K H) xs ds) : ReadV K H (.ref a) (.tuple ds) := fun X pins σ s u e I r => by
  obtain rfl : u = Value.ref a := r
  subst e
  obtain ⟨its, rv, pl, _⟩ := I.tuple h
  obtain ⟨as, ha⟩ := rv_all rfl I p rv
  obtain ⟨o, h1, h2, n, h3⟩ := pl
  exact ⟨_, .tuple h1 h2 h3 (by simpa using ha)⟩
def rEqD (K : PySem.W.Frag) (neg : Bool) : R2 := fun x y H Q => ∃ d e, ReadV K H x d ∧ ReadV K H y e ∧ SeqAt.shaped d = true ∧ SeqAt.shaped e = true ∧ Q (.bl (if neg = true then !PyData.eqv d e else PyData.eqv d e)) H
section
variable {X : Cx} {K : PySem.W.Frag}
theorem op_eqDK (h : X.K = K) (hu : X.A.units + 64 < cLine) : OpR X (compareOp .Eq) (rEqD K false) := by
  intro pins s σ H x y v u Q I rx ry q
  obtain ⟨d, e, r1, r2, s1, s2, q⟩ := q
  obtain ⟨as, h1⟩ := r1 X pins σ s v h I rx
  obtain ⟨bs, h2⟩ := r2 X pins σ s u h I ry
  exact eq_dataH h1 h2 s1 s2 hu ⟨.bl _, H, I, rfl, q⟩
end
end L2
set_option Elab.async false
set_option linter.all false
set_option maxRecDepth 100000
set_option maxHeartbeats 4000000
namespace L2
open PySem PySem.Spec PyProof.Rows
section
variable {X : Cx}
end
section
variable {X : Cx}
end
end L2
set_option Elab.async false
set_option linter.all false
set_option maxRecDepth 100000
set_option maxHeartbeats 4000000
namespace L2
open PySem PySem.Spec PyProof.Rows
end L2
set_option Elab.async false
set_option linter.all false
set_option maxRecDepth 100000
set_option maxHeartbeats 4000000
namespace L2
open PySem PySem.Spec PyProof.Rows
section
variable {X : Cx} {scope : Scope} {pins : List (Addr × Obj)} {σ : St} {H : Hp} {s : Shared}
end
section
variable {X : Cx} {pins : List (Addr × Obj)} {σ : St} {H : Hp} {s : Shared}
variable {ns : List Int} {l q it S : Addr} {R : Result → Shared → Prop}
end
section
variable {X : Cx} {pins : List (Addr × Obj)} {σ : St} {H : Hp} {s : Shared} {c P : Addr} {scope : Scope} {params : Arguments} {body : Expr} {lpos : Pos}
end
end L2
set_option Elab.async false
set_option linter.all false
set_option maxRecDepth 100000
set_option maxHeartbeats 4000000
namespace L2
open PySem PySem.Spec PyProof.Rows
section
variable {P : Program} {w : World} {K : PySem.W.Frag} {mg : Str → Option Value} {base : Heap}
end
end L2
set_option Elab.async false
set_option linter.all false
set_option maxRecDepth 100000
set_option maxHeartbeats 4000000
namespace BW
section
variable {W : Nat → Nat → Int} {way : List Nat} {R s : Nat}
end
section
variable {W : Nat → Nat → Int} {way : List Nat} {R : Nat}
end
end BW
set_option Elab.async false
set_option linter.all false
set_option maxRecDepth 100000
set_option maxHeartbeats 4000000
namespace L2
open PySem PySem.Spec PyProof.Rows BW
end L2
set_option Elab.async false
set_option linter.all false
set_option maxRecDepth 100000
set_option maxHeartbeats 4000000
namespace L2
open PySem PySem.Spec PyProof.Rows BW
end L2
set_option Elab.async false
set_option linter.all false
set_option maxRecDepth 100000
set_option maxHeartbeats 4000000
namespace L2
open PySem PySem.Spec PyProof.Rows BW
end L2
set_option Elab.async false
set_option linter.all false
set_option maxRecDepth 100000
set_option maxHeartbeats 4000000
namespace L2
open PySem PySem.Spec PyProof.Rows BW
end L2
set_option Elab.async false
set_option linter.all false
set_option maxRecDepth 100000
set_option maxHeartbeats 4000000
namespace L2
open PySem PySem.Spec PyProof.Rows BW
end L2
set_option Elab.async false
set_option linter.all false
set_option maxRecDepth 100000
set_option maxHeartbeats 4000000
namespace L2
open PySem PySem.Spec PyProof.Rows BW
end L2
set_option Elab.async false
set_option linter.all false
set_option maxRecDepth 100000
set_option maxHeartbeats 4000000
namespace L2
open PySem PySem.Spec PyProof.Rows BW
end L2
set_option Elab.async false
set_option linter.all false
set_option maxRecDepth 100000
set_option maxHeartbeats 4000000
namespace L2
open PySem PySem.Spec PyProof.Rows BW
theorem rv_str {K : PySem.W.Frag} {H : Hp} {x : Str} : ReadV K H (.str x) (.str x) := fun X pins σ s u _ _ r => by
  obtain ⟨t, rfl⟩ := r
  exact ⟨[], .str x t⟩
end L2
namespace L2
open PySem PySem.Spec PyProof.Rows BW
end L2
set_option Elab.async false
set_option linter.all false
set_option maxRecDepth 100000
set_option maxHeartbeats 4000000
namespace L2
open PySem PySem.Spec PyProof.Rows BW
end L2
set_option Elab.async false
set_option linter.all false
set_option maxRecDepth 100000
set_option maxHeartbeats 4000000
namespace L2
open PySem PySem.Spec PyProof.Rows BW
section
variable {prog : Program} {w : World} {A : Around} {s : Shared} {R : Result → Shared → Prop}
variable {I : Addr} {fp wr : List Addr} {G : Array GenState → Array GenState → Prop} {n : Nat} {P : Nat → Value → Prop} {St : Nat → Shared → Prop}
end
section
variable {prog : Program} {w : World} {A : Around} {E : Value → Shared → Prop} {s : Shared}
variable {I : Addr} {fp wr : List Addr} {G : Array GenState → Array GenState → Prop} {n : Nat} {P : Nat → Value → Prop} {St : Nat → Shared → Prop}
end
end L2
set_option Elab.async false
set_option linter.all false
set_option maxRecDepth 100000
set_option maxHeartbeats 4000000
namespace L2
open PySem PySem.Spec PyProof.Rows BW
end L2
namespace L2
open PySem PySem.Spec PyProof.Rows BW
end L2
namespace L2
open PySem PySem.Spec PyProof.Rows BW
end L2
set_option Elab.async false
set_option linter.all false
set_option maxRecDepth 100000
set_option maxHeartbeats 4000000
namespace L2
open PySem PySem.Spec PyProof.Rows BW
end L2
set_option Elab.async false
set_option linter.all false
set_option maxRecDepth 100000
set_option maxHeartbeats 4000000
namespace L2
open PySem PySem.Spec PyProof.Rows BW
end L2
set_option Elab.async false
set_option linter.all false
set_option maxRecDepth 100000
set_option maxHeartbeats 4000000
namespace L2
open PySem PySem.Spec PyProof.Rows
def RelOV : Option V → Option Value → Prop
  | none, none => True
  | some v, some u => RelV v u
  | _, _ => False
structure TabGet (K : PySem.W.Frag) (w : World) (a : Addr) (k : Str) (r : Option V) : Prop where
  ex : ∃ es n ov, K.lookup a = some ⟨.type "dict", none, .dict es n, #[]⟩ ∧ PySem.W.KeysLit w.params es.toList ∧ PySem.W.nsIn K a k = some ov ∧ RelOV r ov
  lo : (a == sysModules) = false
def rTab (K : PySem.W.Frag) (w : World) : R2 := fun x y H Q => ∃ a k v, x = .ref a ∧ y = .str k ∧ TabGet K w a k (some v) ∧ Q v H
section
variable {X : Cx}
theorem ix_tab : IxR X (rTab X.K X.w) := by
  intro value slice pins s σ H x y v u Q I rx ry h hs
  obtain ⟨a, k, z, rfl, rfl, ⟨⟨es, n, ov, hl, hk, e, r⟩, lo⟩, q⟩ := h
  cases rx
  obtain ⟨t, rfl⟩ := ry
  cases ov with
  | none => exact r.elim
  | some ov =>
    have mp := PySem.W.mapOf_K (prog := X.prog) I.kIn hl hk
    exact tail_any mp.typeIs slot_dict_getitem.lookup (wpAny_getItem_of (strKind_is X.prog X.w k t) mp (PySem.W.find_K hl e) ⟨z, H, I.tok _, r, q⟩) hs
theorem ix_tabK {K : PySem.W.Frag} {w : World} (h : X.K = K) (h2 : X.w = w) : IxR X (rTab K w) := by
  subst h h2
  exact ix_tab
def tTab1 (K : PySem.W.Frag) (w : World) (td ty : TE) : TE := fun σ H Q => td σ H fun x H1 => ∃ a, x = .ref a ∧ (∃ k r, TabGet K w a k r) ∧ ty σ H1 fun y H2 => ∃ k r, y = .str k ∧ TabGet K w a k r ∧ Q (r.getD .non) H2
theorem pe_tget {K : PySem.W.Frag} {w : World} {o e : Expr} {apos cpos : Pos} {td ty : TE} (h1 : X.K = K) (h2 : X.w = w) (ho : PE X o td) (he : PE X e ty)
    (hbase : attributeBase o "get" X.env (eval o X.env) = eval o X.env := by rfl)
    (hfew : ((backTo cpos (starEach [e] X.env)).all (fun x => !x.1) && (backToKw cpos (keywordEach [] X.env)).all (fun x => x.1.isSome) && decide (([e] : List Expr).length + ([] : List Keyword).length + (if ([] : List Keyword).isEmpty then 0 else 1) < 30)) = true := by rfl)
    (hline : (apos.endLine == cpos.line) = true := by rfl) (htr : backTo cpos (starEach [e] X.env) = [(false, eval e X.env)] := by rfl) :
    PE X (.Call (.Attribute o "get" apos) [e] [] cpos) (tTab1 K w td ty) := by
  subst h1 h2
  intro pins s σ H Q I h
  refine wpAny_Call_method hbase hfew hline PySem.F.plainAttrs_dict PySem.F.slot_dict_get PySem.F.type_dict_get (thn (ho pins s σ H _ I h) fun u s1 ⟨x, H1, I1, rx, a, ex, ⟨k0, r0, d⟩, q1⟩ => ?_)
  subst ex
  obtain rfl : u = Value.ref a := rx
  obtain ⟨⟨es, n, ov, hl, hk, _, _⟩, lo⟩ := d
  have m1 := PySem.W.mapOf_K (prog := X.prog) I1.kIn hl hk
  refine ⟨m1.typeIs, fun b q => ?_, ?_⟩
  · cases q
    exact ⟨_, I1.kIn _ _ hl, rfl⟩
  rw [htr]
  refine Calls.callWith_builtin rfl (Calls.evalArgs_plain (Calls.spliced_cons (thn (he pins s1 σ H1 _ I1 q1) fun iv s2 ⟨y, H2, I2, ry, k, r, ey, ⟨⟨es', n', ov', hl', hk', e', r'⟩, lo'⟩, q2⟩ => Calls.spliced_nil ?_)))
  subst ey
  obtain ⟨t, rfl⟩ := ry
  have m2 := PySem.W.mapOf_K (prog := X.prog) I2.kIn hl' hk'
  refine call_meetsIn PySem.F.slot_dict_get m2.typeIs PySem.F.entry_dict_get (PySem.F.args_dict_get_2 _ _) (meets_dict_get (strKind X.prog X.w) a (strKind_is X.prog X.w k t) lo') ⟨_, m2, ?_⟩
  rw [PySem.W.find_K hl' e']
  cases r with
  | none =>
    cases ov' with
    | none => exact ⟨.non, H2, I2.tok _, rfl, q2⟩
    | some _ => exact r'.elim
  | some v =>
    cases ov' with
    | none => exact r'.elim
    | some u => exact ⟨v, H2, I2.tok _, r', q2⟩
end
structure DefV (P : Program) (w : World) (K : PySem.W.Frag) (mg : Str → Option Value) (base : Heap) (k : Nat) (f : Addr) (sp : Sp) : Prop where
  ex : ∃ fd ps, PySem.W.keepIn K (.ref f) = true ∧ Binds K fd ps [] ∧ FnOk P w K mg base CX0 k f fd ps sp
theorem Def.v {P : Program} {w : World} {K : PySem.W.Frag} {mg : Str → Option Value} {base : Heap} {k : Nat} {x : Str} {ps : List Str} {sp : Sp} {f : Addr} (D : Def P w K mg base k x ps sp) (h : mg x = some (.ref f)) : DefV P w K mg base k f sp := by
  obtain ⟨f', fd, hm, hk, hb, F, _⟩ := D.ex
  rw [h] at hm
  cases hm
  exact ⟨fd, ps, hk, hb, F⟩
def tCallV (P : Program) (w : World) (K : PySem.W.Frag) (mg : Str → Option Value) (base : Heap) (k : Nat) (tf : TE) (t : TA) : TE := fun σ H Q => tf σ H fun x H1 => ∃ (f : Addr) (sp : Sp), x = .ref f ∧ DefV P w K mg base k f sp ∧ t σ H1 fun vs H2 => sp vs H2 Q E0
theorem pe_defV {X : Cx} {k : Nat} {x : Str} {p pos : Pos} {e : Expr} {es : List Expr} {tf : TE} {t : TA} (hr : Room k X.A) (hf : PE X (.Name x p) tf) (ha : PA X (e :: es) t)
    (he : starEach (e :: es) X.env = (false, eval e X.env) :: starEach es X.env := by rfl) (hpl : (backTo pos (starEach es X.env)).any (·.1) = false := by rfl) :
    PE X (.Call (.Name x p) (e :: es) [] pos) (tCallV X.prog X.w X.K X.mg X.base k tf t) := by
  intro pins s σ H Q I h
  refine wpAny_Call_Name_kw (thn (hf pins s σ H _ I h) fun u s1 ⟨y, H1, I1, r1, f, sp, ey, ⟨fd, ps, hk, hb, F⟩, q1⟩ => ?_)
  subst ey
  obtain rfl : u = Value.ref f := r1
  refine PySem.W.callWith_K (h₀ := X.base) I1.ok.mod.kin hk (thn (ha pos pins s1 σ H1 _ I1 q1) fun us s2 ⟨vs, H2, I2, r, q⟩ => ⟨I2.kIn, ?_⟩) he hpl
  exact run_fn F hr hb .nil pass0 I2 r (by rw [List.append_nil]; exact q)
theorem strs_of : ∀ {ts : List Str} {us : List Value}, Vals (ts.map V.str) us → ∃ l : List (Str × Tok), us = strValues l ∧ l.map (·.1) = ts
  | [], _, .nil => ⟨[], rfl, rfl⟩
  | t :: ts, _, .cons ⟨k, e⟩ r => by
    obtain ⟨l, h1, h2⟩ := strs_of (ts := ts) r
    exact ⟨(t, k) :: l, by rw [e, h1]; rfl, by rw [List.map_cons, h2]⟩
def rJoin (K : PySem.W.Frag) : V → List V → Hp → VK → Prop := fun x xs H Q => ∃ (y : Str) (l : Addr) (ts : List Str), x = .str y ∧ xs = [.ref l] ∧ SqL K H l (ts.map V.str) ∧ JoinOk y ts = true ∧ Q (.str (Txt.join y ts)) H
theorem mt_join {X : Cx} : MtR X "str.join" (rJoin X.K) := by
  intro pins s σ H x xs v us Q I rx r h
  obtain ⟨y, l, ts, rfl, rfl, hl, hj, q⟩ := h
  obtain ⟨t, rfl⟩ := rx
  obtain ⟨u, rfl, ru⟩ := vals1 r
  obtain rfl : u = Value.ref l := ru
  obtain ⟨its, rv, pl, hz⟩ := I.list hl
  obtain ⟨ps, rfl, e⟩ := strs_of rv
  exact SC.join pl.isList e hj fun t' k => ⟨.str _, H, I.tok _, ⟨t', rfl⟩, q⟩
theorem mt_joinK {X : Cx} {K : PySem.W.Frag} (h : X.K = K) : MtR X "str.join" (rJoin K) := h ▸ mt_join
def rInsert : V → List V → Hp → VK → Prop := fun x vs H Q => ∃ (l : Addr) (xs : List V) (i : Nat) (y : V), x = .ref l ∧ vs = [.int (i : Int), y] ∧ H l = some (.lst xs) ∧ i ≤ xs.length ∧ xs.length < sizeLine ∧ Q .non (upd H l (.lst (xs.take i ++ y :: xs.drop i)))
theorem call_insert {P : Program} {w : World} {A : Around} {E : Value → Shared → Prop} {s : Shared} {l : Addr} {its : Array Value} {n : Nat} {x : Int} {t : Tok} {y : Value} {Q : Value → Shared → Prop} (hf : ¬(!Builtin.List.listFitsIndex x) = true) (hz : its.size ≤ sizeLine) (e : s.heap.get? l = some { cls := .type "list", data := .seq its n })
    (q : Q .none { s with heap := s.heap.update l (Obj.mapSeq fun xs => (xs.extract 0 (if x < 0 then (x + (xs.size : Int)).toNat else min x.toNat xs.size)).push y ++ xs.extract (if x < 0 then (x + (xs.size : Int)).toNat else min x.toNat xs.size)) }) : wpAny (model P w) A (call (.builtin "list.insert") [.ref l, .int x t, y]) Q E s :=
  call_meets F.slot_list_insert ⟨_, e, rfl⟩ F.entry_list_insert (F.args_list_insert_3 _ _ _) (AutoSeq1.list_insert_list_int_val_1 l its n x t y hf hz) ⟨e, q⟩
theorem mt_insert {X : Cx} : MtM X "list.insert" rInsert := by
  intro pins s σ H x vs v us Q I rx rv h
  obtain ⟨l, xs, i, y, rfl, rfl, hH, hi, hz, q⟩ := h
  cases rx
  obtain ⟨u1, u2, rfl, ⟨t, rfl⟩, r2⟩ := vals2 rv
  obtain ⟨z, its, n, r, hl, e⟩ := I.lstM hH
  have hsl := sizeLine_eq
  have hlen : its.length = xs.length := r.length.symm
  have hf : Builtin.List.listFitsIndex (i : Int) = true := by
    unfold Builtin.List.listFitsIndex
    rw [Bool.and_eq_true, decide_eq_true_eq, decide_eq_true_eq]
    rw [hsl] at hz
    omega
  refine call_insert (by rw [hf]; exact Bool.false_ne_true) (by rw [List.size_toArray, hlen]; exact Nat.le_of_lt hz) e ?_
  refine ⟨.non, _, I.lset (its' := its.take i ++ u2 :: its.drop i) (ys := xs.take i ++ y :: xs.drop i) hH e ?_ ?_ ?_, rfl, q⟩
  · rw [if_neg (by omega)]
    have e1 : min (i : Int).toNat its.toArray.size = i := by rw [List.size_toArray, Int.toNat_natCast]; omega
    rw [e1]
    simp
    exact List.take_of_length_le (by simp)
  · exact (Vals.take i r).append (.cons r2 (Vals.drop i r))
  · simp
    omega
theorem ps_tryN {X : Cx} {st : Stmt} {h0 : ExceptHandler} {hs : List ExceptHandler} {pos : Pos} {t : TS} (hx : ∀ v s, X.xe v s → False) (h : PS X st t) : PS X (.Try [st] (h0 :: hs) [] [] pos) t := by
  intro pins s σ H D I q
  refine wpAny_Try_except (wpAny_execs_cons (wpAny_mono (h pins s σ H D I q) (fun f s1 q => ?_) fun v s z => (hx v s z).elim))
  cases f with
  | next => exact wpAny_execs_nil (wpAny_execs_nil q)
  | ret v => exact q
  | brk => exact q
  | cont => exact q
end L2
set_option Elab.async false
set_option linter.all false
set_option maxRecDepth 100000
set_option maxHeartbeats 4000000
namespace L2
open PySem PySem.Spec PyProof.Rows
section
variable {P : Program} {w : World} {A : Around} {E : Value → Shared → Prop} {s : Shared} {it t : Addr} {i : Nat} {us : Array Value}
theorem draw_tup {x : Value} {Q : Value → Shared → Prop} (hi : IsTupIter s.heap it t i) (ht : IsTup s.heap t us) (hx : us[i]? = some x)
    (q : ∀ h', IsTupIter h' it t (i + 1) → Heap.SameBut it s.heap h' → Q x { s with heap := h' }) : wpAny (model P w) A (Builtin.SmallTypes.nextOf (.ref it)) Q E s := by
  have ty := hi.typeIs
  obtain ⟨ob, g1, g2, g3⟩ := hi
  obtain ⟨ot, k1, _, m, k2⟩ := ht
  unfold Builtin.SmallTypes.nextOf
  refine wpAny_bind (wpAny_callSpecial?_slot (name := Str.ofString "__next__") ty slot_tupleiter_next (wpAny_call_entry slot_tupleiter_next ty entry_tupleiter_next ?_ (args_tupleiter_next _)))
  refine wpAny_bind (m := field (.ref it) 0) (wpAny_field g1 g3 (x := .ref t) rfl ?_)
  change wpAny _ _ (if (Value.ref t == Value.none) = true then _ else _) _ _ s
  rw [if_neg (by simp)]
  refine wpAny_bind (m := field (.ref it) 1) (wpAny_field g1 g3 (x := .int i 0) rfl ?_)
  refine wpAny_bind (m := seqItems? (.ref t)) (wpAny_seqItems k1 k2 ?_)
  simp only [hx, Int.toNat_natCast]
  refine wpAny_bind (wpAny_setField g1 g3 (by simp) (wpAny_pure ⟨_, rfl, wpAny_pure (q _ ⟨_, Heap.get?_update_self _ g1 (Obj.isFreed_of_fields (Obj.data_mapFields g3 _)), ?_, ?_⟩ (Heap.SameBut.update ..))⟩))
  · rw [Obj.cls_mapFields, g2]
  · rw [Obj.data_mapFields g3]
    simp [rawInt]
theorem drawn_tup {Q : Value → Shared → Prop} (hh : A.handled = none) (hi : IsTupIter s.heap it t i) (ht : IsTup s.heap t us) (hx : us[i]? = none)
    (q : ∀ h' e, Heap.ExtBut it s.heap h' → (∃ o, h'.get? e = some o ∧ o.cls = .type "StopIteration") → E (.ref e) { s with heap := h' }) : wpAny (model P w) A (Builtin.SmallTypes.nextOf (.ref it)) Q E s := by
  have ty := hi.typeIs
  obtain ⟨ob, g1, g2, g3⟩ := hi
  obtain ⟨ot, k1, _, m, k2⟩ := ht
  unfold Builtin.SmallTypes.nextOf
  refine wpAny_bind (wpAny_callSpecial?_slot (name := Str.ofString "__next__") ty slot_tupleiter_next (wpAny_call_entry slot_tupleiter_next ty entry_tupleiter_next ?_ (args_tupleiter_next _)))
  refine wpAny_bind (m := field (.ref it) 0) (wpAny_field g1 g3 (x := .ref t) rfl ?_)
  change wpAny _ _ (if (Value.ref t == Value.none) = true then _ else _) _ _ s
  rw [if_neg (by simp)]
  refine wpAny_bind (m := field (.ref it) 1) (wpAny_field g1 g3 (x := .int i 0) rfl ?_)
  refine wpAny_bind (m := seqItems? (.ref t)) (wpAny_seqItems k1 k2 ?_)
  simp only [hx, Int.toNat_natCast]
  refine wpAny_bind (wpAny_rule (wpAny_bind (wpAny_setField g1 g3 (by simp) ?_)))
  refine wpAny_bind (m := newExc (.type "StopIteration") []) ?_
  simp only [newExc, newTuple]
  refine wpAny_bind (wpAny_newObj_type (wpAny_bind (m := firstArgMember _ _) (wpAny_of_eq (a := Value.none) (by first | rfl | (simp only [firstArgMember]; rfl)) ?_)) (by size_fits))
  refine wpAny_newObj_type ?_ (by size_fits)
  simp only [raiseNew]
  refine wpAny_bind (wpAny_handled ?_)
  have hh' : A.in1.handled = none := hh
  rw [hh']
  refine wpAny_bind (wpAny_pure (wpAny_throw (q _ _ (((Heap.SameBut.update ..).extBut.push _).push _) ⟨_, Heap.get?_push_size _ rfl, rfl⟩)))
end
theorem draws_tup {P : Program} {w : World} {A : Around} (hh : A.handled = none) (it t : Addr) (ne : t ≠ it) (us : Array Value) : Draws P w A it [it, t] us.size (fun i v => us[i]? = some v) (fun i h => IsTupIter h it t i ∧ IsTup h t us) where
  live := fun _ _ st => by
    obtain ⟨⟨o, ho, _⟩, _⟩ := st
    exact ⟨o, ho⟩
  frame := fun _ _ _ st hk => by
    obtain ⟨⟨o, ho, r⟩, o', ho', r'⟩ := st
    exact ⟨⟨o, hk it (by simp) o ho, r⟩, o', hk t (by simp) o' ho', r'⟩
  item := fun i s Q E hi st q => by
    refine draw_tup st.1 st.2 (x := us[i]) (by simp [hi]) fun h' a b => ?_
    exact q _ h' s.toks (by simp [hi]) ⟨a, st.2.extBut b.extBut ne⟩ b
  done := fun s Q E st q => drawn_tup hh st.1 st.2 (by simp) q
theorem enumT_new (l : Addr) (us : Array Value) : Meets (Builtin.«enumerate.__new__» ⟨[.type "enumerate", .ref l], []⟩) (fun _ R s => IsTup s.heap l us ∧
      R (.ok (.ret (.ref (s.heap.push { cls := .type "tuple_iterator", data := .fields #[.ref l, .int 0 0] }).objs.size)))
        { s with heap := (s.heap.push { cls := .type "tuple_iterator", data := .fields #[.ref l, .int 0 0] }).push { cls := .type "enumerate", data := .fields #[.none, .bool false, .ref s.heap.objs.size, rawInt 0, .none, .none] } }) :=
  .of_wp fun prog w A R s h => by
    obtain ⟨hp, g, d, tk, os⟩ := s
    obtain ⟨ht, h⟩ := h
    have sb := sub_enumerate
    have hT : Heap.IsTuple (Shared.heap ⟨hp, g, d, tk, os⟩) l us := ht
    obtain ⟨ob, e1, e2, m, e3⟩ := id ht
    wp_walk using AutoSeq1.wpAny_loadPart' e1
    refine wpAny_stack_any fun st => wpAny_pure ?_
    split
    · rename_i c _ _ _ _ _
      cases (c == Value.type "enumerate")
      all_goals
        wp_walk using AutoSeq1.wpAny_loadPart' e1, wpAny_pyIter_tuple hT
        exact ⟨_, rfl, h⟩
    · wp_walk using AutoSeq1.wpAny_loadPart' e1, wpAny_pyIter_tuple hT
      exact ⟨_, rfl, h⟩
theorem call_enumT {P : Program} {w : World} {A : Around} {E : Value → Shared → Prop} {s : Shared} {l : Addr} {us : Array Value} {Q : Value → Shared → Prop} (ht : IsTup s.heap l us)
    (q : ∀ h', IsEnum h' (s.heap.objs.size + 1) s.heap.objs.size 0 .none → IsTupIter h' s.heap.objs.size l 0 → (∀ b o, s.heap.get? b = some o → h'.get? b = some o) → Q (.ref (s.heap.objs.size + 1)) { s with heap := h' }) :
    wpAny (model P w) A (call (.type "enumerate") [.ref l]) Q E s := by
  refine callType_new F.called_enumerate (by decide) (F.typeCall_enumerate_1 _) (F.newCall_enumerate_1 _) (fun obj => F.args_object_init_2 obj _) F.entry_enumerate_new (enumT_new l us) ⟨ht, ?_⟩
  have hz : (s.heap.push { cls := .type "tuple_iterator", data := .fields #[.ref l, .int 0 0] }).objs.size = s.heap.objs.size + 1 := Heap.size_push ..
  show _ ∧ _
  rw [hz]
  have hE : ∀ h1 : Heap, h1.objs.size = s.heap.objs.size + 1 → IsEnum (h1.push { cls := .type "enumerate", data := .fields #[.none, .bool false, .ref s.heap.objs.size, rawInt 0, .none, .none] }) (s.heap.objs.size + 1) s.heap.objs.size 0 .none := fun h1 e => by
    rw [← e]
    exact Heap.get?_push_size h1 rfl
  exact ⟨⟨_, hE _ hz, rfl⟩, q _ (hE _ hz) ⟨_, Heap.get?_push_of_some _ (Heap.get?_push_size _ rfl), rfl, rfl⟩ fun b o x => Heap.get?_push_of_some _ (Heap.get?_push_of_some _ x)⟩
def IteT (K : PySem.W.Frag) (a : Addr) : It :=
  ⟨fun i H => ∃ xs x, SqT K H a xs ∧ xs[i]? = some x, fun i H x H' => ∃ T, H T = none ∧ x = .ref T ∧ ∀ xs, SqT K H a xs → ∃ v, xs[i]? = some v ∧ H' = upd H T (.tup [.int i, v]), fun i H => ∃ xs, SqT K H a xs ∧ xs.length ≤ i⟩
theorem turn_enumT {P : Program} {w : World} {K : PySem.W.Frag} {elts : List Expr} {tk : Nat} {tp : Pos} (a e it : Addr) (hne : e ≠ it) :
    Turn P w K (.Tuple elts tk tp) (IteT K a) [e, it] e (fun i h => (∃ old, IsEnum h e it (i : Nat) old) ∧ IsTupIter h it a i) where
  mem := by simp
  obj := fun i h st b hb => by
    obtain ⟨⟨old, he⟩, o, h1, h2, h3⟩ := st
    have hb' : b = e ∨ b = it := by simpa using hb
    rcases hb' with rfl | rfl
    · exact ⟨_, he, fun v z => by
        have z' : Data.fields _ = Data.cell v := z
        cases z'⟩
    · exact ⟨o, h1, fun v z => by rw [h3] at z; cases z⟩
  keep := fun i h h' st k => by
    obtain ⟨⟨old, he⟩, o, h1, r⟩ := st
    exact ⟨⟨old, k e (by simp) _ he⟩, o, k it (by simp) o h1, r⟩
  item := by
    intro X hP hw hK hc i pins s σ H E I hf st hg
    subst hP hw hK
    obtain ⟨⟨old, he⟩, hit⟩ := st
    obtain ⟨xs, x, hq, hx⟩ := hg
    obtain ⟨its, rv, p, hz⟩ := I.tuple hq
    obtain ⟨u, hu, ru⟩ := rv.get hx
    have ht : IsTup s.heap a its.toArray := p
    obtain ⟨oa, ha1, ha2, _⟩ := id ht
    obtain ⟨oi, hi1, hi2, _⟩ := id hit
    have hai : a ≠ it := fun z => by
      rw [z, hi1] at ha1
      cases ha1
      rw [hi2] at ha2
      exact absurd (Value.type.inj ha2) (by decide)
    have hae : e ∉ [it, a] := fun z => by
      have z' : e = it ∨ e = a := by simpa using z
      rcases z' with z' | z'
      · exact hne z'
      · rw [← z', he] at ha1
        cases ha1
        exact absurd (Value.type.inj ha2) (by decide)
    have helt : e < s.heap.objs.size := Heap.lt_size he
    refine wpAny_pyNext_enum_itemD (draws_tup (A := X.A.in1) (I.ok.hd hc) it a hai its.toArray) he ⟨hit, ht⟩ (by simpa using (List.getElem?_eq_some_iff.mp hu).1) hne hae fun y h' tk hy heo hst hT hsz hk => ?_
    have ey : y = u := by
      have h0 : its[i]? = some y := by simpa using hy
      rw [hu] at h0
      exact (Option.some.inj h0).symm
    subst ey
    refine ⟨_, rfl, wpAny_letOwnedTupleGo_enum heo fun h2 he2 hs2 => ?_⟩
    have hT2 : h2.get? s.heap.objs.size = some { cls := .type "tuple", data := .seq #[.int i tk, y] } := (hs2.2 _ (Nat.ne_of_gt helt)).trans hT
    have I2 : Inv X pins σ (upd H s.heap.objs.size (.tup [.int i, x])) { s with heap := h2, toks := tk + 1 } :=
      I.turnNew (e := e) (it := it) (fun b o h1 h3 q => (hs2.2 b h1).trans (hk b o h1 h3 q)) (hf e (by simp)) (hf it (by simp)) rfl
        ⟨by show 2 ≤ sizeLine; rw [sizeLine_eq]; decide, [.int i tk, y], .cons ⟨_, rfl⟩ (.cons ru .nil), ⟨_, hT2, rfl, _, rfl⟩⟩
    obtain ⟨o3, g1, g2⟩ := hst.1
    refine ⟨.ref s.heap.objs.size, _, I2, rfl, ⟨_, I.fresh, rfl, fun ys hy => ⟨x, by rw [I.tuple_inj hy hq]; exact hx, rfl⟩⟩, ⟨⟨y, ?_⟩, o3, (hs2.2 it hne.symm).trans g1, g2⟩, fun b hb => ?_⟩
    · have e1 : ((i + 1 : Nat) : Int) = (i : Int) + 1 := by simp
      rw [e1]
      exact he2
    · have hl : b < s.heap.objs.size := by
        have hb' : b = e ∨ b = it := by simpa using hb
        rcases hb' with rfl | rfl
        · exact helt
        · exact Heap.lt_size hi1
      rw [upd_ne (Nat.ne_of_lt hl)]
      exact (hf b hb).1
  done := by
    intro X hP hw hK hc i pins s σ H E I hf st hg
    subst hP hw hK
    obtain ⟨⟨old, he⟩, hit⟩ := st
    obtain ⟨xs, hq, hx⟩ := hg
    obtain ⟨its, rv, p, hz⟩ := I.tuple hq
    have ht : IsTup s.heap a its.toArray := p
    obtain ⟨f0, f1, f2, f3, f4, f5⟩ := hf it (by simp)
    have hl := rv.length
    obtain ⟨oa, ha1, ha2, _⟩ := id ht
    obtain ⟨oi, hi1, hi2, _⟩ := id hit
    have hai : a ≠ it := fun z => by
      rw [z, hi1] at ha1
      cases ha1
      rw [hi2] at ha2
      exact absurd (Value.type.inj ha2) (by decide)
    have D0 := draws_tup (P := X.prog) (w := X.w) (A := X.A.in1) (I.ok.hd hc) it a hai its.toArray
    have hT : s.TypeIs (.ref e) "enumerate" := ⟨_, he, rfl⟩
    unfold pyNext
    refine wpAny_bind (wpAny_attempt (wpAny_callSpecial?_slot (name := Str.ofString "__next__") hT F.slot_enumerate_next (wpAny_call_entry F.slot_enumerate_next hT F.entry_enumerate_next ?_ (F.args_enumerate_next_1 _))))
    refine wpAny_bind (m := field (.ref e) 2) (wpAny_field he rfl (x := .ref it) rfl ?_)
    refine wpAny_bind (drawn_tup (I.ok.hd hc) hit ht (by simp; omega) fun h' x eb hx' => ?_)
    obtain ⟨o, ho, hc'⟩ := hx'
    refine wpAny_bind (wpAny_isInstance (T := "StopIteration") (b := true) ⟨o, ho, hc'⟩ isSubtype_stop ?_)
    exact wpAny_pure ⟨rfl, I.turned (t' := s.toks) (fun b o hb e => eb b o hb e) f0 f1 f3 f4 f5⟩
  self := fun A i s Q E st h => by
    obtain ⟨⟨old, he⟩, _⟩ := st
    exact wpAny_pyIter_enum he h
section
variable {X : Cx}
def iEnumT (K : PySem.W.Frag) (ta : TA) : TI := fun σ H R => ta σ H fun vs H1 => ∃ a, vs = [.ref a] ∧ (∃ xs, SqT K H1 a xs) ∧ R (IteT K a) H1
theorem pi_enumTK {K : PySem.W.Frag} {l : Expr} {ta : TA} {p pos tp : Pos} {elts : List Expr} {tk : Nat} (hK : X.K = K) (hg : Gl X "enumerate") (hm : X.mg "enumerate" = none) (ha : PA X [l] ta) (hs : starEach [l] X.env = [(false, eval l X.env)] := by rfl) :
    PI X (.Tuple elts tk tp) (.Call (.Name "enumerate" p) [l] [] pos) (iEnumT K ta) := by
  subst hK
  intro pins s σ H R I h
  refine Call_ (ld_blt I hg hm boot_enumerate' (PyProof.Rows.callWith_type1 (thn (ha pos pins s σ H _ I h) fun us s1 ⟨vs, H1, I1, r1, q1⟩ => ?_) hs rfl))
  obtain ⟨a, ev, ⟨xs, hq⟩, q⟩ := q1
  subst ev
  obtain ⟨u, rfl, ru⟩ := vals1 r1
  obtain rfl : u = Value.ref a := ru
  obtain ⟨its, rv, pl, hz⟩ := I1.tuple hq
  refine call_enumT (show IsTup s1.heap a its.toArray from pl) fun h' he hit hk => wpAny_pyIter_enum he ?_
  refine ⟨s1.heap.objs.size + 1, [s1.heap.objs.size + 1, s1.heap.objs.size], _, _, H1, rfl, I1.kept (t' := s1.toks) hk, turn_enumT a _ _ (Nat.succ_ne_self _), ⟨⟨_, he⟩, hit⟩, fun b hb => ?_, q⟩
  have hle : s1.heap.objs.size ≤ b := by
    have hb' : b = s1.heap.objs.size + 1 ∨ b = s1.heap.objs.size := by simpa using hb
    rcases hb' with rfl | rfl
    · exact Nat.le_succ _
    · exact Nat.le_refl _
  exact I1.fpOk hle (I1.hok.fresh hle)
end
theorem for_enumT {K : PySem.W.Frag} {a : Addr} {xs : List V} {g : TG} {tb : TS} {D : Ends} {σ : St} {H : Hp} (Pv : Nat → St → Hp → Prop) (h0 : Pv 0 σ H) (hl : ∀ i σ H, i ≤ xs.length → Pv i σ H → SqT K H a xs)
    (hs : ∀ i x σ H T, xs[i]? = some x → Pv i σ H → H T = none → g (.ref T) σ (upd H T (.tup [.int i, x])) fun σ2 H2 => tb { D with nx := Pv (i + 1), ct := Pv (i + 1), bk := D.nx } σ2 H2) (hd : ∀ σ H, Pv xs.length σ H → D.nx σ H) :
    ∃ W : Nat → Nat → St → Hp → Prop, (∃ m, W 0 m σ H) ∧ ∀ i m σ H, W i m σ H →
      ((IteT K a).stop i H ∧ D.nx σ H) ∨ ((IteT K a).go i H ∧ ∃ N : St → Hp → Prop, (∀ σ' H', N σ' H' → ∃ m', m' < m ∧ W (i + 1) m' σ' H') ∧ ∀ x H', (IteT K a).yld i H x H' → g x σ H' fun σ2 H2 => tb { D with nx := N, ct := N, bk := D.nx } σ2 H2) := by
  refine ⟨fun i m σ H => m = xs.length - i ∧ i ≤ xs.length ∧ Pv i σ H, ⟨xs.length, by simp, Nat.zero_le _, h0⟩, ?_⟩
  rintro i m σ H ⟨rfl, hi, p⟩
  have q := hl i σ H hi p
  by_cases hlt : i < xs.length
  · refine .inr ⟨⟨xs, xs[i], q, by simp [hlt]⟩, Pv (i + 1), fun σ' H' p' => ⟨xs.length - (i + 1), by omega, rfl, hlt, p'⟩, fun x H' y => ?_⟩
    obtain ⟨T, hT, rfl, y⟩ := y
    obtain ⟨v, hv, rfl⟩ := y xs q
    exact hs i v σ H T hv p hT
  · obtain rfl : i = xs.length := by omega
    exact .inl ⟨⟨xs, q, Nat.le_refl _⟩, hd σ H p⟩
end L2
set_option Elab.async false
set_option linter.all false
set_option maxRecDepth 100000
set_option maxHeartbeats 4000000
namespace L2
open PySem PySem.Spec PyProof.Rows
theorem tupIter_at {h h' : Heap} {a t i} (x : IsTupIter h a t i) (k : ∀ o, h.get? a = some o → h'.get? a = some o) : IsTupIter h' a t i := by
  obtain ⟨o, ho, r⟩ := x
  exact ⟨o, k o ho, r⟩
section
variable {P : Program} {w : World} {A : Around} {E : Value → Shared → Prop} {s : Shared} {z TI TO i1 i2 l1 l2 : Addr} {k : Nat} {xs ys : Array Value} {x y a b : Value}
theorem zipT_item {Q : Option Value → Shared → Prop} (D : ZipApart z TI TO i1 i2 l1 l2) (hz : IsZip s.heap z TI TO .none) (hTI : IsPair s.heap TI (.ref i1) (.ref i2)) (hTO : IsPair s.heap TO a b)
    (h1 : IsTupIter s.heap i1 l1 k) (h2 : IsTupIter s.heap i2 l2 k) (t1 : IsTup s.heap l1 xs) (t2 : IsTup s.heap l2 ys) (hx : xs[k]? = some x) (hy : ys[k]? = some y)
    (q : ∀ h', IsZip h' z TI TO (rawInt s.heap.objs.size) → IsPair h' TO x y → IsTupIter h' i1 l1 (k + 1) → IsTupIter h' i2 l2 (k + 1) → IsPair h' s.heap.objs.size x y →
      (∀ c o, c ≠ z → c ≠ TO → c ≠ i1 → c ≠ i2 → s.heap.get? c = some o → h'.get? c = some o) → Q (some (.ref s.heap.objs.size)) { s with heap := h' }) : wpAny (model P w) A (pyNext (.ref z)) Q E s := by
  have ty : s.TypeIs (.ref z) "zip" := ⟨_, hz, rfl⟩
  unfold pyNext
  refine wpAny_bind (wpAny_attempt (wpAny_callSpecial?_slot (name := Str.ofString "__next__") ty F.slot_zip_next (wpAny_call_entry F.slot_zip_next ty F.entry_zip_next ?_ (F.args_zip_next_1 _))))
  refine wpAny_bind (m := field (.ref z) 2) (wpAny_field hz rfl (x := .bool false) rfl ?_)
  refine wpAny_bind (m := field (.ref z) 3) (wpAny_field hz rfl (x := .ref TI) rfl (wpAny_bind (wpAny_seqItems hTI rfl ?_)))
  refine wpAny_bind (m := Builtin.SmallTypes.ownedTupleIsFree (.ref z)) ?_
  unfold Builtin.SmallTypes.ownedTupleIsFree
  refine wpAny_bind (wpAny_field hz rfl (x := .none) rfl (wpAny_pure ?_))
  simp only [if_true]
  refine wpAny_bind (wpAny_rule (wpAny_bind (wpAny_field hz rfl (x := .ref TO) rfl (wpAny_bind (wpAny_setField_rec hz (by simp) fun ha za sa => wpAny_bind ?_)))))
  have za' : IsZip ha z TI TO .ellipsis := za
  simp only [List.zipIdx_cons, List.zipIdx_nil, List.forIn_cons, List.forIn_nil]
  refine wpAny_bind (wpAny_bind (wpAny_onRaise (wpAny_bind (m := Builtin.SmallTypes.nextOf (.ref i1)) ?_)))
  refine draw_tup (h1.extBut sa.extBut D.i1z) (t1.extBut sa.extBut D.l1z) hx fun hb ib sb => wpAny_pure ?_
  have ob : IsPair hb TO a b := sb.extBut _ _ D.TOi1 (sa.extBut _ _ D.TOz hTO)
  refine wpAny_bind (wpAny_seqItems ob rfl (wpAny_bind (wpAny_updateSeq_pair ob fun hc oc sc => wpAny_bind (wpAny_letGo (wpAny_pure ?_)))))
  have oc' : IsPair hc TO x b := oc
  refine wpAny_bind (wpAny_bind (wpAny_onRaise (wpAny_bind (m := Builtin.SmallTypes.nextOf (.ref i2)) ?_)))
  refine draw_tup (((h2.extBut sa.extBut D.i2z).extBut sb.extBut D.i12.symm).extBut sc.extBut D.TOi2.symm) (((t2.extBut sa.extBut D.l2z).extBut sb.extBut D.l2i1).extBut sc.extBut D.l2TO) hy fun hd id sd => wpAny_pure ?_
  have od : IsPair hd TO x b := sd.extBut _ _ D.TOi2 oc'
  refine wpAny_bind (wpAny_seqItems od rfl (wpAny_bind (wpAny_updateSeq_pair od fun he oe se => wpAny_bind (wpAny_letGo (wpAny_pure (wpAny_pure ?_))))))
  have oe' : IsPair he TO x y := oe
  refine wpAny_bind (wpAny_seqItems oe' rfl (wpAny_bind (wpAny_newTuple ?_)))
  have hsz : he.objs.size = s.heap.objs.size := by rw [se.1, sd.1, sc.1, sb.1, sa.1]
  have ze : IsZip he z TI TO .ellipsis := se.extBut _ _ D.TOz.symm (sd.extBut _ _ D.i2z.symm (sc.extBut _ _ D.TOz.symm (sb.extBut _ _ D.i1z.symm za')))
  have ke : ∀ c o, c ≠ z → c ≠ TO → c ≠ i1 → c ≠ i2 → s.heap.get? c = some o → he.get? c = some o := fun c o c1 c2 c3 c4 e => se.extBut _ _ c2 (sd.extBut _ _ c4 (sc.extBut _ _ c2 (sb.extBut _ _ c3 (sa.extBut _ _ c1 e))))
  have f1 : IsTupIter he i1 l1 (k + 1) := ((ib.extBut sc.extBut D.TOi1.symm).extBut sd.extBut D.i12).extBut se.extBut D.TOi1.symm
  have f2 : IsTupIter he i2 l2 (k + 1) := id.extBut se.extBut D.TOi2.symm
  have zl : z < he.objs.size := Heap.lt_size ze
  refine wpAny_bind (m := Builtin.SmallTypes.ownedTupleHandOut (.ref z) (.ref he.objs.size)) ?_
  unfold Builtin.SmallTypes.ownedTupleHandOut
  have zp : IsZip (he.push { cls := .type "tuple", data := .seq #[x, y] }) z TI TO .ellipsis := Heap.get?_push_of_some _ ze
  refine wpAny_bind (wpAny_setField_rec zp (by simp) fun hg zg sg => ?_)
  have zg' : IsZip hg z TI TO (rawInt he.objs.size) := zg
  refine wpAny_setField_rec zg' (by simp) fun hh zh sh => ?_
  have zh' : IsZip hh z TI TO (rawInt he.objs.size) := zh
  have up : ∀ c o, c ≠ z → he.get? c = some o → hh.get? c = some o := fun c o c1 e => sh.extBut _ _ c1 (sg.extBut _ _ c1 (Heap.get?_push_of_some _ e))
  have nw : IsPair hh he.objs.size x y := sh.extBut _ _ (Nat.ne_of_gt zl) (sg.extBut _ _ (Nat.ne_of_gt zl) (Heap.get?_push_size _ rfl))
  rw [hsz] at zh' nw
  refine wpAny_pure ⟨_, rfl, wpAny_pure ?_⟩
  show Q (some (.ref he.objs.size)) _
  rw [hsz]
  exact q hh zh' (up _ _ D.TOz oe') (tupIter_at f1 (fun o e => up _ o D.i1z e)) (tupIter_at f2 (fun o e => up _ o D.i2z e)) nw fun c o c1 c2 c3 c4 e => up c o c1 (ke c o c1 c2 c3 c4 e)
theorem zipT_end {Q : Option Value → Shared → Prop} (hh : A.handled = none) (D : ZipApart z TI TO i1 i2 l1 l2) (hz : IsZip s.heap z TI TO .none) (hTI : IsPair s.heap TI (.ref i1) (.ref i2))
    (h1 : IsTupIter s.heap i1 l1 k) (t1 : IsTup s.heap l1 xs) (hx : xs[k]? = none) (q : ∀ h', (∀ c o, c ≠ z → c ≠ i1 → s.heap.get? c = some o → h'.get? c = some o) → Q none { s with heap := h' }) : wpAny (model P w) A (pyNext (.ref z)) Q E s := by
  have ty : s.TypeIs (.ref z) "zip" := ⟨_, hz, rfl⟩
  unfold pyNext
  refine wpAny_bind (wpAny_attempt (wpAny_callSpecial?_slot (name := Str.ofString "__next__") ty F.slot_zip_next (wpAny_call_entry F.slot_zip_next ty F.entry_zip_next ?_ (F.args_zip_next_1 _))))
  refine wpAny_bind (m := field (.ref z) 2) (wpAny_field hz rfl (x := .bool false) rfl ?_)
  refine wpAny_bind (m := field (.ref z) 3) (wpAny_field hz rfl (x := .ref TI) rfl (wpAny_bind (wpAny_seqItems hTI rfl ?_)))
  refine wpAny_bind (m := Builtin.SmallTypes.ownedTupleIsFree (.ref z)) ?_
  unfold Builtin.SmallTypes.ownedTupleIsFree
  refine wpAny_bind (wpAny_field hz rfl (x := .none) rfl (wpAny_pure ?_))
  simp only [if_true]
  refine wpAny_bind (wpAny_rule (wpAny_bind (wpAny_field hz rfl (x := .ref TO) rfl (wpAny_bind (wpAny_setField_rec hz (by simp) fun ha za sa => wpAny_bind ?_)))))
  have za' : IsZip ha z TI TO .ellipsis := za
  simp only [List.zipIdx_cons, List.zipIdx_nil, List.forIn_cons, List.forIn_nil]
  refine wpAny_bind (wpAny_bind (wpAny_onRaise (wpAny_bind (m := Builtin.SmallTypes.nextOf (.ref i1)) ?_)))
  refine drawn_tup hh (h1.extBut sa.extBut D.i1z) (t1.extBut sa.extBut D.l1z) hx fun hb e sb he => ?_
  obtain ⟨ob, e1, e2⟩ := he
  have zb : IsZip hb z TI TO .ellipsis := sb _ _ D.i1z.symm za'
  have nz : e ≠ z := fun v => by
    subst v
    rw [zb] at e1
    cases e1
    simp at e2
  refine wpAny_setField_rec zb (by simp) fun hc _ sc => ?_
  refine wpAny_bind (wpAny_isInstance (T := "StopIteration") (b := true) ⟨ob, sc.extBut _ _ nz e1, e2⟩ isSubtype_stop ?_)
  exact wpAny_pure (q hc fun c o c1 c3 v => sc.extBut _ _ c1 (sb _ _ c3 (sa.extBut _ _ c1 v)))
end
abbrev zt1 (h : Heap) (l : Addr) : Heap := h.push { cls := .type "tuple_iterator", data := .fields #[.ref l, .int 0 0] }
abbrev zt3 (h : Heap) (l m : Addr) : Heap := (zt1 (zt1 h l) m).push { cls := .type "tuple", data := .seq #[.ref h.objs.size, .ref (zt1 h l).objs.size] }
abbrev zt4 (h : Heap) (l m : Addr) : Heap := (zt3 h l m).push { cls := .type "tuple", data := .seq #[.none, .none] }
abbrev zt5 (h : Heap) (l m : Addr) : Heap := (zt4 h l m).push { cls := .type "zip", data := .fields #[.none, .bool false, .bool false, .ref (zt1 (zt1 h l) m).objs.size, .ref (zt3 h l m).objs.size] }
theorem zipT_new (l m : Addr) (xs ys : Array Value) : Meets (Builtin.«zip.__new__» ⟨[.type "zip", .ref l, .ref m], []⟩) (fun _ R s => IsTup s.heap l xs ∧ IsTup s.heap m ys ∧ R (.ok (.ret (.ref (zt4 s.heap l m).objs.size))) { s with heap := zt5 s.heap l m }) :=
  .of_wp fun prog w A R s h => by
    obtain ⟨hp, g, d, tk, os⟩ := s
    obtain ⟨t1, t2, h⟩ := h
    have sb := sub_zip
    have u1 : Heap.IsTuple (Shared.heap ⟨hp, g, d, tk, os⟩) l xs := t1
    have u2 : Heap.IsTuple (Shared.heap ⟨zt1 hp l, g, d, tk, os⟩) m ys := t2.push _
    wp_walk using wpAny_pyIter_tuple u1, wpAny_pyIter_tuple u2
    exact ⟨_, rfl, h⟩
theorem call_zipT {P : Program} {w : World} {A : Around} {E : Value → Shared → Prop} {s : Shared} {l m : Addr} {xs ys : Array Value} {Q : Value → Shared → Prop} (t1 : IsTup s.heap l xs) (t2 : IsTup s.heap m ys)
    (q : ∀ h', IsZip h' (s.heap.objs.size + 4) (s.heap.objs.size + 2) (s.heap.objs.size + 3) .none → IsPair h' (s.heap.objs.size + 2) (.ref s.heap.objs.size) (.ref (s.heap.objs.size + 1)) → IsPair h' (s.heap.objs.size + 3) .none .none →
      IsTupIter h' s.heap.objs.size l 0 → IsTupIter h' (s.heap.objs.size + 1) m 0 → (∀ c o, s.heap.get? c = some o → h'.get? c = some o) → Q (.ref (s.heap.objs.size + 4)) { s with heap := h' }) : wpAny (model P w) A (call (.type "zip") [.ref l, .ref m]) Q E s := by
  refine callType_new F.called_zip (by decide) (F.typeCall_zip_2 _ _) (F.newCall_zip_2 _ _) (fun obj => F.args_object_init_3 obj _ _) F.entry_zip_new (zipT_new l m xs ys) ⟨t1, t2, ?_⟩
  have n1 : (zt1 s.heap l).objs.size = s.heap.objs.size + 1 := Heap.size_push ..
  have n2 : (zt1 (zt1 s.heap l) m).objs.size = s.heap.objs.size + 2 := by rw [Heap.size_push, n1]
  have n3 : (zt3 s.heap l m).objs.size = s.heap.objs.size + 3 := by rw [Heap.size_push, n2]
  have n4 : (zt4 s.heap l m).objs.size = s.heap.objs.size + 4 := by rw [Heap.size_push, n3]
  have p5 : ∀ {c : Addr} {o : Obj}, (zt4 s.heap l m).get? c = some o → (zt5 s.heap l m).get? c = some o := fun e => Heap.get?_push_of_some _ e
  have p4 : ∀ {c : Addr} {o : Obj}, (zt3 s.heap l m).get? c = some o → (zt5 s.heap l m).get? c = some o := fun e => p5 (Heap.get?_push_of_some _ e)
  have p3 : ∀ {c : Addr} {o : Obj}, (zt1 (zt1 s.heap l) m).get? c = some o → (zt5 s.heap l m).get? c = some o := fun e => p4 (Heap.get?_push_of_some _ e)
  have g5 : (zt5 s.heap l m).get? (zt4 s.heap l m).objs.size = some _ := Heap.get?_push_size _ rfl
  have g4 : (zt5 s.heap l m).get? (zt3 s.heap l m).objs.size = some _ := p5 (Heap.get?_push_size _ rfl)
  have g3 : (zt5 s.heap l m).get? (zt1 (zt1 s.heap l) m).objs.size = some _ := p4 (Heap.get?_push_size _ rfl)
  have g2 : (zt5 s.heap l m).get? (zt1 s.heap l).objs.size = some _ := p3 (Heap.get?_push_size _ rfl)
  have g1 : (zt5 s.heap l m).get? s.heap.objs.size = some _ := p3 (Heap.get?_push_of_some _ (Heap.get?_push_size _ rfl))
  show _ ∧ _
  rw [n2, n3, n4] at g5
  rw [n1, n2] at g3
  rw [n3] at g4
  rw [n1] at g2
  rw [n4]
  exact ⟨⟨_, g5, rfl⟩, q _ g5 g3 g4 ⟨_, g1, rfl, rfl⟩ ⟨_, g2, rfl, rfl⟩ fun c o v => p3 (Heap.get?_push_of_some _ (Heap.get?_push_of_some _ v))⟩
def ItzT (K : PySem.W.Frag) (a b : Addr) : It :=
  ⟨fun i H => ∃ xs ys x y, SqT K H a xs ∧ SqT K H b ys ∧ xs[i]? = some x ∧ ys[i]? = some y, fun i H x H' => ∃ T, H T = none ∧ x = .ref T ∧ ∀ xs ys, SqT K H a xs → SqT K H b ys → ∃ v u, xs[i]? = some v ∧ ys[i]? = some u ∧ H' = upd H T (.tup [v, u]),
    fun i H => ∃ xs ys, SqT K H a xs ∧ SqT K H b ys ∧ xs.length ≤ i⟩
theorem turn_zipT {P : Program} {w : World} {K : PySem.W.Frag} {elts : List Expr} {tk : Nat} {tp : Pos} (a b z TI TO i1 i2 : Addr) (D : ZipApart z TI TO i1 i2 a b) :
    Turn P w K (.Tuple elts tk tp) (ItzT K a b) [z, TI, TO, i1, i2] z (fun i h => IsZip h z TI TO .none ∧ IsPair h TI (.ref i1) (.ref i2) ∧ (∃ u v, IsPair h TO u v) ∧ IsTupIter h i1 a i ∧ IsTupIter h i2 b i) where
  mem := by simp
  obj := fun i h st c hc => by
    obtain ⟨hz, hTI, ⟨u, v, hTO⟩, h1, h2⟩ := st
    simp only [List.mem_cons, List.not_mem_nil, or_false] at hc
    rcases hc with rfl | rfl | rfl | rfl | rfl
    · exact ⟨_, hz, fun v z => by cases (show Data.fields _ = Data.cell v from z)⟩
    · exact ⟨_, hTI, fun v z => by cases (show Data.seq _ _ = Data.cell v from z)⟩
    · exact ⟨_, hTO, fun v z => by cases (show Data.seq _ _ = Data.cell v from z)⟩
    · obtain ⟨o, e, c, d⟩ := h1
      exact ⟨o, e, fun v z => by rw [d] at z; cases z⟩
    · obtain ⟨o, e, c, d⟩ := h2
      exact ⟨o, e, fun v z => by rw [d] at z; cases z⟩
  keep := fun i h h' st k => by
    obtain ⟨hz, hTI, ⟨u, v, hTO⟩, h1, h2⟩ := st
    exact ⟨k z (by simp) _ hz, k TI (by simp) _ hTI, ⟨u, v, k TO (by simp) _ hTO⟩, tupIter_at h1 (fun o x => k i1 (by simp) o x), tupIter_at h2 (fun o x => k i2 (by simp) o x)⟩
  item := by
    intro X hP hw hK hc i pins s σ H E I hf st hg
    subst hP hw hK
    obtain ⟨hz, hTI, ⟨u0, v0, hTO⟩, h1, h2⟩ := st
    obtain ⟨xs, ys, x, y, hq1, hq2, hx, hy⟩ := hg
    obtain ⟨its, rv, p, _⟩ := I.tuple hq1
    obtain ⟨jts, rw', p', _⟩ := I.tuple hq2
    obtain ⟨u, hu, ru⟩ := rv.get hx
    obtain ⟨v, hv, rv2⟩ := rw'.get hy
    refine zipT_item D hz hTI hTO h1 h2 (show IsTup s.heap a its.toArray from p) (show IsTup s.heap b jts.toArray from p') (x := u) (y := v) (by simpa using hu) (by simpa using hv) fun h' a1 a2 a3 a4 a5 hk => ?_
    refine ⟨_, rfl, wpAny_letOwnedTupleGo_zip a1 fun h2 hz2 hs2 => ?_⟩
    have hzlt : z < s.heap.objs.size := Heap.lt_size hz
    have lt : ∀ c o, s.heap.get? c = some o → c ≠ s.heap.objs.size := fun c o e => Nat.ne_of_lt (Heap.lt_size e)
    have hT2 : h2.get? s.heap.objs.size = some { cls := .type "tuple", data := .seq #[u, v] } := (hs2.2 _ (Nat.ne_of_gt hzlt)).trans a5
    have I2 : Inv X pins σ (upd H s.heap.objs.size (.tup [x, y])) { s with heap := h2, toks := s.toks } :=
      I.turnNewL (fp := [z, TI, TO, i1, i2]) (fun c o hc e => by
        simp only [List.mem_cons, List.not_mem_nil, or_false, not_or] at hc
        exact (hs2.2 c hc.1).trans (hk c o hc.1 hc.2.2.1 hc.2.2.2.1 hc.2.2.2.2 e)) hf rfl
        ⟨by show 2 ≤ sizeLine; rw [sizeLine_eq]; decide, [u, v], .cons ru (.cons rv2 .nil), ⟨_, hT2, rfl, _, rfl⟩⟩
    refine ⟨.ref s.heap.objs.size, _, I2, rfl, ⟨_, I.fresh, rfl, fun xs' ys' hy1 hy2 => ⟨x, y, by rw [I.tuple_inj hy1 hq1]; exact hx, by rw [I.tuple_inj hy2 hq2]; exact hy, rfl⟩⟩, ⟨hz2, ?_, ⟨u, v, ?_⟩, ?_, ?_⟩, fun c hc => ?_⟩
    · exact (hs2.2 _ D.TIz).trans (hk _ _ D.TIz D.TITO D.TIi1 D.TIi2 hTI)
    · exact (hs2.2 _ D.TOz).trans a2
    · exact tupIter_at a3 (fun o e => (hs2.2 i1 D.i1z).trans e)
    · exact tupIter_at a4 (fun o e => (hs2.2 i2 D.i2z).trans e)
    · have he : ∃ o, s.heap.get? c = some o := by
        simp only [List.mem_cons, List.not_mem_nil, or_false] at hc
        rcases hc with rfl | rfl | rfl | rfl | rfl
        · exact ⟨_, hz⟩
        · exact ⟨_, hTI⟩
        · exact ⟨_, hTO⟩
        · obtain ⟨o, e, _⟩ := h1
          exact ⟨o, e⟩
        · obtain ⟨o, e, _⟩ := h2
          exact ⟨o, e⟩
      obtain ⟨o, ho⟩ := he
      rw [upd_ne (lt c o ho)]
      exact (hf c hc).1
  done := by
    intro X hP hw hK hc i pins s σ H E I hf st hg
    subst hP hw hK
    obtain ⟨hz, hTI, ⟨u0, v0, hTO⟩, h1, h2⟩ := st
    obtain ⟨xs, ys, hq1, hq2, hend⟩ := hg
    obtain ⟨its, rv, p, _⟩ := I.tuple hq1
    obtain ⟨jts, rw', p', _⟩ := I.tuple hq2
    have hl := rv.length
    have hl' := rw'.length
    refine zipT_end (I.ok.hd hc) D hz hTI h1 (show IsTup s.heap a its.toArray from p) (by simp; omega) fun h' hk => ⟨rfl, I.turnedL (t' := s.toks) (fp := [z, TI, TO, i1, i2]) (fun c o hc e => ?_) hf⟩
    simp only [List.mem_cons, List.not_mem_nil, or_false, not_or] at hc
    exact hk c o hc.1 hc.2.2.2.1 e
  self := fun A i s Q E st h => wpAny_pyIter_zip st.1 h
section
variable {X : Cx} {K : PySem.W.Frag}
def iZipT (K : PySem.W.Frag) (ta : TA) : TI := fun σ H R => ta σ H fun vs H1 => ∃ a b, vs = [.ref a, .ref b] ∧ (∃ xs, SqT K H1 a xs) ∧ (∃ ys, SqT K H1 b ys) ∧ R (ItzT K a b) H1
theorem pi_zipTK {l m : Expr} {ta : TA} {p pos tp : Pos} {elts : List Expr} {tk : Nat} (hK : X.K = K) (hg : Gl X "zip") (hm : X.mg "zip" = none) (ha : PA X [l, m] ta)
    (hs : starEach [l, m] X.env = (false, eval l X.env) :: starEach [m] X.env := by rfl) (hs2 : starEach [m] X.env = [(false, eval m X.env)] := by rfl) :
    PI X (.Tuple elts tk tp) (.Call (.Name "zip" p) [l, m] [] pos) (iZipT K ta) := by
  subst hK
  intro pins s σ H R I h
  refine Call_ (ld_blt I hg hm boot_zip' (PyProof.Rows.callWith_type1 (thn (ha pos pins s σ H _ I h) fun us s1 ⟨vs, H1, I1, r1, q1⟩ => ?_) hs (by rw [hs2]; rfl)))
  obtain ⟨a, b, e, ⟨xs, hq1⟩, ⟨ys, hq2⟩, q⟩ := q1
  subst e
  obtain ⟨u, v, rfl, ra, rb⟩ := vals2 r1
  cases ra
  cases rb
  obtain ⟨its, rv, pl, hz⟩ := I1.tuple hq1
  obtain ⟨jts, rv2, pl2, hz2⟩ := I1.tuple hq2
  have la : a < s1.heap.objs.size := by
    obtain ⟨o, e, _⟩ := (show IsTup s1.heap a its.toArray from pl)
    exact Heap.lt_size e
  have lb : b < s1.heap.objs.size := by
    obtain ⟨o, e, _⟩ := (show IsTup s1.heap b jts.toArray from pl2)
    exact Heap.lt_size e
  refine call_zipT (show IsTup s1.heap a its.toArray from pl) (show IsTup s1.heap b jts.toArray from pl2) fun h' hz hTI hTO h1 h2 hk => ?_
  refine wpAny_pyIter_zip hz ?_
  refine ⟨s1.heap.objs.size + 4, [s1.heap.objs.size + 4, s1.heap.objs.size + 2, s1.heap.objs.size + 3, s1.heap.objs.size, s1.heap.objs.size + 1], _, _, H1, rfl, I1.kept (t' := s1.toks) hk, turn_zipT a b _ _ _ _ _ ?_, ⟨hz, hTI, ⟨_, _, hTO⟩, h1, h2⟩, fun c hc => ?_, q⟩
  · exact zip_apart _ _ _ la lb
  · have hle : s1.heap.objs.size ≤ c := by
      simp only [List.mem_cons, List.not_mem_nil, or_false] at hc
      rcases hc with rfl | rfl | rfl | rfl | rfl
      · exact Nat.le_add_right _ _
      · exact Nat.le_add_right _ _
      · exact Nat.le_add_right _ _
      · exact Nat.le_refl _
      · exact Nat.le_add_right _ _
    exact I1.fpOk hle (I1.hok.fresh hle)
end
theorem for_zipT {K : PySem.W.Frag} {a b : Addr} {xs ys : List V} {g : TG} {tb : TS} {D : Ends} {σ : St} {H : Hp} (Pv : Nat → St → Hp → Prop) (hlen : xs.length = ys.length) (h0 : Pv 0 σ H) (hl : ∀ i σ H, i ≤ xs.length → Pv i σ H → SqT K H a xs ∧ SqT K H b ys)
    (hs : ∀ i x y σ H T, xs[i]? = some x → ys[i]? = some y → Pv i σ H → H T = none → g (.ref T) σ (upd H T (.tup [x, y])) fun σ2 H2 => tb { D with nx := Pv (i + 1), ct := Pv (i + 1), bk := D.nx } σ2 H2) (hd : ∀ σ H, Pv xs.length σ H → D.nx σ H) :
    ∃ W : Nat → Nat → St → Hp → Prop, (∃ m, W 0 m σ H) ∧ ∀ i m σ H, W i m σ H →
      ((ItzT K a b).stop i H ∧ D.nx σ H) ∨ ((ItzT K a b).go i H ∧ ∃ N : St → Hp → Prop, (∀ σ' H', N σ' H' → ∃ m', m' < m ∧ W (i + 1) m' σ' H') ∧ ∀ x H', (ItzT K a b).yld i H x H' → g x σ H' fun σ2 H2 => tb { D with nx := N, ct := N, bk := D.nx } σ2 H2) := by
  refine ⟨fun i m σ H => m = xs.length - i ∧ i ≤ xs.length ∧ Pv i σ H, ⟨xs.length, by simp, Nat.zero_le _, h0⟩, ?_⟩
  rintro i m σ H ⟨rfl, hi, p⟩
  obtain ⟨q1, q2⟩ := hl i σ H hi p
  by_cases hlt : i < xs.length
  · have hlt2 : i < ys.length := by omega
    refine .inr ⟨⟨xs, ys, xs[i], ys[i], q1, q2, by simp [hlt], by simp [hlt2]⟩, Pv (i + 1), fun σ' H' p' => ⟨xs.length - (i + 1), by omega, rfl, hlt, p'⟩, fun x H' y => ?_⟩
    obtain ⟨T, hT, rfl, y⟩ := y
    obtain ⟨v, u, hv, hu, rfl⟩ := y xs ys q1 q2
    exact hs i v u σ H T hv hu p hT
  · obtain rfl : i = xs.length := by omega
    exact .inl ⟨⟨xs, ys, q1, q2, Nat.le_refl _⟩, hd σ H p⟩
end L2
set_option Elab.async false
set_option linter.all false
set_option maxRecDepth 100000
set_option maxHeartbeats 4000000
namespace L2
open PySem PySem.Spec PyProof.Rows
theorem pe_intT {X : Cx} {e : Expr} {te : TE} {p pos : Pos} (hg : Gl X "int") (hm : X.mg "int" = none) (he : PE X e te) (hs : starEach [e] X.env = [(false, eval e X.env)] := by rfl) :
    PE X (.Call (.Name "int" p) [e] [] pos) (fun σ H Q => te σ H fun x H1 => ∃ z, x = .str z ∧ NumText.AllDigits (cod z) ∧ cod z ≠ [] ∧ z.length ≤ 640 ∧ Q (.int ((NumText.digitsVal (cod z) : Nat) : Int)) H1) := by
  intro pins s σ H Q I h
  refine wpAny_Call_Name_kw (ld_blt I hg hm boot_int' ?_)
  refine PyProof.Rows.callWith_type1 (Q := EP X pins σ Q) ?_ hs rfl
  rw [hs]
  refine Calls.spliced_cons (thn (he pins s σ H _ I h) fun u s1 ⟨x, H1, I1, r1, z, ez, h1, h2, h3, q⟩ => Calls.spliced_nil ?_)
  subst ez
  obtain ⟨t, rfl⟩ := r1
  exact PySem.W.KIN.call_text (intText_digits h1 h2 (by omega)) h3 ⟨.int _, H1, I1.tok _, ⟨_, rfl⟩, q⟩
theorem cut_at {c : Nat} {p q a b : List Nat} (h : p ++ c :: q = a ++ c :: b) (hp : c ∉ p) (ha : c ∉ a) : p = a ∧ q = b := by
  induction p generalizing a with
  | nil =>
    cases a with
    | nil => simpa using h
    | cons x r =>
      simp only [List.nil_append, List.cons_append, List.cons.injEq] at h
      exact absurd (by rw [← h.1]; exact List.mem_cons_self) ha
  | cons y p ih =>
    cases a with
    | nil =>
      simp only [List.nil_append, List.cons_append, List.cons.injEq] at h
      exact absurd (by rw [h.1]; exact List.mem_cons_self) hp
    | cons x r =>
      simp only [List.cons_append, List.cons.injEq] at h
      have := ih h.2 (fun z => hp (List.mem_cons_of_mem _ z)) (fun z => ha (List.mem_cons_of_mem _ z))
      rw [h.1, this.1]
      exact ⟨rfl, this.2⟩
theorem cod_join {c : Nat} (x y : Str) (r : List Str) : cod (Str.join ⟨#[c]⟩ (x :: y :: r)) = cod x ++ c :: cod (Str.join ⟨#[c]⟩ (y :: r)) := by
  show cod (x ++ ⟨#[c]⟩ ++ Str.join ⟨#[c]⟩ (y :: r)) = _
  rw [cod_app, cod_app, List.append_assoc]
  rfl
theorem join_one {c : Nat} : ∀ {ts us : List Str}, ts ≠ [] → us ≠ [] → (∀ t ∈ ts, c ∉ cod t) → (∀ t ∈ us, c ∉ cod t) → cod (Str.join ⟨#[c]⟩ ts) = cod (Str.join ⟨#[c]⟩ us) → ts = us
  | [], _, h, _, _, _, _ => absurd rfl h
  | _, [], _, h, _, _, _ => absurd rfl h
  | [t], [u], _, _, _, _, e => by rw [cod_ext (a := t) (b := u) e]
  | [t], u :: v :: r, _, _, ht, _, e => by
    rw [cod_join] at e
    exact absurd (show c ∈ cod t by rw [show cod t = _ from e]; simp) (ht t List.mem_cons_self)
  | t :: v :: r, [u], _, _, _, hu, e => by
    rw [cod_join] at e
    exact absurd (show c ∈ cod u by rw [show cod u = _ from e.symm]; simp) (hu u List.mem_cons_self)
  | t :: t' :: r, u :: u' :: s, _, _, ht, hu, e => by
    rw [cod_join, cod_join] at e
    obtain ⟨e1, e2⟩ := cut_at e (ht t List.mem_cons_self) (hu u List.mem_cons_self)
    rw [cod_ext e1, join_one (ts := t' :: r) (us := u' :: s) (by simp) (by simp) (fun x hx => ht x (List.mem_cons_of_mem _ hx)) (fun x hx => hu x (List.mem_cons_of_mem _ hx)) e2]
theorem cnt_nn (c : Nat) : ∀ l : List Nat, 0 ≤ cnt c l
  | [] => by rw [cnt_none c [] (by simp)]; exact Int.le_refl _
  | x :: l => by
    have := cnt_nn c l
    rw [cnt_cons]
    split <;> omega
theorem split_ne (z : Str) (c : Nat) : Txt.split z ⟨#[c]⟩ ≠ [] := fun h => by
  have e := split_len z c
  rw [h] at e
  have := cnt_nn c z.cps.toList
  simp at e
  omega
theorem split_join {c : Nat} {ts : List Str} (h0 : ts ≠ []) (hf : ∀ t ∈ ts, c ∉ cod t) : Txt.split (Txt.join ⟨#[c]⟩ ts) ⟨#[c]⟩ = ts := by
  have ej : Txt.join ⟨#[c]⟩ ts = Str.join ⟨#[c]⟩ ts := StrLaws.glued_eq_join _ _
  rw [ej]
  refine (join_one (c := c) h0 (split_ne _ c) hf (fun t ht => StrLaws.split_free _ c t ht) ?_).symm
  rw [StrLaws.join_split]
def nameOk (z : Str) : Prop := 1 ≤ (cod z).length ∧ (cod z).length ≤ 8 ∧ ∀ c ∈ cod z, 97 ≤ c ∧ c ≤ 122
def kN : Str := Str.ofString "name"
def kB : Str := Str.ofString "beds"
def kA : Str := Str.ofString "amount"
def formsL : List (Str × List Str) := [(Str.ofString "room", [kN, kB, kN]), (Str.ofString "person", [kN]), (Str.ofString "rent", [kA]), (Str.ofString "worth", [kN, kN, kA]), (Str.ofString "purse", [kN, kA]), (Str.ofString "free", [kN]), (Str.ofString "near", [kN, kN]), (Str.ofString "leave", [kN]), (Str.ofString "share", []), (Str.ofString "even", []), (Str.ofString "within", []), (Str.ofString "close", [])]
def KindW (k : Str) (v : V) (wd : Str) : Prop := (k = kN ∧ v = .str wd ∧ nameOk wd) ∨ (k = kB ∧ ∃ b : Nat, 1 ≤ b ∧ b ≤ 4 ∧ v = .int (b : Int) ∧ cod wd = [48 + b]) ∨ (k = kA ∧ ∃ n : Int, v = .int n ∧ cod wd = wcod n ∧ n.natAbs < 10 ^ 40)
inductive Words : List Str → List V → List Str → Prop
  | nil : Words [] [] []
  | cons {k : Str} {v : V} {wd : Str} {ks : List Str} {vs : List V} {wds : List Str} : KindW k v wd → Words ks vs wds → Words (k :: ks) (v :: vs) (wd :: wds)
structure Ord (ps : List V) (ws : List Str) : Prop where
  ex : ∃ kd ks vs wds, (kd, ks) ∈ formsL ∧ ps = .str kd :: vs ∧ ws = kd :: wds ∧ Words ks vs wds ∧ (kd = Str.ofString "near" → vs[0]? ≠ vs[1]?)
def KindV (k : Str) (v : V) : Prop := (k = kN ∧ ∃ x, v = .str x ∧ nameOk x) ∨ (k = kB ∧ ∃ b : Nat, 1 ≤ b ∧ b ≤ 4 ∧ v = .int (b : Int)) ∨ (k = kA ∧ ∃ n : Int, v = .int n ∧ n.natAbs < 10 ^ 40)
inductive Parts : List Str → List V → Prop
  | nil : Parts [] []
  | cons {k : Str} {v : V} {ks : List Str} {vs : List V} : KindV k v → Parts ks vs → Parts (k :: ks) (v :: vs)
structure Due (ps : List V) : Prop where
  ex : ∃ kd ks vs, (kd, ks) ∈ formsL ∧ ps = .str kd :: vs ∧ Parts ks vs ∧ (kd = Str.ofString "near" → vs[0]? ≠ vs[1]?)
def RowOf (r : Str) (ps : List V) : Prop := ∃ ws, r = Txt.join (Str.ofString " ") ws ∧ Ord ps ws
theorem Words.len {ks : List Str} {vs : List V} {wds : List Str} (h : Words ks vs wds) : vs.length = ks.length ∧ wds.length = ks.length := by
  induction h with
  | nil => exact ⟨rfl, rfl⟩
  | cons _ _ ih => exact ⟨by simp [ih.1], by simp [ih.2]⟩
theorem Words.at_ {ks : List Str} {vs : List V} {wds : List Str} (h : Words ks vs wds) : ∀ {i : Nat}, i < ks.length → ∃ k v wd, ks[i]? = some k ∧ vs[i]? = some v ∧ wds[i]? = some wd ∧ KindW k v wd := by
  induction h with
  | nil => intro i hi; simp at hi
  | cons hk _ ih =>
    intro i hi
    cases i with
    | zero => exact ⟨_, _, _, rfl, rfl, rfl, hk⟩
    | succ i => exact ih (i := i) (by simpa using hi)
theorem KindW.sp {k wd : Str} {v : V} (h : KindW k v wd) : ∀ c ∈ cod wd, c ≠ 32 ∧ c ≠ 10 := by
  rcases h with ⟨_, _, h⟩ | ⟨_, b, h1, h2, _, e⟩ | ⟨_, n, _, e, _⟩
  · intro c hc
    have := h.2.2 c hc
    omega
  · intro c hc
    rw [e] at hc
    have := List.mem_singleton.mp hc
    omega
  · intro c hc
    rw [e] at hc
    unfold wcod at hc
    rcases List.mem_append.mp hc with hc | hc
    · split at hc
      · have := List.mem_singleton.mp hc
        omega
      · simp at hc
    · rcases List.mem_append.mp hc with hc | hc
      · have := dec_codes _ c hc
        omega
      · rcases List.mem_cons.mp hc with hc | hc
        · omega
        · rw [dec_two (Nat.mod_lt _ (by decide))] at hc
          have hc' : c = 48 + n.natAbs % 100 / 10 ∨ c = 48 + n.natAbs % 100 % 10 := by simpa using hc
          omega
theorem KindW.len {k wd : Str} {v : V} (h : KindW k v wd) : wd.length ≤ 110 ∧ 1 ≤ wd.length := by
  rw [← cod_len]
  rcases h with ⟨_, _, h⟩ | ⟨_, b, h1, h2, _, e⟩ | ⟨_, n, _, e, hn⟩
  · exact ⟨by have := h.2.1; omega, h.1⟩
  · rw [e]
    simp
  · rw [e]
    have hb : -(10 ^ 100) < n ∧ n < 10 ^ 100 := by omega
    refine ⟨wcod_len hb.1 hb.2, ?_⟩
    unfold wcod
    simp
    omega
end L2
set_option Elab.async false
set_option linter.all false
set_option maxRecDepth 100000
set_option maxHeartbeats 4000000
namespace L2
open PySem PySem.Spec PyProof.Rows
def TupK (K : PySem.W.Frag) (t : Addr) (xs : List V) : Prop := ∃ (o : Obj) (its : Array Value) (n : Nat), K.lookup t = some o ∧ o.cls = .type "tuple" ∧ o.data = .seq its n ∧ its.size ≤ sizeLine ∧ Vals xs its.toList
theorem TupK.sq {K : PySem.W.Frag} {t : Addr} {xs : List V} {H : Hp} (h : TupK K t xs) : SqT K H t xs := .inr h
structure Readers (K : PySem.W.Frag) (w : World) (mg : Str → Option Value) (ra : Addr) : Prop where
  g : mg "READERS" = some (.ref ra)
  n : ∃ f, mg "name_in" = some (.ref f) ∧ TabGet K w ra kN (some (.ref f))
  b : ∃ f, mg "beds_in" = some (.ref f) ∧ TabGet K w ra kB (some (.ref f))
  a : ∃ f, mg "amount_in" = some (.ref f) ∧ TabGet K w ra kA (some (.ref f))
structure Forms (K : PySem.W.Frag) (w : World) (mg : Str → Option Value) (fa : Addr) : Prop where
  g : mg "FORMS" = some (.ref fa)
  at_ : ∀ p ∈ formsL, ∃ t, TabGet K w fa p.1 (some (.ref t)) ∧ TupK K t (p.2.map V.str)
def bedsL : List V := [.str (Str.ofString "1"), .str (Str.ofString "2"), .str (Str.ofString "3"), .str (Str.ofString "4")]
theorem letters_mem (c : Nat) : decide (c ∈ (Str.ofString "abcdefghijklmnopqrstuvwxyz").cps.toList) = decide (97 ≤ c ∧ c ≤ 122) := by
  have e : (Str.ofString "abcdefghijklmnopqrstuvwxyz").cps.toList = [97, 98, 99, 100, 101, 102, 103, 104, 105, 106, 107, 108, 109, 110, 111, 112, 113, 114, 115, 116, 117, 118, 119, 120, 121, 122] := by decide +kernel
  rw [e]
  congr 1
  simp only [List.mem_cons, List.not_mem_nil, or_false, eq_iff_iff]
  omega
def sp_namein : Sp := fun vs H Q _ => ∃ z, vs = [.str z] ∧ nameOk z ∧ ∀ H', Same H H' → Q (.str z) H'
def sp_bedsin : Sp := fun vs H Q _ => ∃ (z : Str) (b : Nat), vs = [.str z] ∧ 1 ≤ b ∧ b ≤ 4 ∧ cod z = [48 + b] ∧ Q (.int (b : Int)) H
def sp_amountin : Sp := fun vs H Q _ => ∃ (z : Str) (n : Int), vs = [.str z] ∧ cod z = wcod n ∧ n.natAbs < 10 ^ 40 ∧ ∀ H', Same H H' → Q (.int n) H'
def sp_readword : Sp := fun vs H Q _ => ∃ (k wd : Str) (v : V), vs = [.str k, .str wd] ∧ KindW k v wd ∧ ∀ H', Same H H' → Q v H'
def sp_readrow : Sp := fun vs H Q _ => ∃ (r : Str) (ps : List V), vs = [.str r] ∧ RowOf r ps ∧ ∀ (t : Addr) (H' : Hp), Same H H' → H' t = some (.tup ps) → Q (.ref t) H'
inductive Reads : List Str → List (List V) → Prop
  | nil : Reads [] []
  | skip {rows : List Str} {pss : List (List V)} : Reads rows pss → Reads (Str.ofString "" :: rows) pss
  | cons {r : Str} {ps : List V} {rows : List Str} {pss : List (List V)} : RowOf r ps → r ≠ Str.ofString "" → Reads rows pss → Reads (r :: rows) (ps :: pss)
theorem Reads.app {rows rows' : List Str} {pss pss' : List (List V)} (h : Reads rows pss) (h' : Reads rows' pss') : Reads (rows ++ rows') (pss ++ pss') := by
  induction h with
  | nil => exact h'
  | skip _ ih => exact .skip ih
  | cons a b _ ih => exact .cons a b ih
theorem Reads.ins {rows : List Str} {pss : List (List V)} (h : Reads rows pss) : ∀ i : Nat, Reads (rows.take i ++ Str.ofString "" :: rows.drop i) pss := by
  induction h with
  | nil => intro i; simp; exact .skip .nil
  | skip h ih =>
    intro i
    cases i with
    | zero => exact .skip (.skip h)
    | succ i => exact .skip (ih i)
  | cons a b h ih =>
    intro i
    cases i with
    | zero => exact .skip (.cons a b h)
    | succ i => exact .cons a b (ih i)
theorem Reads.at_ {rows : List Str} {pss : List (List V)} (h : Reads rows pss) {r : Str} {rest : List Str} (e : rows = r :: rest) : (r = Str.ofString "" ∧ Reads rest pss) ∨ (r ≠ Str.ofString "" ∧ ∃ ps pss', pss = ps :: pss' ∧ RowOf r ps ∧ Reads rest pss') := by
  cases h with
  | nil => cases e
  | skip h =>
    cases e
    exact .inl ⟨rfl, h⟩
  | cons a b h =>
    cases e
    exact .inr ⟨b, _, _, rfl, a, h⟩
def sp_readsheet : Sp := fun vs H Q _ => ∃ (z : Str) (rows : List Str) (pss : List (List V)), vs = [.str z] ∧ Txt.split z (Str.ofString "\n") = rows ∧ z.length ≤ 100000 ∧ rows.length ≤ 1000 ∧ Reads rows pss ∧
  ∀ (l : Addr) (ts : List Addr) (H' : Hp), Same H H' → H' l = some (.lst (ts.map V.ref)) → ts.length = pss.length → (∀ (i : Nat) t, ts[i]? = some t → ∃ ps, pss[i]? = some ps ∧ H' t = some (.tup ps)) → Q (.ref l) H'
theorem kd_codes0 : ∀ p ∈ formsL, (∀ c ∈ cod p.1, c ≠ 32 ∧ c ≠ 10) ∧ 1 ≤ (cod p.1).length ∧ (cod p.1).length ≤ 6 ∧ p.2.length ≤ 3 := by decide +kernel
theorem kd_codes {kd : Str} {ks : List Str} (h : (kd, ks) ∈ formsL) : (∀ c ∈ cod kd, c ≠ 32 ∧ c ≠ 10) ∧ 1 ≤ (cod kd).length ∧ (cod kd).length ≤ 6 ∧ ks.length ≤ 3 := kd_codes0 _ h
theorem sp_is : Str.ofString " " = ⟨#[32]⟩ := by decide +kernel
theorem nl_is : Str.ofString "\n" = ⟨#[10]⟩ := by decide +kernel
theorem Words.free {ks : List Str} {vs : List V} {wds : List Str} (h : Words ks vs wds) : ∀ x ∈ wds, (∀ c ∈ cod x, c ≠ 32 ∧ c ≠ 10) ∧ x.length ≤ 110 := by
  induction h with
  | nil => intro x hx; simp at hx
  | cons hk _ ih =>
    intro x hx
    rcases List.mem_cons.mp hx with e | hx
    · subst e
      exact ⟨hk.sp, hk.len.1⟩
    · exact ih x hx
theorem Ord.free {ps : List V} {ws : List Str} (h : Ord ps ws) : (∀ x ∈ ws, (∀ c ∈ cod x, c ≠ 32 ∧ c ≠ 10) ∧ x.length ≤ 110) ∧ ws ≠ [] ∧ ws.length ≤ 4 := by
  obtain ⟨kd, ks, vs, wds, hm, rfl, rfl, hw, _⟩ := h.ex
  have hc := kd_codes hm
  refine ⟨fun x hx => ?_, by simp, ?_⟩
  · rcases List.mem_cons.mp hx with e | hx
    · subst e
      exact ⟨hc.1, by rw [← cod_len]; have := hc.2.2.1; omega⟩
    · exact hw.free x hx
  · have := hw.len.2
    have := hc.2.2.2
    simp
    omega
theorem row_split {ps : List V} {ws : List Str} (h : Ord ps ws) : Txt.split (Txt.join (Str.ofString " ") ws) (Str.ofString " ") = ws := by
  rw [sp_is]
  exact split_join h.free.2.1 fun x hx z => ((h.free.1 x hx).1 32 z).1 rfl
theorem sum_len {ws : List Str} {B : Nat} (h : ∀ x ∈ ws, x.length ≤ B) : (ws.map (·.length)).sum ≤ ws.length * B := by
  induction ws with
  | nil => simp
  | cons x r ih =>
    have h1 := h x List.mem_cons_self
    have h2 := ih fun y hy => h y (List.mem_cons_of_mem _ hy)
    simp only [List.map_cons, List.sum_cons, List.length_cons, Nat.add_mul, Nat.one_mul]
    omega
theorem row_len {ps : List V} {ws : List Str} (h : Ord ps ws) : (Txt.join (Str.ofString " ") ws).length ≤ 500 := by
  have ej : Txt.join (Str.ofString " ") ws = Str.join (Str.ofString " ") ws := StrLaws.glued_eq_join _ _
  have h1 := StrLaws.join_length_le (Str.ofString " ") ws
  have h2 := sum_len fun x hx => (h.free.1 x hx).2
  have h3 := h.free.2.2
  have h4 : (Str.ofString " ").length = 1 := by decide +kernel
  rw [h4] at h1
  rw [ej]
  omega
theorem join_free {c : Nat} : ∀ {ws : List Str}, (∀ x ∈ ws, c ∉ cod x) → c ≠ 32 → c ∉ cod (Str.join (Str.ofString " ") ws)
  | [], _, _ => fun z => by cases (show c ∈ ([] : List Nat) from z)
  | [x], h, _ => h x List.mem_cons_self
  | x :: y :: r, h, hc => by
    rw [sp_is, cod_join, ← sp_is]
    intro z
    rcases List.mem_append.mp z with z | z
    · exact h x List.mem_cons_self z
    · rcases List.mem_cons.mp z with z | z
      · exact hc z
      · exact join_free (ws := y :: r) (fun w hw => h w (List.mem_cons_of_mem _ hw)) hc z
theorem RowOf.free {r : Str} {ps : List V} (h : RowOf r ps) : 10 ∉ cod r ∧ r ≠ Str.ofString "" ∧ r.length ≤ 500 := by
  obtain ⟨ws, rfl, h⟩ := h
  have ej : Txt.join (Str.ofString " ") ws = Str.join (Str.ofString " ") ws := StrLaws.glued_eq_join _ _
  refine ⟨?_, fun z => ?_, row_len h⟩
  · rw [ej]
    exact join_free (fun x hx z => ((h.free.1 x hx).1 10 z).2 rfl) (by decide)
  · have e := row_split h
    rw [z] at e
    obtain ⟨kd, ks, vs, wds, hm, rfl, rfl, hw, _⟩ := h.ex
    have e0 : Txt.split (Str.ofString "") (Str.ofString " ") = [Str.ofString ""] := by decide +kernel
    rw [e0] at e
    have e1 : kd = Str.ofString "" := (List.cons.inj e).1.symm
    have hc := (kd_codes hm).2.1
    rw [e1] at hc
    exact absurd hc (by decide +kernel)
theorem Words.non {ks : List Str} {vs : List V} {wds : List Str} (h : Words ks vs wds) : inV .non vs = false ∧ vs.all flatV = true := by
  induction h with
  | nil => exact ⟨rfl, rfl⟩
  | cons hk _ ih =>
    rcases hk with ⟨_, rfl, _⟩ | ⟨_, b, _, _, rfl, _⟩ | ⟨_, n, rfl, _⟩ <;> exact ⟨ih.1, ih.2⟩
theorem near_form {ks : List Str} (h : (Str.ofString "near", ks) ∈ formsL) : ks = [kN, kN] := by
  have h0 : ∀ p ∈ formsL, p.1 = Str.ofString "near" → p.2 = [kN, kN] := by decide +kernel
  exact h0 _ h rfl
theorem KindW.nm {v : V} {wd : Str} (h : KindW kN v wd) : v = .str wd := by
  rcases h with ⟨_, e, _⟩ | ⟨e, _⟩ | ⟨e, _⟩
  · exact e
  · exact absurd e (by decide +kernel)
  · exact absurd e (by decide +kernel)
theorem reads_nil {pss : List (List V)} (h : Reads [] pss) : pss = [] := by
  cases h
  rfl
def letC (i : Nat) : Nat := if i < 12 then 97 + i else 98 + i
theorem ixLet {K : PySem.W.Frag} {H : Hp} {i : Int} {Q : VK} (h0 : 0 ≤ i) (h1 : i < 25) (q : Q (.str ⟨#[letC i.toNat]⟩) H) : rIx K (.str (Str.ofString "abcdefghijklnopqrstuvwxyz")) (.int i) H Q := by
  have e : cod (Str.ofString "abcdefghijklnopqrstuvwxyz") = (List.range 25).map letC := by decide +kernel
  have hl : i.toNat < 25 := by omega
  refine .inr (.inr ⟨_, i, letC i.toNat, rfl, rfl, by decide +kernel, atI_int i.toNat (by omega) ?_, q⟩)
  show (cod (Str.ofString "abcdefghijklnopqrstuvwxyz"))[i.toNat]? = _
  rw [e]
  simp [hl]
def nmC (s k : Int) : List Nat := List.replicate (s / 8 % (s % 8 + 1)).toNat 109 ++ letC (k % 25).toNat :: List.replicate ((s % 8).toNat - (s / 8 % (s % 8 + 1)).toNat) 109
theorem letC_bd {i : Nat} (h : i < 25) : 97 ≤ letC i ∧ letC i ≤ 122 := by
  unfold letC
  split <;> omega
theorem letC_inj {i j : Nat} (h : letC i = letC j) : i = j := by
  unfold letC at h
  split at h <;> split at h <;> omega
theorem nm_ok {s k : Int} {z : Str} (s0 : 0 ≤ s) (k0 : 0 ≤ k) (h : cod z = nmC s k) : nameOk z := by
  have hp : 0 ≤ s / 8 % (s % 8 + 1) ∧ s / 8 % (s % 8 + 1) < s % 8 + 1 := ⟨Int.emod_nonneg _ (by omega), Int.emod_lt_of_pos _ (by omega)⟩
  unfold nmC at h
  generalize s / 8 % (s % 8 + 1) = p at *
  have hl := letC_bd (i := (k % 25).toNat) (by omega)
  refine ⟨by rw [h]; simp; omega, by rw [h]; simp; omega, fun c hc => ?_⟩
  rw [h] at hc
  rcases List.mem_append.mp hc with hc | hc
  · have := (List.mem_replicate.mp hc).2
    omega
  · rcases List.mem_cons.mp hc with hc | hc
    · omega
    · have := (List.mem_replicate.mp hc).2
      omega
theorem nm_ne {s j k : Int} {z z' : Str} (j0 : 0 ≤ j) (k0 : 0 ≤ k) (h : cod z = nmC s j) (h' : cod z' = nmC s k) (hne : j % 25 ≠ k % 25) : z ≠ z' := fun e => by
  rw [e, h'] at h
  unfold nmC at h
  have h1 := (List.cons.inj (List.append_cancel_left h)).1
  have := letC_inj h1
  omega
def sp_lname : Sp := fun vs H Q _ => ∃ s k : Int, vs = [.int s, .int k] ∧ 0 ≤ s ∧ 0 ≤ k ∧ ∀ z : Str, cod z = nmC s k → Q (.str z) H
def sp_lorder : Sp := fun vs H Q _ => ∃ c k s : Int, vs = [.int c, .int k, .int s] ∧ 0 ≤ k ∧ k ≤ 1000 ∧ 0 ≤ s ∧ ∀ (t : Addr) (ps : List V) (H' : Hp), Same H H' → H' t = some (.tup ps) → Due ps → Q (.ref t) H'
def sp_lrow : Sp := fun vs H Q _ => ∃ (t : Addr) (ps : List V), vs = [.ref t] ∧ H t = some (.tup ps) ∧ Due ps ∧ ∀ (r : Str) (H' : Hp), Same H H' → RowOf r ps → Q (.str r) H'
def sp_lsame : Sp := fun vs H Q _ => ∃ (t t' : Addr) (ps : List V), vs = [.ref t, .ref t'] ∧ H t = some (.tup ps) ∧ H t' = some (.tup ps) ∧ Due ps ∧ ∀ H', Same H H' → Q (.bl true) H'
def PartW (kd : Str) (j : Nat) (p : V) (wd : Str) : Prop := p = .str wd ∨ (∃ n : Int, p = .int n ∧ kd = Str.ofString "room" ∧ j = 2 ∧ cod wd = dec n.toNat) ∨ (∃ n : Int, p = .int n ∧ ¬ (kd = Str.ofString "room" ∧ j = 2) ∧ cod wd = wcod n)
theorem beds_at : ∀ p ∈ formsL, ∀ i, i < 3 → (p.2[i]? = some kB ↔ p.1 = Str.ofString "room" ∧ 1 + i = 2) := by decide +kernel
theorem words_of {kd : Str} {ks : List Str} {vs : List V} (h : Parts ks vs) : ∀ {off : Nat} {wds : List Str}, wds.length = vs.length → (∀ i k, ks[i]? = some k → (k = kB ↔ kd = Str.ofString "room" ∧ off + i = 2)) → (∀ i p wd, vs[i]? = some p → wds[i]? = some wd → PartW kd (off + i) p wd) → Words ks vs wds := by
  induction h with
  | nil =>
    intro off wds hl _ _
    have : wds = [] := List.eq_nil_of_length_eq_zero hl
    subst this
    exact .nil
  | @cons k v ks vs hk _ ih =>
    intro off wds hl hb hp
    cases wds with
    | nil => simp at hl
    | cons wd wds =>
      refine .cons ?_ (ih (off := off + 1) (by simpa using hl) (fun i k e => ?_) (fun i p wd e e' => ?_))
      · have h0 := hp 0 v wd rfl rfl
        have hb0 := hb 0 k rfl
        rw [Nat.add_zero] at h0 hb0
        rcases hk with ⟨rfl, x, rfl, hx⟩ | ⟨rfl, b, b1, b4, rfl⟩ | ⟨rfl, n, rfl, hn⟩
        · rcases h0 with e | ⟨n, e, _⟩ | ⟨n, e, _⟩
          · have e' : x = wd := by injection e
            subst e'
            exact .inl ⟨rfl, rfl, hx⟩
          · cases e
          · cases e
        · rcases h0 with e | ⟨n, e, _, _, ec⟩ | ⟨n, e, hn, _⟩
          · cases e
          · have e' : (b : Int) = n := by injection e
            subst e'
            refine .inr (.inl ⟨rfl, b, b1, b4, rfl, ?_⟩)
            rw [ec, Int.toNat_natCast]
            have hb' : b = 1 ∨ b = 2 ∨ b = 3 ∨ b = 4 := by omega
            rcases hb' with rfl | rfl | rfl | rfl <;> decide +kernel
          · exact absurd (hb0.mp rfl) hn
        · rcases h0 with e | ⟨m, e, h1, h2, _⟩ | ⟨m, e, _, ec⟩
          · cases e
          · exact absurd (hb0.mpr ⟨h1, h2⟩) (by decide +kernel)
          · have e' : n = m := by injection e
            subst e'
            exact .inr (.inr ⟨rfl, n, rfl, ec, hn⟩)
      · have := hb (i + 1) k (by simpa using e)
        rw [show off + 1 + i = off + (i + 1) by omega]
        exact this
      · rw [show off + 1 + i = off + (i + 1) by omega]
        exact hp (i + 1) p wd (by simpa using e) (by simpa using e')
theorem ord_of {kd : Str} {vs : List V} {ws : List Str} (h : Due (.str kd :: vs)) (hl : ws.length = vs.length + 1) (hp : ∀ j p wd, (V.str kd :: vs)[j]? = some p → ws[j]? = some wd → PartW kd j p wd) : Ord (.str kd :: vs) ws := by
  obtain ⟨kd', ks, vs', hm, e, hpa, hn⟩ := h.ex
  have e1 : kd = kd' := by injection e with e; injection e
  have e2 : vs = vs' := by injection e
  subst e1 e2
  cases ws with
  | nil => simp at hl
  | cons w0 wds =>
    have h0 := hp 0 _ w0 rfl rfl
    have ew : w0 = kd := by
      rcases h0 with e | ⟨n, e, _⟩ | ⟨n, e, _⟩
      · injection e with e
        exact e.symm
      · cases e
      · cases e
    subst ew
    refine ⟨w0, ks, vs, wds, hm, rfl, rfl, words_of (kd := w0) (off := 1) hpa (by simpa using hl) (fun i k ek => ?_) (fun i p wd e e' => ?_), hn⟩
    · have hi : i < 3 := by
        have h1 := (List.getElem?_eq_some_iff.mp ek).1
        have h2 := (kd_codes hm).2.2.2
        omega
      have hb := beds_at _ hm i hi
      have hb' : ks[i]? = some kB ↔ w0 = Str.ofString "room" ∧ 1 + i = 2 := hb
      rw [ek] at hb'
      constructor
      · intro e
        exact hb'.mp (by rw [e])
      · intro e
        have := hb'.mpr e
        injection this
    · rw [Nat.add_comm 1 i]
      exact hp (i + 1) p wd (by simpa using e) (by simpa using e')
theorem parts_v {ks : List Str} {vs : List V} (h : Parts ks vs) : ∀ p ∈ vs, (∃ x, p = .str x) ∨ ∃ n : Int, p = .int n ∧ n.natAbs < 10 ^ 40 ∧ (0 ≤ n ∨ kA ∈ ks) := by
  induction h with
  | nil => intro p hp; simp at hp
  | cons hk _ ih =>
    intro p hp
    rcases List.mem_cons.mp hp with e | hp
    · subst e
      rcases hk with ⟨rfl, x, rfl, _⟩ | ⟨rfl, b, b1, b4, rfl⟩ | ⟨rfl, n, rfl, hn⟩
      · exact .inl ⟨x, rfl⟩
      · exact .inr ⟨_, rfl, by omega, .inl (by omega)⟩
      · exact .inr ⟨n, rfl, hn, .inr List.mem_cons_self⟩
    · rcases ih p hp with h | ⟨n, h1, h2, h3⟩
      · exact .inl h
      · exact .inr ⟨n, h1, h2, h3.imp id fun z => List.mem_cons_of_mem _ z⟩
theorem room_form {ks : List Str} (h : (Str.ofString "room", ks) ∈ formsL) : kA ∉ ks := by
  have h0 : ∀ p ∈ formsL, p.1 = Str.ofString "room" → kA ∉ p.2 := by decide +kernel
  exact h0 _ h rfl
theorem parts_len {ks : List Str} {vs : List V} (h : Parts ks vs) : vs.length = ks.length := by
  induction h with
  | nil => rfl
  | cons _ _ ih => simp [ih]
theorem same_upd' {H : Hp} {a : Addr} {o : HO} (h : H a = none) : Same H (upd H a o) := fun c u e => by
  rw [upd_ne (ne_of_none e h)]
  exact e
theorem kit_is (K : PySem.W.Frag) : PySem.W.kitOne K (.type "int") (.type "str") = some false := by kernel_rfl
def pD : V → PyData
  | .str x => .str x
  | .int n => .int n
  | _ => .none
def Flat2 (p : V) : Prop := (∃ x, p = .str x ∧ ∀ c ∈ cod x, c < 1114112) ∨ ∃ n : Int, p = .int n
theorem kd_small : ∀ p ∈ formsL, ∀ c ∈ cod p.1, c < 1114112 := by decide +kernel
theorem parts_flat {ks : List Str} {vs : List V} (h : Parts ks vs) : ∀ p ∈ vs, Flat2 p := by
  induction h with
  | nil => intro p hp; simp at hp
  | cons hk _ ih =>
    intro p hp
    rcases List.mem_cons.mp hp with e | hp
    · subst e
      rcases hk with ⟨_, x, rfl, hx⟩ | ⟨_, b, _, _, rfl⟩ | ⟨_, n, rfl, _⟩
      · exact .inl ⟨x, rfl, fun c hc => by have := hx.2.2 c hc; omega⟩
      · exact .inr ⟨_, rfl⟩
      · exact .inr ⟨_, rfl⟩
    · exact ih p hp
theorem Due.flat {ps : List V} (h : Due ps) : ∀ p ∈ ps, Flat2 p := by
  obtain ⟨kd, ks, vs, hm, rfl, hpa, _⟩ := h.ex
  intro p hp
  rcases List.mem_cons.mp hp with e | hp
  · exact .inl ⟨kd, e, kd_small _ hm⟩
  · exact parts_flat hpa p hp
theorem rv_parts {K : PySem.W.Frag} {H : Hp} : ∀ {ps : List V}, (∀ p ∈ ps, Flat2 p) → Paired (ReadV K H) ps (ps.map pD)
  | [], _ => .nil
  | p :: ps, h => by
    have hr := rv_parts (K := K) (H := H) (ps := ps) fun x hx => h x (List.mem_cons_of_mem _ hx)
    rcases h p List.mem_cons_self with ⟨x, rfl, _⟩ | ⟨n, rfl⟩
    · exact .cons rv_str hr
    · exact .cons rv_int hr
theorem parts_lay : ∀ {ps : List V}, (∀ p ∈ ps, Flat2 p) → PyData.canLayAll0 (ps.map pD) = true ∧ PyData.depthAll (ps.map pD) = 0 ∧ PyData.eqvAll (ps.map pD) (ps.map pD) = true
  | [], _ => by simp [PyData.canLayAll0, PyData.depthAll, PyData.eqvAll]
  | p :: ps, h => by
    obtain ⟨h1, h2, h3⟩ := parts_lay (ps := ps) fun x hx => h x (List.mem_cons_of_mem _ hx)
    rcases h p List.mem_cons_self with ⟨x, rfl, hx⟩ | ⟨n, rfl⟩
    · have hs : PyData.strOk x = true := by
        unfold PyData.strOk
        rw [Array.all_eq_true']
        intro c hc
        exact decide_eq_true (hx c (Array.mem_toList_iff.mpr hc))
      simp [pD, PyData.canLayAll0, PyData.canLay0, PyData.depthAll, PyData.depth, PyData.eqvAll, PyData.eqv, h1, h2, h3, hs]
    · simp [pD, PyData.canLayAll0, PyData.canLay0, PyData.depthAll, PyData.depth, PyData.eqvAll, PyData.eqv, h1, h2, h3]
theorem parts_shaped {ps : List V} (h : ∀ p ∈ ps, Flat2 p) : SeqAt.shaped (.tuple (ps.map pD)) = true := by
  obtain ⟨h1, h2, _⟩ := parts_lay h
  unfold SeqAt.shaped
  refine Bool.and_eq_true_iff.mpr ⟨?_, decide_eq_true ?_⟩
  · simp [PyData.canLay0, h1]
  · simp only [PyData.depth, h2]
    omega
theorem parts_eqv {ps : List V} (h : ∀ p ∈ ps, Flat2 p) : PyData.eqv (.tuple (ps.map pD)) (.tuple (ps.map pD)) = true := by
  obtain ⟨_, _, h3⟩ := parts_lay h
  simp [PyData.eqv, h3]
end L2
namespace L2
open PySem PySem.Spec PyProof.Rows
theorem Reads.free {rows : List Str} {pss : List (List V)} (h : Reads rows pss) : ∀ r ∈ rows, 10 ∉ cod r ∧ r.length ≤ 500 := by
  induction h with
  | nil => intro r hr; simp at hr
  | skip _ ih =>
    intro r hr
    rcases List.mem_cons.mp hr with e | hr
    · subst e
      exact ⟨by decide +kernel, by decide +kernel⟩
    · exact ih r hr
  | cons a b _ ih =>
    intro r hr
    rcases List.mem_cons.mp hr with e | hr
    · subst e
      exact ⟨a.free.1, a.free.2.2⟩
    · exact ih r hr
theorem sheet_split {rows : List Str} {pss : List (List V)} (h : Reads rows pss) : ∃ rows', Txt.split (Txt.join (Str.ofString "\n") rows) (Str.ofString "\n") = rows' ∧ Reads rows' pss ∧ rows'.length ≤ rows.length + 1 := by
  cases rows with
  | nil =>
    have := reads_nil h
    subst this
    exact ⟨[Str.ofString ""], by decide +kernel, .skip .nil, by simp⟩
  | cons r rest =>
    refine ⟨_, ?_, h, by simp⟩
    rw [nl_is]
    exact split_join (by simp) fun x hx => (h.free x hx).1
theorem sheet_len {rows : List Str} {pss : List (List V)} (h : Reads rows pss) (hl : rows.length ≤ 150) : (Txt.join (Str.ofString "\n") rows).length ≤ 100000 ∧ JoinOk (Str.ofString "\n") rows = true := by
  have ej : Txt.join (Str.ofString "\n") rows = Str.join (Str.ofString "\n") rows := StrLaws.glued_eq_join _ _
  have h1 := StrLaws.join_length_le (Str.ofString "\n") rows
  have h2 := sum_len fun x hx => (h.free x hx).2
  have h4 : (Str.ofString "\n").length = 1 := by decide +kernel
  rw [h4] at h1
  refine ⟨by rw [ej]; omega, ?_⟩
  unfold JoinOk
  rw [StrLaws.joinFits (B := 500) (fun x hx => (h.free x hx).2) (by rw [h4]; omega)]
  rfl
end L2
namespace L2
open PySem PySem.Spec PyProof.Rows
theorem tupK_mk {K : PySem.W.Frag} {t : Addr} {o : Obj} {its : Array Value} {n : Nat} {xs : List V} (l : K.lookup t = some o) (c : o.cls = .type "tuple") (d : o.data = .seq its n) (s : its.size ≤ sizeLine) (v : Vals xs its.toList) : TupK K t xs := ⟨o, its, n, l, c, d, s, v⟩
theorem readers_mk {K : PySem.W.Frag} {w : World} {mg : Str → Option Value} {ra f0 f1 f2 : Addr} {es : Array DictEntry} {n : Nat} (g : mg "READERS" = some (.ref ra)) (l : K.lookup ra = some ⟨.type "dict", none, .dict es n, #[]⟩) (k : PySem.W.KeysLit w.params es.toList) (lo : (ra == sysModules) = false)
    (g0 : mg "name_in" = some (.ref f0)) (e0 : PySem.W.nsIn K ra kN = some (some (.ref f0))) (g1 : mg "beds_in" = some (.ref f1)) (e1 : PySem.W.nsIn K ra kB = some (some (.ref f1))) (g2 : mg "amount_in" = some (.ref f2)) (e2 : PySem.W.nsIn K ra kA = some (some (.ref f2))) : Readers K w mg ra :=
  ⟨g, ⟨f0, g0, ⟨es, n, _, l, k, e0, rfl⟩, lo⟩, ⟨f1, g1, ⟨es, n, _, l, k, e1, rfl⟩, lo⟩, ⟨f2, g2, ⟨es, n, _, l, k, e2, rfl⟩, lo⟩⟩
theorem forms_mk {K : PySem.W.Frag} {w : World} {mg : Str → Option Value} {fa t0 t1 t2 t3 t4 t5 t6 t7 t8 t9 t10 t11 : Addr} {es : Array DictEntry} {n : Nat} (g : mg "FORMS" = some (.ref fa)) (l : K.lookup fa = some ⟨.type "dict", none, .dict es n, #[]⟩) (k : PySem.W.KeysLit w.params es.toList) (lo : (fa == sysModules) = false)
    (e0 : PySem.W.nsIn K fa (Str.ofString "room") = some (some (.ref t0))) (u0 : TupK K t0 ([kN, kB, kN].map V.str)) (e1 : PySem.W.nsIn K fa (Str.ofString "person") = some (some (.ref t1))) (u1 : TupK K t1 ([kN].map V.str)) (e2 : PySem.W.nsIn K fa (Str.ofString "rent") = some (some (.ref t2))) (u2 : TupK K t2 ([kA].map V.str)) (e3 : PySem.W.nsIn K fa (Str.ofString "worth") = some (some (.ref t3))) (u3 : TupK K t3 ([kN, kN, kA].map V.str)) (e4 : PySem.W.nsIn K fa (Str.ofString "purse") = some (some (.ref t4))) (u4 : TupK K t4 ([kN, kA].map V.str)) (e5 : PySem.W.nsIn K fa (Str.ofString "free") = some (some (.ref t5))) (u5 : TupK K t5 ([kN].map V.str)) (e6 : PySem.W.nsIn K fa (Str.ofString "near") = some (some (.ref t6))) (u6 : TupK K t6 ([kN, kN].map V.str)) (e7 : PySem.W.nsIn K fa (Str.ofString "leave") = some (some (.ref t7))) (u7 : TupK K t7 ([kN].map V.str)) (e8 : PySem.W.nsIn K fa (Str.ofString "share") = some (some (.ref t8))) (u8 : TupK K t8 ([].map V.str)) (e9 : PySem.W.nsIn K fa (Str.ofString "even") = some (some (.ref t9))) (u9 : TupK K t9 ([].map V.str)) (e10 : PySem.W.nsIn K fa (Str.ofString "within") = some (some (.ref t10))) (u10 : TupK K t10 ([].map V.str)) (e11 : PySem.W.nsIn K fa (Str.ofString "close") = some (some (.ref t11))) (u11 : TupK K t11 ([].map V.str)) : Forms K w mg fa := by
  refine ⟨g, ?_⟩
  unfold formsL
  refine List.forall_mem_cons.mpr ⟨⟨t0, ⟨⟨es, n, _, l, k, e0, rfl⟩, lo⟩, u0⟩, List.forall_mem_cons.mpr ⟨⟨t1, ⟨⟨es, n, _, l, k, e1, rfl⟩, lo⟩, u1⟩, List.forall_mem_cons.mpr ⟨⟨t2, ⟨⟨es, n, _, l, k, e2, rfl⟩, lo⟩, u2⟩, List.forall_mem_cons.mpr ⟨⟨t3, ⟨⟨es, n, _, l, k, e3, rfl⟩, lo⟩, u3⟩, List.forall_mem_cons.mpr ⟨⟨t4, ⟨⟨es, n, _, l, k, e4, rfl⟩, lo⟩, u4⟩, List.forall_mem_cons.mpr ⟨⟨t5, ⟨⟨es, n, _, l, k, e5, rfl⟩, lo⟩, u5⟩, List.forall_mem_cons.mpr ⟨⟨t6, ⟨⟨es, n, _, l, k, e6, rfl⟩, lo⟩, u6⟩, List.forall_mem_cons.mpr ⟨⟨t7, ⟨⟨es, n, _, l, k, e7, rfl⟩, lo⟩, u7⟩, List.forall_mem_cons.mpr ⟨⟨t8, ⟨⟨es, n, _, l, k, e8, rfl⟩, lo⟩, u8⟩, List.forall_mem_cons.mpr ⟨⟨t9, ⟨⟨es, n, _, l, k, e9, rfl⟩, lo⟩, u9⟩, List.forall_mem_cons.mpr ⟨⟨t10, ⟨⟨es, n, _, l, k, e10, rfl⟩, lo⟩, u10⟩, List.forall_mem_cons.mpr ⟨⟨t11, ⟨⟨es, n, _, l, k, e11, rfl⟩, lo⟩, u11⟩, (fun _ h => by simp at h)⟩⟩⟩⟩⟩⟩⟩⟩⟩⟩⟩⟩
end L2
set_option Elab.async false
set_option linter.all false
set_option maxRecDepth 100000
set_option maxHeartbeats 4000000
local macro_rules | `(tactic| walk_at "go") => `(tactic| repeat (first
  | refine ⟨_, rfl, ?_⟩
  | refine ⟨_, _, rfl, rfl, ?_⟩
  | refine ⟨rfl, ?_⟩
  | refine ⟨⟨⟨by omega, by omega⟩, ⟨by omega, by omega⟩⟩, ?_⟩
  | refine ⟨⟨by omega, by omega⟩, ?_⟩
  | refine ⟨⟨by decide, by decide, by decide⟩, ?_⟩
  | refine ⟨⟨by decide, by decide, by omega⟩, ?_⟩
  | refine And.intro (by decide) ?_
  | refine And.intro (by show (0 : Int) < _; decide) ?_
  | refine And.intro (by (with_reducible show List.length _ ≤ PySem.sizeLine); exact L2.len_small (by simp)) ?_
  | refine And.intro (by omega) ?_))
namespace My
open PySem L2
def top (i : Nat) : Stmt := PySem.Challenge.pw_rentshare_k81_orders_read.main.body.getD i (.Pass ⟨0, 0, 0, 0⟩)
structure Txt (mg : Str → Option Value) : Prop where
  len : mg "len" = none
  range : mg "range" = none
  enumerate : mg "enumerate" = none
  zip : mg "zip" = none
  isinstance : mg "isinstance" = none
  int : mg "int" = none
  bool : mg "bool" = none
  str : mg "str" = none
  list : mg "list" = none
  tuple : mg "tuple" = none
  abs : mg "abs" = none
  all : mg "all" = none
  BEHIND : ∃ v, mg "BEHIND" = some v ∧ ∃ t, v = .int 2 t
  FIGURES : ∃ v, mg "FIGURES" = some v ∧ ∃ t, v = .str "0123456789" t
  MOST_AHEAD : ∃ v, mg "MOST_AHEAD" = some v ∧ ∃ t, v = .int 38 t
  LETTERS : ∃ v, mg "LETTERS" = some v ∧ ∃ t, v = .str "abcdefghijklmnopqrstuvwxyz" t
  LONGEST_NAME : ∃ v, mg "LONGEST_NAME" = some v ∧ ∃ t, v = .int 8 t
abbrev s_show_amount : Stmt := top 8
theorem sc_show_amount : FnScope ["number", "minus", "whole", "behind"] ["number"] (defScope s_show_amount) := ⟨rfl, rfl, rfl, by decide +kernel, rfl, by decide +kernel, by decide +kernel⟩
abbrev s_are_figures : Stmt := top 9
theorem sc_are_figures : FnScope ["text"] ["text"] (defScope s_are_figures) := ⟨rfl, rfl, rfl, by decide +kernel, rfl, by decide +kernel, by decide +kernel⟩
abbrev s_has_form : Stmt := top 10
theorem sc_has_form : FnScope ["unsigned", "pieces"] ["unsigned"] (defScope s_has_form) := ⟨rfl, rfl, rfl, by decide +kernel, rfl, by decide +kernel, by decide +kernel⟩
abbrev s_read_amount : Stmt := top 11
theorem sc_read_amount : FnScope ["text", "minus", "unsigned", "size", "number"] ["text"] (defScope s_read_amount) := ⟨rfl, rfl, rfl, by decide +kernel, rfl, by decide +kernel, by decide +kernel⟩
abbrev s_name_in : Stmt := top 16
theorem sc_name_in : FnScope ["word"] ["word"] (defScope s_name_in) := ⟨rfl, rfl, rfl, by decide +kernel, rfl, by decide +kernel, by decide +kernel⟩
abbrev s_beds_in : Stmt := top 17
theorem sc_beds_in : FnScope ["word"] ["word"] (defScope s_beds_in) := ⟨rfl, rfl, rfl, by decide +kernel, rfl, by decide +kernel, by decide +kernel⟩
abbrev s_amount_in : Stmt := top 18
theorem sc_amount_in : FnScope ["word"] ["word"] (defScope s_amount_in) := ⟨rfl, rfl, rfl, by decide +kernel, rfl, by decide +kernel, by decide +kernel⟩
abbrev s_read_word : Stmt := top 21
theorem sc_read_word : FnScope ["kind", "word", "reader"] ["kind", "word"] (defScope s_read_word) := ⟨rfl, rfl, rfl, by decide +kernel, rfl, by decide +kernel, by decide +kernel⟩
abbrev s_read_row : Stmt := top 22
theorem sc_read_row : FnScope ["row", "words", "kinds", "told"] ["row"] (defScope s_read_row) := ⟨rfl, rfl, rfl, by decide +kernel, rfl, by decide +kernel, by decide +kernel⟩
abbrev s_read_sheet : Stmt := top 23
theorem sc_read_sheet : FnScope ["text", "orders", "rows", "place", "order"] ["text"] (defScope s_read_sheet) := ⟨rfl, rfl, rfl, by decide +kernel, rfl, by decide +kernel, by decide +kernel⟩
abbrev s__law_cell_at : Stmt := top 25
theorem sc__law_cell_at : FnScope ["_law_script", "_law_k"] ["_law_script", "_law_k"] (defScope s__law_cell_at) := ⟨rfl, rfl, rfl, by decide +kernel, rfl, by decide +kernel, by decide +kernel⟩
abbrev s__law_mixed : Stmt := top 26
theorem sc__law_mixed : FnScope ["_law_cell", "_law_k", "_law_m"] ["_law_cell", "_law_k"] (defScope s__law_mixed) := ⟨rfl, rfl, rfl, by decide +kernel, rfl, by decide +kernel, by decide +kernel⟩
abbrev s__law_number : Stmt := top 27
theorem sc__law_number : FnScope ["_law_cell", "_law_k", "_law_most", "_law_m", "_law_size"] ["_law_cell", "_law_k", "_law_most"] (defScope s__law_number) := ⟨rfl, rfl, rfl, by decide +kernel, rfl, by decide +kernel, by decide +kernel⟩
abbrev s__law_written : Stmt := top 28
theorem sc__law_written : FnScope ["_law_number_here", "_law_figures", "_law_text"] ["_law_number_here"] (defScope s__law_written) := ⟨rfl, rfl, rfl, by decide +kernel, rfl, by decide +kernel, by decide +kernel⟩
abbrev s__law_whole : Stmt := top 29
theorem sc__law_whole : FnScope ["_law_found"] ["_law_found"] (defScope s__law_whole) := ⟨rfl, rfl, rfl, by decide +kernel, rfl, by decide +kernel, by decide +kernel⟩
abbrev s__law_name : Stmt := top 30
theorem sc__law_name : FnScope ["_law_seed", "_law_k", "_law_some", "_law_at"] ["_law_seed", "_law_k"] (defScope s__law_name) := ⟨rfl, rfl, rfl, by decide +kernel, rfl, by decide +kernel, by decide +kernel⟩
abbrev s__law_order : Stmt := top 31
theorem sc__law_order : FnScope ["_law_cell", "_law_k", "_law_seed", "_law_m", "_law_one", "_law_other", "_law_number_here", "_law_beds", "_law_some"] ["_law_cell", "_law_k", "_law_seed"] (defScope s__law_order) := ⟨rfl, rfl, rfl, by decide +kernel, rfl, by decide +kernel, by decide +kernel⟩
abbrev s__law_row : Stmt := top 32
theorem sc__law_row : FnScope ["_law_order_here", "_law_words", "_law_k", "_law_part"] ["_law_order_here"] (defScope s__law_row) := ⟨rfl, rfl, rfl, by decide +kernel, rfl, by decide +kernel, by decide +kernel⟩
abbrev s__law_same : Stmt := top 33
theorem sc__law_same : FnScope ["_law_found", "_law_due", "_law_one", "_law_other"] ["_law_found", "_law_due"] (defScope s__law_same) := ⟨rfl, rfl, rfl, by decide +kernel, rfl, by decide +kernel, by decide +kernel⟩
abbrev s_law : Stmt := top 34
theorem sc_law : FnScope ["_law_script", "_law_seed", "_law_due", "_law_rows", "_law_k", "_law_cell", "_law_found"] ["_law_script"] (defScope s_law) := ⟨rfl, rfl, rfl, by decide +kernel, rfl, by decide +kernel, by decide +kernel⟩
section
variable {P : Program} {w : World} {K : PySem.W.Frag} {mg : Str → Option Value} {base : Heap}
theorem D_mixed (S : Src K mg "_law_mixed" "_law_mixed" s__law_mixed) : Def P w K mg base 1 "_law_mixed" ["_law_cell", "_law_k"] sp_mixed := by
  refine S.mk' sc__law_mixed (fun vs H Q E h => ?_) (fun _ _ _ _ _ _ us hl => match us, hl with | [_, _], _ => rfl) (fun f cdv A outer s H vs Q E hr h => ?_)
  · obtain ⟨c, k, rfl, _⟩ := h
    rfl
  · obtain ⟨c, k, rfl, h1, h2, q⟩ := h
    refine ⟨_, (pss_cons (ps_set (i := 2) sc__law_mixed.nd rfl (Or.inl rfl) (pe_op op_mod (pe_op op_mulW (pe_op op_add (pe_op op_mod (pv 0) pe_int) pe_int) (pe_op op_add pe_int (pe_op op_mulW (pe_op op_mulW pe_int (pv 1)) (pv 1)))) pe_int))
      (pss_one (ps_ret (pe_op op_mod (pe_op op_mulW (pv 2) (pv 2)) pe_int)))), ?_⟩
    have b1 := mul_bd (a := 2 * k) (b := k) (A := 2000000) (B := 1000000) (by omega) (by omega) (by omega) (by omega)
    walk_at "go"
    exact q _ (Int.emod_nonneg _ (by decide)) (Int.emod_lt_of_pos _ (by decide))
theorem D_number (S : Src K mg "_law_number" "_law_number" s__law_number) (D_law_mixed : Def P w K mg base 1 "_law_mixed" ["_law_cell", "_law_k"] sp_mixed) : Def P w K mg base 2 "_law_number" ["_law_cell", "_law_k", "_law_most"] sp_number := by
  refine S.mk' sc__law_number (fun vs H Q E h => ?_) (fun _ _ _ _ _ _ us hl => match us, hl with | [_, _, _], _ => rfl) (fun f cdv A outer s H vs Q E hr h => ?_)
  · obtain ⟨c, k, most, rfl, _⟩ := h
    rfl
  · obtain ⟨c, k, most, rfl, h1, h2, h3, h4, q⟩ := h
    refine ⟨_, (pss_cons (ps_set (i := 3) sc__law_number.nd rfl (Or.inl rfl) (pe_def D_law_mixed (hr.mono (by decide)) rfl (pa_cons (pv 0) (pa_cons (pv 1) pa_nil))))
      (pss_cons (ps_if (pt_cmpR op_eq (pe_op op_mod (pv 3) pe_int) pe_int (nomark _)) (pss_one (ps_ret (pe_op op_sub (pe_op op_mod (pv 0) pe_int) pe_int))) pss_nil)
      (pss_cons (ps_if (pt_cmpR op_eq (pe_op op_mod (pv 3) pe_int) pe_int (nomark _)) (pss_one (ps_ret (pe_op op_sub (pe_op op_mod (pv 0) (pe_op op_add (pe_op op_mulW pe_int (pv 2)) pe_int)) (pv 2)))) pss_nil)
      (pss_cons (ps_if (pt_cmpR op_eq (pe_op op_mod (pv 3) pe_int) pe_int (nomark _)) (pss_cons (ps_set (i := 4) sc__law_number.nd rfl (Or.inl rfl) (pe_ix (ix_seqK (K := K) rfl) (pe_lst' (pa_cons pe_int (pa_cons pe_int (pa_cons (pe_op op_pow pe_int pe_int) (pa_cons (pe_op op_pow pe_int pe_int) (pa_cons (pe_op op_pow pe_int pe_int) pa_nil)))))) (pe_op op_mod (pe_op op_fdivW (pv 3) pe_int) pe_int) (fun _ _ => rfl)))
      (pss_one (ps_ret (pe_op op_sub (pe_op op_mod (pe_op op_pow (pv 3) pe_int) (pe_op op_add (pe_op op_mulW pe_int (pv 4)) pe_int)) (pv 4))))) pss_nil)
      (pss_one (ps_ret (pe_ix (ix_seqK (K := K) rfl) (pe_lst' (pa_cons (pv 2) (pa_cons (pe_un un_neg (pv 2)) (pa_cons pe_int (pa_cons pe_int (pa_cons (pe_un un_neg pe_int) (pa_cons pe_int (pa_cons (pe_un un_neg pe_int) (pa_cons pe_int (pa_cons (pe_un un_neg pe_int) (pa_cons (pe_op op_fdivW (pv 2) pe_int) pa_nil))))))))))) (pe_op op_mod (pe_op op_fdivW (pv 3) pe_int) pe_int) (fun _ _ => rfl)))))))), ?_⟩
    refine ⟨_, rfl, _, rfl, c, k, rfl, h1, h2, fun m m0 m1 => ?_⟩
    walk_at "go"
    refine ite2 (fun _ => ?_) (fun _ => ?_)
    · walk_at "go"
      exact q _ H (by omega) (by omega) (Same.refl H)
    · walk_at "go"
      refine ite2 (fun _ => ?_) (fun _ => ?_)
      · walk_at "go"
        have a1 := Int.emod_nonneg c (show 2 * most + 1 ≠ 0 by omega)
        have a2 := Int.emod_lt_of_pos c (show 0 < 2 * most + 1 by omega)
        exact q _ H (by omega) (by omega) (Same.refl H)
      · walk_at "go"
        refine ite2 (fun _ => ?_) (fun _ => ?_)
        · walk_at "go"
          refine fun p H1 hp => ?_
          walk_at "go"
          refine ixInts (ns := [7, 1000, 10 ^ 6, 10 ^ 13, 10 ^ 20]) (SqL.of hp.at_) (by show (0 : Int) ≤ m / 4 % 5; omega) (by show m / 4 % 5 < 5; omega) fun z hz => ?_
          have z1 : 7 ≤ z ∧ z ≤ 10 ^ 20 := by
            simp only [List.mem_cons, List.not_mem_nil, or_false] at hz
            omega
          walk_at "go"
          have a1 := Int.emod_nonneg (m ^ 9) (show 2 * z + 1 ≠ 0 by omega)
          have a2 := Int.emod_lt_of_pos (m ^ 9) (show 0 < 2 * z + 1 by omega)
          exact q _ _ (by show -(max most (10 ^ 20)) ≤ m ^ 9 % (2 * z + 1) - z; omega) (by show m ^ 9 % (2 * z + 1) - z ≤ max most (10 ^ 20); omega) hp.same
        · walk_at "go"
          refine fun p H1 hp => ?_
          walk_at "go"
          refine ixInts (ns := [most, -most, 0, 99, -99, 100, -100, 10, -1, most / 10]) (SqL.of hp.at_) (by show (0 : Int) ≤ m / 4 % 10; omega) (by show m / 4 % 10 < 10; omega) fun z hz => ?_
          simp only [List.mem_cons, List.not_mem_nil, or_false] at hz
          exact q _ _ (by omega) (by omega) hp.same
theorem D_cell (T : Txt mg) (S : Src K mg "_law_cell_at" "_law_cell_at" s__law_cell_at) : Def P w K mg base 1 "_law_cell_at" ["_law_script", "_law_k"] (sp_cell K) := by
  refine S.mk' sc__law_cell_at (fun vs H Q E h => ?_) (fun _ _ _ _ _ _ us hl => match us, hl with | [_, _], _ => rfl) (fun f cdv A outer s H vs Q E hr h => ?_)
  · obtain ⟨a, ns, k, rfl, _⟩ := h
    rfl
  · obtain ⟨a, ns, k, rfl, hS, h0, q⟩ := h
    refine ⟨_, (pss_cons (ps_if (pt_cmpR op_lt (pv 1) (pe_callB (call_lenK (K := K) rfl) (by rfl) T.len boot_len' (pa_cons (pv 0) pa_nil)) (nomark _)) (pss_one (ps_ret (pe_ix (ix_seqK (K := K) rfl) (pv 0) (pv 1) (fun _ _ => rfl)))) pss_nil)
      (pss_one (ps_ret pe_int))), ?_⟩
    walk_at "go"
    refine ⟨a, _, rfl, .inl hS, ?_⟩
    walk_at "go"
    refine ite2 (fun e => ?_) (fun _ => q 0)
    walk_at "go"
    have hk : k < ns.length := by
      have := of_decide_eq_true e
      simpa using this
    exact ixInts hS h0 hk fun z _ => q z
theorem D_shown (T : Txt mg) (S : Src K mg "show_amount" "show_amount" s_show_amount) : Def P w K mg base 1 "show_amount" ["number"] sp_shown := by
  refine S.mk' sc_show_amount (fun vs H Q E h => ?_) (fun _ _ _ _ _ _ us hl => match us, hl with | [_], _ => rfl) (fun f cdv A outer s H vs Q E hr h => ?_)
  · obtain ⟨n, rfl, _⟩ := h
    rfl
  · obtain ⟨n, rfl, h1, h2, q⟩ := h
    refine ⟨_, (pss_cons (ps_set (i := 1) sc_show_amount.nd rfl (Or.inl rfl) (pe_join (pe_ifExp (pt_cmpR op_lt (pv 0) pe_int (nomark _)) pe_str pe_str)))
      (pss_cons (ps_set (i := 2) sc_show_amount.nd rfl (Or.inl rfl) (pe_op op_fdivW (pe_callB call_abs (by rfl) T.abs boot_abs' (pa_cons (pv 0) pa_nil)) pe_int))
      (pss_cons (ps_set (i := 3) sc_show_amount.nd rfl (Or.inl rfl) (pe_bmK (K := K) rfl PySem.F.plainAttrs_str PySem.F.slot_str_zfill PySem.F.type_str_zfill mt_zfill (pe_callTy call_str_int (by rfl) T.str boot_str' (pa_cons (pe_op op_mod (pe_callB call_abs (by rfl) T.abs boot_abs' (pa_cons (pv 0) pa_nil)) pe_int) pa_nil)) (pa_cons (pe_gint rfl T.BEHIND) pa_nil)))
      (pss_one (ps_ret (pe_fstr (pj_cons (pe_fmt (pv 1)) (pj_cons (pe_fmt (pv 2)) (pj_cons pe_str (pj_cons (pe_fmt (pv 3)) pj_nil)))))))))), ?_⟩
    have hb := dec_abs_le h1 h2
    refine ⟨fun v H' => H' = H ∧ ∃ z, v = .str z ∧ cod z = (if n < 0 then [45] else []), ?_, ?_⟩
    · walk_at "go"
      refine ite2 (fun e => ?_) (fun e => ?_)
      · have e' : n < 0 := of_decide_eq_true e
        exact ⟨rfl, _, rfl, by rw [if_pos e']; decide +kernel⟩
      · have e' : ¬ n < 0 := fun z => e (decide_eq_true z)
        exact ⟨rfl, _, rfl, by rw [if_neg e']; decide +kernel⟩
    rintro v H' ⟨rfl, z0, rfl, hz0⟩
    walk_at "go"
    rw [abs_nat]
    refine ⟨log_small ⟨by omega, by omega⟩, ?_⟩
    walk_at "go"
    have c1 : cod (Txt.zfill (Str.ofString (toString (((n.natAbs : Nat) : Int) % 100))) 2) = padz 2 (dec (n.natAbs % 100)) := by
      have := cod_num (i := ((n.natAbs : Nat) : Int) % 100) (by omega)
      have h3 := zfill_cod (z := Str.ofString (toString (((n.natAbs : Nat) : Int) % 100))) (k := 2) (by rw [this]; exact fun c hc => (dec_codes _ c hc).1)
      have h4 : cod (Txt.zfill (Str.ofString (toString (((n.natAbs : Nat) : Int) % 100))) 2) = padz 2 (cod (Str.ofString (toString (((n.natAbs : Nat) : Int) % 100)))) := h3
      rw [h4, this]
      rw [show (((n.natAbs : Nat) : Int) % 100).toNat = n.natAbs % 100 by omega]
    generalize Txt.zfill (Str.ofString (toString (((n.natAbs : Nat) : Int) % 100))) 2 = z1 at *
    have l0 : z0.length ≤ 1 := by rw [← cod_len, hz0]; split <;> simp
    have l1 : z1.length = 2 := by rw [← cod_len, c1, dec_two (Nat.mod_lt _ (by decide))]; rfl
    refine .inl ⟨_, rfl, by rw [sizeLine_eq]; omega, ?_⟩
    refine ⟨_, rfl, by rw [sizeLine_eq, cod_len]; simp; omega, ?_⟩
    walk_at "go"
    refine .inr ⟨_, rfl, log_small ⟨by omega, by omega⟩, ?_⟩
    have c2 : cod (Str.ofString (toString (((n.natAbs : Nat) : Int) / 100))) = dec (n.natAbs / 100) := by
      rw [cod_num (by omega)]
      rw [show (((n.natAbs : Nat) : Int) / 100).toNat = n.natAbs / 100 by omega]
    have l2 := dec_le (n := n.natAbs / 100) 99 (by omega)
    refine ⟨_, rfl, ?_, ?_⟩
    · rw [sizeLine_eq, c2, hz0]; split <;> simp <;> omega
    rw [c2]
    refine ⟨_, rfl, ?_, ?_⟩
    · rw [sizeLine_eq, hz0]
      have : (cod (Str.ofString ".")).length = 1 := by decide +kernel
      rw [this]
      split <;> simp <;> omega
    walk_at "go"
    refine .inl ⟨_, rfl, by rw [sizeLine_eq]; omega, ?_⟩
    have c3 : cod (Str.ofString ".") = [46] := by decide +kernel
    refine ⟨_, rfl, ?_, ?_⟩
    · rw [sizeLine_eq, hz0, c3, c1, dec_two (Nat.mod_lt _ (by decide))]
      split <;> simp <;> omega
    refine ⟨?_, fun z hz => q z ?_⟩
    · rw [sizeLine_eq, hz0, c3, c1, dec_two (Nat.mod_lt _ (by decide))]
      split <;> simp <;> omega
    · rw [hz, hz0, c3, c1]
      unfold wcod
      simp
theorem D_written (T : Txt mg) (S : Src K mg "_law_written" "_law_written" s__law_written) : Def P w K mg base 1 "_law_written" ["_law_number_here"] sp_shown := by
  refine S.mk' sc__law_written (fun vs H Q E h => ?_) (fun _ _ _ _ _ _ us hl => match us, hl with | [_], _ => rfl) (fun f cdv A outer s H vs Q E hr h => ?_)
  · obtain ⟨n, rfl, _⟩ := h
    rfl
  · obtain ⟨n, rfl, h1, h2, q⟩ := h
    refine ⟨_, (pss_cons (ps_set (i := 1) sc__law_written.nd rfl (Or.inl rfl) (pe_bmK (K := K) rfl PySem.F.plainAttrs_str PySem.F.slot_str_zfill PySem.F.type_str_zfill mt_zfill (pe_callTy call_str_int (by rfl) T.str boot_str' (pa_cons (pe_callB call_abs (by rfl) T.abs boot_abs' (pa_cons (pv 0) pa_nil)) pa_nil)) (pa_cons pe_int pa_nil)))
      (pss_cons (ps_set (i := 2) sc__law_written.nd rfl (Or.inl rfl) (pe_op op_add_str (pe_op op_add_str (pe_slice sl_str (pv 1) po_none (po_some (pe_op op_sub (pe_callB call_len_str (by rfl) T.len boot_len' (pa_cons (pv 1) pa_nil)) pe_int))) pe_str) (pe_slice sl_str (pv 1) (po_some (pe_op op_sub (pe_callB call_len_str (by rfl) T.len boot_len' (pa_cons (pv 1) pa_nil)) pe_int)) po_none)))
      (pss_cons (ps_if (pt_cmpR op_lt (pv 0) pe_int (nomark _)) (pss_one (ps_ret (pe_op op_add_str pe_str (pv 2)))) pss_nil)
      (pss_one (ps_ret (pv 2)))))), ?_⟩
    have hb := dec_abs_le h1 h2
    walk_at "go"
    rw [abs_nat]
    refine ⟨log_small ⟨by omega, by omega⟩, ?_⟩
    walk_at "go"
    have c1 : cod (Txt.zfill (Str.ofString (toString ((n.natAbs : Nat) : Int))) 3) = padz 3 (dec n.natAbs) := by
      have := cod_num (i := ((n.natAbs : Nat) : Int)) (by omega)
      have h3 := zfill_cod (z := Str.ofString (toString ((n.natAbs : Nat) : Int))) (k := 3) (by rw [this]; exact fun c hc => (dec_codes _ c hc).1)
      have h4 : cod (Txt.zfill (Str.ofString (toString ((n.natAbs : Nat) : Int))) 3) = padz 3 (cod (Str.ofString (toString ((n.natAbs : Nat) : Int)))) := h3
      rw [h4, this, Int.toNat_natCast]
    generalize Txt.zfill (Str.ofString (toString ((n.natAbs : Nat) : Int))) 3 = z1 at *
    have l1 := padz_len3 n.natAbs hb
    have hh := dec_hund n.natAbs
    have h22 := dec_two (r := n.natAbs % 100) (Nat.mod_lt _ (by decide))
    have lz : z1.length = (dec (n.natAbs / 100)).length + 2 := by
      rw [← cod_len, c1, hh, h22]
      simp
    have lz2 : z1.length ≤ 103 := by rw [← cod_len, c1]; exact l1
    refine ⟨by rw [sizeLine_eq]; omega, ?_⟩
    walk_at "go"
    refine ⟨by rw [sizeLine_eq]; omega, fun y1 hy1 => ?_⟩
    walk_at "go"
    refine ⟨?_, ?_⟩
    · rw [sizeLine_eq, ← cod_len, hy1]
      have := cutC_length (cod z1) none (some ((z1.length : Int) - 2))
      rw [cod_len] at this
      have : (Str.ofString ".").length = 1 := by decide +kernel
      omega
    walk_at "go"
    refine ⟨by rw [sizeLine_eq]; omega, ?_⟩
    walk_at "go"
    refine ⟨by rw [sizeLine_eq]; omega, fun y2 hy2 => ?_⟩
    have ix : (z1.length : Int) - 2 = (((dec (n.natAbs / 100)).length : Nat) : Int) := by omega
    have e1 : cod y1 = dec (n.natAbs / 100) := by
      rw [hy1, ix, cutC_to, c1, hh, List.take_left']
      rfl
    have e2 : cod y2 = padz 2 (dec (n.natAbs % 100)) := by
      rw [hy2, ix, cutC_from, c1, hh, List.drop_left']
      rfl
    have l3 : y1.length ≤ 101 := by rw [← cod_len, e1]; omega
    have l4 : y2.length = 2 := by rw [← cod_len, e2, h22]; rfl
    have l5 : (Str.ofString ".").length = 1 := by decide +kernel
    have l6 : (y1 ++ Str.ofString ".").length ≤ 102 := by
      rw [← cod_len, cod_app, List.length_append, cod_len, cod_len]
      omega
    refine ⟨_, _, rfl, rfl, by rw [sizeLine_eq]; omega, ?_⟩
    have e3 : cod (y1 ++ Str.ofString "." ++ y2) = dec (n.natAbs / 100) ++ 46 :: padz 2 (dec (n.natAbs % 100)) := by
      rw [cod_app, cod_app, e1, e2]
      have : cod (Str.ofString ".") = [46] := by decide +kernel
      rw [this]
      simp
    have l7 : (y1 ++ Str.ofString "." ++ y2).length ≤ 105 := by
      rw [← cod_len, cod_app, List.length_append, cod_len, cod_len]
      omega
    generalize y1 ++ Str.ofString "." ++ y2 = y3 at *
    walk_at "go"
    refine ite2 (fun e => ?_) (fun e => ?_)
    · have e' : n < 0 := of_decide_eq_true e
      have l8 : (Str.ofString "-").length = 1 := by decide +kernel
      walk_at "go"
      first | refine ⟨by rw [sizeLine_eq]; omega, q _ ?_⟩ | refine q _ ?_
      rw [cod_app, e3]
      unfold wcod
      rw [if_pos e']
      have : cod (Str.ofString "-") = [45] := by decide +kernel
      rw [this]
    · have e' : ¬ n < 0 := fun z => e (decide_eq_true z)
      walk_at "go"
      refine q _ ?_
      rw [e3]
      unfold wcod
      rw [if_neg e']
      rfl
theorem D_whole (T : Txt mg) (S : Src K mg "_law_whole" "_law_whole" s__law_whole) : Def P w K mg base 1 "_law_whole" ["_law_found"] sp_whole := by
  refine S.mk' sc__law_whole (fun vs H Q E h => ?_) (fun _ _ _ _ _ _ us hl => match us, hl with | [_], _ => rfl) (fun f cdv A outer s H vs Q E hr h => ?_)
  · obtain ⟨i, rfl, _⟩ := h
    rfl
  · obtain ⟨i, rfl, q⟩ := h
    refine ⟨_, (pss_one (ps_ret (pe_and (pe_callB (call_isinstK (K := K) rfl) (by rfl) T.isinstance boot_isinstance' (pa_cons (pv 0) (pa_cons (pe_bltn (v := .ty "int") rfl T.int boot_int' rfl) pa_nil))) (pe_one (pe_not (pe_callB (call_isinstK (K := K) rfl) (by rfl) T.isinstance boot_isinstance' (pa_cons (pv 0) (pa_cons (pe_bltn (v := .ty "bool") rfl T.bool boot_bool' rfl) pa_nil)))))))), ?_⟩
    walk_at "go"
    refine ⟨_, _, _, true, rfl, .int _, kit_same _ _, _, rfl, iteT ?_⟩
    walk_at "go"
    refine ⟨_, _, _, false, rfl, .int _, kit_ib _, _, rfl, ?_⟩
    exact q
theorem D_figs (T : Txt mg) (S : Src K mg "are_figures" "are_figures" s_are_figures) : Def P w K mg base 1 "are_figures" ["text"] sp_figs := by
  refine S.mk' sc_are_figures (fun vs H Q E h => ?_) (fun _ _ _ _ _ _ us hl => match us, hl with | [_], _ => rfl) (fun f cdv A outer s H vs Q E hr h => ?_)
  · obtain ⟨z, rfl, _⟩ := h
    rfl
  · obtain ⟨z, rfl, hz, q⟩ := h
    refine ⟨_, (pss_one (ps_ret (pe_callB (call_allK (K := K) rfl rfl) (by rfl) T.all boot_all' (pa_cons (pe_comp ["sign"] [none] rfl rfl rfl (pi_str (pv 0)) (fun _ _ _ _ => (pg_name (i := 0) (by decide +kernel : (["sign"] : List PySem.Str).Nodup) rfl (Or.inl rfl))) (fun _ _ _ _ => pifs_nil) (fun _ _ _ _ => (pe_cmpR op_in_str (pv 0) (pe_gstr rfl T.FIGURES) (by with_unfolding_all rfl)))) pa_nil)))), ?_⟩
    refine ⟨_, rfl, z, rfl, fun D hD => ?_⟩
    refine compStrV (fun c => .bl (isDig c)) (by rw [sizeLine_eq]; omega) hD (fun c hc H1 N s1 hN => ?_) fun H1 s1 d1 => ?_
    · refine ⟨_, rfl, _, _, rfl, rfl, ?_⟩
      rw [StrLaws.found_one]
      have e := fig_mem c
      rw [show decide (c ∈ (Str.ofString "0123456789").cps.toList) = isDig c from e]
      exact hN _ (Same.refl _)
    · refine ⟨D, (cod z).map isDig, rfl, SqL.of (by rw [d1, List.map_map]; rfl), ?_⟩
      have e : ((cod z).map isDig).all id = (cod z).all isDig := by rw [List.all_map]; rfl
      rw [e]
      exact q _ s1
theorem D_form (T : Txt mg) (S : Src K mg "has_form" "has_form" s_has_form) (Dare_figures : Def P w K mg base 1 "are_figures" ["text"] sp_figs) : Def P w K mg base 2 "has_form" ["unsigned"] sp_form := by
  refine S.mk' sc_has_form (fun vs H Q E h => ?_) (fun _ _ _ _ _ _ us hl => match us, hl with | [_], _ => rfl) (fun f cdv A outer s H vs Q E hr h => ?_)
  · obtain ⟨z, rfl, _⟩ := h
    rfl
  · obtain ⟨z, rfl, hz, q⟩ := h
    refine ⟨_, (pss_cons (ps_set (i := 1) sc_has_form.nd rfl (Or.inl rfl) (pe_bmK (K := K) rfl PySem.F.plainAttrs_str PySem.F.slot_str_split PySem.F.type_str_split mt_split (pv 0) (pa_cons pe_str pa_nil)))
      (pss_cons (ps_if (PW.pt (pw_or (pt_cmpR op_ne (pe_callB (call_lenK (K := K) rfl) (by rfl) T.len boot_len' (pa_cons (pv 1) pa_nil)) pe_int (nomark _)) (pw_or1 (pt_not (pt_val (pe_def Dare_figures (hr.mono (by decide)) rfl (pa_cons (pe_op op_add_str (pe_ix (ix_seqK (K := K) rfl) (pv 1) pe_int (fun _ _ => rfl)) (pe_ix (ix_seqK (K := K) rfl) (pv 1) pe_int (fun _ _ => rfl))) pa_nil))))))) (pss_one (ps_ret pe_bl)) pss_nil)
      (pss_one (ps_ret (pe_and (pe_chain op_le op_le pe_int (pe_callB call_len_str (by rfl) T.len boot_len' (pa_cons (pe_ix (ix_seqK (K := K) rfl) (pv 1) pe_int (fun _ _ => rfl)) pa_nil)) (pe_gint rfl T.MOST_AHEAD)) (pe_one (pe_cmpR op_eq (pe_callB call_len_str (by rfl) T.len boot_len' (pa_cons (pe_ix (ix_seqK (K := K) rfl) (pv 1) pe_int (fun _ _ => rfl)) pa_nil)) (pe_gint rfl T.BEHIND) (nomark _)))))))), ?_⟩
    refine ⟨_, rfl, rfl, z, _, rfl, rfl, by decide +kernel, by omega, fun l H1 n1 => ?_⟩
    rw [dot_is] at n1
    walk_at "go"
    refine ⟨l, _, rfl, .inl (SqL.of n1.at_), ?_⟩
    walk_at "go"
    match hs : Txt.split z dotS, n1 with
    | [a, b], n1 =>
      obtain ⟨e1, e2, e3⟩ := split_two hs
      have la : a.length ≤ z.length := by
        rw [← cod_len, ← cod_len z, e1]; simp
      have lb : b.length ≤ z.length := by
        rw [← cod_len, ← cod_len z, e1]; simp
        omega
      have hl : H1 l = some (.lst [.str a, .str b]) := n1.at_
      refine iteE (by simp) ?_
      walk_at "go"
      refine ixL (SqL.of hl) rfl ?_
      walk_at "go"
      refine ixL (SqL.of hl) rfl ?_
      refine ⟨_, _, rfl, rfl, by rw [sizeLine_eq]; omega, ?_⟩
      have hf : formB z = ((cod a ++ cod b).all isDig && (decide (1 ≤ (cod a).length) && decide ((cod a).length ≤ 38)) && decide ((cod b).length = 2)) := by
        unfold formB
        rw [hs]
      refine ⟨a ++ b, rfl, by rw [← cod_len, cod_app, List.length_append, cod_len, cod_len]; omega, fun H2 s2 => ?_⟩
      rw [cod_app]
      refine ⟨_, rfl, ?_⟩
      refine ite2 (fun e => ?_) (fun e => ?_)
      · walk_at "go"
        have ef : (cod a ++ cod b).all isDig = false := (Bool.not_eq_true' _).mp e
        have : formB z = false := by rw [hf, ef]; simp
        rw [← this]
        exact q _ (n1.same.trans s2)
      have ef : (cod a ++ cod b).all isDig = true := by
        cases hX : (cod a ++ cod b).all isDig with
        | true => rfl
        | false => exact absurd (by rw [hX]; rfl) e
      have hl2 := s2 _ _ hl
      walk_at "go"
      refine ixL (SqL.of hl2) rfl ?_
      refine ⟨_, rfl, by rw [sizeLine_eq]; omega, ?_⟩
      walk_at "go"
      refine ite2 (fun e1' => ?_) (fun e1' => ?_)
      · walk_at "go"
        have g1 : 1 ≤ (cod a).length := by
          have := of_decide_eq_true e1'
          rw [cod_len]; omega
        refine ite2 (fun e2' => ?_) (fun e2' => ?_)
        · have g2 : (cod a).length ≤ 38 := by
            have := of_decide_eq_true e2'
            rw [cod_len]; omega
          walk_at "go"
          refine ixL (SqL.of hl2) rfl ?_
          refine ⟨_, rfl, by rw [sizeLine_eq]; omega, ?_⟩
          walk_at "go"
          have : decide (V.int (b.length : Int) = V.int 2) = formB z := by
            rw [hf, ef, decide_eq_true g1, decide_eq_true g2, cod_len]
            simp only [Bool.true_and, Bool.and_true]
            congr 1
            simp only [V.int.injEq, eq_iff_iff]
            omega
          rw [this]
          exact q _ (n1.same.trans s2)
        · have g2 : ¬ (cod a).length ≤ 38 := fun x => e2' (decide_eq_true (by rw [cod_len] at x; omega))
          have : formB z = false := by rw [hf, decide_eq_false g2]; simp
          rw [← this]
          exact q _ (n1.same.trans s2)
      · have g1 : ¬ 1 ≤ (cod a).length := fun x => e1' (decide_eq_true (by rw [cod_len] at x; omega))
        walk_at "go"
        refine iteF ?_
        have : formB z = false := by rw [hf, decide_eq_false g1]; simp
        rw [← this]
        exact q _ (n1.same.trans s2)
    | [], n1 =>
      refine iteTr (by simp) ?_
      walk_at "go"
      have : formB z = false := by unfold formB; rw [hs]
      rw [← this]
      exact q _ n1.same
    | [a], n1 =>
      refine iteTr (by simp) ?_
      walk_at "go"
      have : formB z = false := by unfold formB; rw [hs]
      rw [← this]
      exact q _ n1.same
    | a :: b :: c :: r, n1 =>
      refine iteTr (by simp; omega) ?_
      walk_at "go"
      have : formB z = false := by unfold formB; rw [hs]
      rw [← this]
      exact q _ n1.same
theorem D_read (T : Txt mg) (S : Src K mg "read_amount" "read_amount" s_read_amount) (Dhas_form : Def P w K mg base 2 "has_form" ["unsigned"] sp_form) (Dshow_amount : Def P w K mg base 1 "show_amount" ["number"] sp_shown) : Def P w K mg base 3 "read_amount" ["text"] (sp_read (10 ^ 40)) := by
  refine S.mk' sc_read_amount (fun vs H Q E h => ?_) (fun _ _ _ _ _ _ us hl => match us, hl with | [_], _ => rfl) (fun f cdv A outer s H vs Q E hr h => ?_)
  · obtain ⟨z, n, rfl, _⟩ := h
    rfl
  · obtain ⟨z, n, rfl, hz, hn, q⟩ := h
    refine ⟨_, (pss_pos (ps_setPos (i := 1) sc_read_amount.nd rfl (Or.inl rfl) (pe_startsPos (K := K) rfl (pv 0)))
      (pss_consP (PS.p (ps_set (i := 2) sc_read_amount.nd rfl (Or.inl rfl) (pe_join (pe_ifExp (pt_val (pv 1)) (pe_slice sl_str (pv 0) (po_some pe_int) po_none) (pv 0)))))
      (pss_consP (PS.p (ps_if (pt_not (pt_val (pe_def Dhas_form (hr.mono (by decide)) rfl (pa_cons (pv 2) pa_nil)))) (pss_one (ps_never)) pss_nil))
      (pss_consP (ps_setP (i := 3) sc_read_amount.nd rfl (Or.inl rfl) (pe_intP rfl T.int (pe_strikeP (c := 46) (by decide +kernel) (by decide +kernel) (pv 2))))
      (PSs.p (pss_cons (ps_set (i := 4) sc_read_amount.nd rfl (Or.inl rfl) (pe_join (pe_ifExp (pt_val (pv 1)) (pe_un un_neg (pv 3)) (pv 3)))) (pss_cons (ps_if (pt_cmpR op_ne (pe_def Dshow_amount (hr.mono (by decide)) rfl (pa_cons (pv 4) pa_nil)) (pv 0) (nomark _)) (pss_one (ps_never)) pss_nil) (pss_one (ps_ret (pv 4)))))))))), ?_⟩
    have hb : -(10 ^ 100) < n ∧ n < 10 ^ 100 := by omega
    have lz : z.length ≤ 110 := by rw [← cod_len, hz]; exact wcod_len hb.1 hb.2
    have hst : Txt.startswith z (Str.ofString "-") = decide (n < 0) := by
      have e : Str.ofString "-" = ⟨#[45]⟩ := by decide +kernel
      rw [e, starts_one, hz, wcod_eq]
      by_cases h0 : n < 0
      · rw [if_pos h0]
        simp [h0]
      · rw [if_neg h0, decide_eq_false h0]
        refine decide_eq_false fun he => ?_
        have hl := dec_len (n.natAbs / 100)
        unfold ucod at he
        rw [List.nil_append] at he
        match hd : dec (n.natAbs / 100), hl with
        | c :: r, _ =>
          rw [hd] at he
          have hc : c = 45 := by simpa using he
          have := dec_codes (n.natAbs / 100) c (by rw [hd]; exact List.mem_cons_self)
          omega
    refine ⟨_, rfl, rfl, z, _, rfl, rfl, ?_⟩
    rw [hst]
    refine ⟨fun v H' => H' = H ∧ ∃ u, v = .str u ∧ cod u = ucod n.natAbs, ?_, ?_⟩
    · refine ⟨_, rfl, _, rfl, ?_⟩
      refine ite2 (fun e => ?_) (fun e => ?_)
      · have e' : n < 0 := of_decide_eq_true e
        refine ⟨_, rfl, _, rfl, z, rfl, by rw [sizeLine_eq]; omega, fun y hy => ⟨rfl, y, rfl, ?_⟩⟩
        have e1 : cutC (cod z) (some (1 : Int)) none = (cod z).drop 1 := cutC_from (cod z) 1
        rw [hy, e1, hz, wcod_eq, if_pos e']
        rfl
      · have e' : ¬ n < 0 := fun x => e (decide_eq_true x)
        refine ⟨_, rfl, rfl, z, rfl, ?_⟩
        rw [hz, wcod_eq, if_neg e']
        rfl
    rintro v H' ⟨rfl, u, rfl, hu⟩
    have lu : u.length ≤ 110 := by
      have : (ucod n.natAbs).length ≤ (wcod n).length := by rw [wcod_eq]; simp
      have h2 := wcod_len hb.1 hb.2
      rw [← cod_len, hu]
      omega
    refine ⟨_, rfl, u, rfl, by omega, fun H1 s1 => ?_⟩
    rw [formB_ucod hu hn]
    refine ⟨_, rfl, iteF ?_⟩
    refine ⟨_, rfl, u, rfl, by omega, fun y hy => ?_⟩
    rw [hu, strike_ucod] at hy
    have hdig : NumText.AllDigits (cod y) := fun c hc => by
      rw [hy] at hc
      rcases List.mem_append.mp hc with h | h
      · exact dec_codes _ _ h
      · exact two_codes _ (Nat.mod_lt _ (by decide)) _ h
    have hne : cod y ≠ [] := fun e => by
      have hl := dec_len (n.natAbs / 100)
      rw [e] at hy
      have := congrArg List.length hy
      simp at this
      omega
    have ly : y.length ≤ 640 := by
      have := strike_ucod n.natAbs
      have h3 : ((ucod n.natAbs).filter (· != 46)).length ≤ (ucod n.natAbs).length := List.length_filter_le _ _
      rw [this, ← hy, ← hu, cod_len, cod_len] at h3
      omega
    refine ⟨y, rfl, hdig, hne, ly, ?_⟩
    have hv : NumText.digitsVal (cod y) = n.natAbs := by rw [hy]; exact dv_amt _
    rw [hv]
    refine ⟨fun v H'' => H'' = H1 ∧ v = .int n, ?_, ?_⟩
    · refine ⟨_, rfl, _, rfl, ?_⟩
      refine ite2 (fun e => ?_) (fun e => ?_)
      · have e' : n < 0 := of_decide_eq_true e
        refine ⟨_, rfl, _, rfl, rfl, ?_⟩
        show V.int (-((n.natAbs : Nat) : Int)) = V.int n
        congr 1
        omega
      · have e' : ¬ n < 0 := fun x => e (decide_eq_true x)
        refine ⟨_, rfl, rfl, ?_⟩
        show V.int ((n.natAbs : Nat) : Int) = V.int n
        congr 1
        omega
    rintro v H2 ⟨rfl, rfl⟩
    refine ⟨_, rfl, n, rfl, hb.1, hb.2, fun t ht => ?_⟩
    have e : t = z := cod_ext (ht.trans hz.symm)
    subst e
    walk_at "go"
    refine iteE (by simp) ?_
    walk_at "go"
    exact q _ s1
theorem D_namein (T : Txt mg) (S : Src K mg "name_in" "name_in" s_name_in) : Def P w K mg base 4 "name_in" ["word"] sp_namein := by
  refine S.mk' sc_name_in (fun vs H Q E h => ?_) (fun _ _ _ _ _ _ us hl => match us, hl with | [_], _ => rfl) (fun f cdv A outer s H vs Q E hr h => ?_)
  · obtain ⟨z, rfl, _⟩ := h
    rfl
  · obtain ⟨z, rfl, ⟨n1, n2, n3⟩, q⟩ := h
    refine ⟨_, (pss_cons (ps_if (PW.pt (pw_and (pt_chain op_le op_le pe_int (pe_callB call_len_str (by rfl) T.len boot_len' (pa_cons (pv 0) pa_nil)) (pe_gint rfl T.LONGEST_NAME)) (pw_and1 (pt_val (pe_callB (call_allK (K := K) rfl rfl) (by rfl) T.all boot_all' (pa_cons (pe_comp ["sign"] [none] rfl rfl rfl (pi_str (pv 0)) (fun _ _ _ _ => (pg_name (i := 0) (by decide +kernel : (["sign"] : List PySem.Str).Nodup) rfl (Or.inl rfl))) (fun _ _ _ _ => pifs_nil) (fun _ _ _ _ => (pe_cmpR op_in_str (pv 0) (pe_gstr rfl T.LETTERS) (by with_unfolding_all rfl)))) pa_nil)))))) (pss_one (ps_ret (pv 0))) pss_nil)
      (pss_one (ps_ret pe_non))), ?_⟩
    have lz := cod_len z
    walk_at "go"
    refine ⟨by rw [sizeLine_eq]; omega, ?_⟩
    walk_at "go"
    refine ite2 (fun _ => ?_) (fun e => absurd (decide_eq_true (by omega)) e)
    walk_at "go"
    refine ite2 (fun _ => ?_) (fun e => absurd (decide_eq_true (by omega)) e)
    walk_at "go"
    refine fun D hD => ?_
    refine compStrV (fun c => .bl (decide (97 ≤ c ∧ c ≤ 122))) (by rw [sizeLine_eq]; omega) hD (fun c hc H1 N s1 hN => ?_) fun H1 s1 d1 => ?_
    · refine ⟨_, rfl, _, _, rfl, rfl, ?_⟩
      rw [StrLaws.found_one]
      have e : decide (c ∈ (Str.ofString "abcdefghijklmnopqrstuvwxyz").cps.toList) = decide (97 ≤ c ∧ c ≤ 122) := letters_mem c
      rw [e]
      exact hN _ (Same.refl _)
    · refine ⟨D, (cod z).map fun c => decide (97 ≤ c ∧ c ≤ 122), rfl, SqL.of (by rw [d1, List.map_map]; rfl), ?_⟩
      have e : ((cod z).map fun c => decide (97 ≤ c ∧ c ≤ 122)).all id = true := by
        rw [List.all_map, List.all_eq_true]
        intro c hc
        exact decide_eq_true (n3 c hc)
      rw [e]
      walk_at "go"
      exact q _ s1
theorem D_bedsin {bA : Addr} (T : Txt mg) (hBE : mg "BEDS" = some (.ref bA)) (hBK : TupK K bA bedsL) (S : Src K mg "beds_in" "beds_in" s_beds_in) : Def P w K mg base 4 "beds_in" ["word"] sp_bedsin := by
  refine S.mk' sc_beds_in (fun vs H Q E h => ?_) (fun _ _ _ _ _ _ us hl => match us, hl with | [_], _ => rfl) (fun f cdv A outer s H vs Q E hr h => ?_)
  · obtain ⟨z, b, rfl, _⟩ := h
    rfl
  · obtain ⟨z, b, rfl, b1, b4, e, q⟩ := h
    refine ⟨_, (pss_one (ps_ret (pe_join (pe_ifExp (pt_cmpR (op_in_seqK (K := K) rfl) (pv 0) (pe_glob (v := .ref _) rfl hBE rfl) (by with_unfolding_all rfl)) (pe_intT rfl T.int (pv 0)) pe_non)))), ?_⟩
    have hin : inV (.str z) bedsL = true := by
      have hb : b = 1 ∨ b = 2 ∨ b = 3 ∨ b = 4 := by omega
      rcases hb with rfl | rfl | rfl | rfl
      · rw [cod_ext (a := z) (b := Str.ofString "1") (by rw [e]; decide +kernel)]; decide +kernel
      · rw [cod_ext (a := z) (b := Str.ofString "2") (by rw [e]; decide +kernel)]; decide +kernel
      · rw [cod_ext (a := z) (b := Str.ofString "3") (by rw [e]; decide +kernel)]; decide +kernel
      · rw [cod_ext (a := z) (b := Str.ofString "4") (by rw [e]; decide +kernel)]; decide +kernel
    refine ⟨fun v H' => H = H' ∧ v = .int (b : Int), ?_, ?_⟩
    · walk_at "go"
      refine ⟨bA, bedsL, rfl, .inr hBK.sq, rfl, by decide +kernel, ?_⟩
      rw [if_neg Bool.false_ne_true, hin]
      walk_at "go"
      have hd : NumText.digitsVal (cod z) = b := by
        rw [e]
        have hb : b = 1 ∨ b = 2 ∨ b = 3 ∨ b = 4 := by omega
        rcases hb with rfl | rfl | rfl | rfl <;> decide +kernel
      refine ⟨?_, by rw [e]; simp, by rw [← cod_len, e]; simp, ?_⟩
      · rw [e]
        have hb : b = 1 ∨ b = 2 ∨ b = 3 ∨ b = 4 := by omega
        rcases hb with rfl | rfl | rfl | rfl <;> (intro c hc; have := List.mem_singleton.mp hc; subst this; decide +kernel)
      · rw [hd]
        exact ⟨rfl, rfl⟩
    rintro v H' ⟨rfl, rfl⟩
    exact q
theorem D_amountin (T : Txt mg) (S : Src K mg "amount_in" "amount_in" s_amount_in) (Dread_amount : Def P w K mg base 3 "read_amount" ["text"] (sp_read (10 ^ 40))) : Def P w K mg base 4 "amount_in" ["word"] sp_amountin := by
  refine S.mk' sc_amount_in (fun vs H Q E h => ?_) (fun _ _ _ _ _ _ us hl => match us, hl with | [_], _ => rfl) (fun f cdv A outer s H vs Q E hr h => ?_)
  · obtain ⟨z, n, rfl, _⟩ := h
    rfl
  · obtain ⟨z, n, rfl, hz, hn, q⟩ := h
    refine ⟨_, (pss_one (ps_tryN (fun _ _ z => z) (ps_ret (pe_def Dread_amount (hr.mono (by decide)) rfl (pa_cons (pv 0) pa_nil))))), ?_⟩
    walk_at "go"
    exact ⟨z, n, rfl, hz, hn, q⟩
theorem D_readword {ra : Addr} (T : Txt mg) (TB : Readers K w mg ra) (S : Src K mg "read_word" "read_word" s_read_word) (Dn : Def P w K mg base 4 "name_in" ["word"] sp_namein) (Db : Def P w K mg base 4 "beds_in" ["word"] sp_bedsin) (Da : Def P w K mg base 4 "amount_in" ["word"] sp_amountin) : Def P w K mg base 5 "read_word" ["kind", "word"] sp_readword := by
  refine S.mk' sc_read_word (fun vs H Q E h => ?_) (fun _ _ _ _ _ _ us hl => match us, hl with | [_, _], _ => rfl) (fun f cdv A outer s H vs Q E hr h => ?_)
  · obtain ⟨k, wd, v, rfl, _⟩ := h
    rfl
  · obtain ⟨k, wd, v, rfl, hk, q⟩ := h
    refine ⟨_, (pss_cons (ps_set (i := 2) sc_read_word.nd rfl (Or.inl rfl) (pe_ix (ix_tabK (K := K) (w := w) rfl rfl) (pe_glob (v := .ref _) rfl TB.g rfl) (pv 0) (fun _ _ => rfl)))
      (pss_one (ps_ret (pe_defV (k := 4) (hr.mono (by decide)) (pv 2) (pa_cons (pv 1) pa_nil))))), ?_⟩
    obtain ⟨fn, gn, tn⟩ := TB.n
    obtain ⟨fb, gb, tb⟩ := TB.b
    obtain ⟨fa, ga, ta⟩ := TB.a
    walk_at "go"
    rcases hk with ⟨rfl, rfl, hn⟩ | ⟨rfl, b, b1, b4, rfl, e⟩ | ⟨rfl, n, rfl, e, hn⟩
    · refine ⟨ra, kN, _, rfl, rfl, tn, ?_⟩
      walk_at "go"
      refine ⟨fn, _, rfl, Dn.v gn, ?_⟩
      walk_at "go"
      exact q
    · refine ⟨ra, kB, _, rfl, rfl, tb, ?_⟩
      walk_at "go"
      refine ⟨fb, _, rfl, Db.v gb, ?_⟩
      walk_at "go"
      exact ⟨wd, b, rfl, b1, b4, e, q _ (Same.refl _)⟩
    · refine ⟨ra, kA, _, rfl, rfl, ta, ?_⟩
      walk_at "go"
      refine ⟨fa, _, rfl, Da.v ga, ?_⟩
      walk_at "go"
      exact ⟨wd, n, rfl, e, hn, q⟩
theorem D_readrow {fa : Addr} (T : Txt mg) (FB : Forms K w mg fa) (S : Src K mg "read_row" "read_row" s_read_row) (Dread_word : Def P w K mg base 5 "read_word" ["kind", "word"] sp_readword) : Def P w K mg base 6 "read_row" ["row"] sp_readrow := by
  refine S.mk' sc_read_row (fun vs H Q E h => ?_) (fun _ _ _ _ _ _ us hl => match us, hl with | [_], _ => rfl) (fun f cdv A outer s H vs Q E hr h => ?_)
  · obtain ⟨r, ps, rfl, _⟩ := h
    rfl
  · obtain ⟨r, ps, rfl, ⟨ws, rfl, ho⟩, q⟩ := h
    refine ⟨_, (pss_cons (ps_set (i := 1) sc_read_row.nd rfl (Or.inr rfl) (pe_bmK (K := K) rfl PySem.F.plainAttrs_str PySem.F.slot_str_split PySem.F.type_str_split mt_split (pv 0) (pa_cons pe_str pa_nil)))
      (pss_cons (ps_set (i := 2) sc_read_row.nd rfl (Or.inr rfl) (pe_tget (K := K) (w := w) rfl rfl (pe_glob (v := .ref _) rfl FB.g rfl) (pe_ix (ix_seqK (K := K) rfl) (pv 1) pe_int (fun _ _ => rfl))))
      (pss_cons (ps_if (PW.pt (pw_or (pt_cmpR op_isN (pv 2) pe_non (nomark _)) (pw_or1 (pt_cmpR op_ne (pe_callB (call_lenK (K := K) rfl) (by rfl) T.len boot_len' (pa_cons (pv 1) pa_nil)) (pe_op op_add pe_int (pe_callB (call_lenK (K := K) rfl) (by rfl) T.len boot_len' (pa_cons (pv 2) pa_nil))) (nomark _))))) (pss_one (ps_ret pe_non)) pss_nil)
      (pss_cons (ps_setC (i := 3) sc_read_row.nd rfl (Or.inl rfl) ["place", "kinds", "words"] [none, some 2, some 1] rfl rfl rfl (pi_range1 rfl T.range (pa_cons (pe_callB (call_lenK (K := K) rfl) (by rfl) T.len boot_len' (pa_cons (pv 2) pa_nil)) pa_nil)) (fun _ _ _ _ => (pg_name (i := 0) (by decide +kernel : (["place", "kinds", "words"] : List PySem.Str).Nodup) rfl (Or.inl rfl))) (fun _ _ _ _ => pifs_nil) (fun _ _ _ _ => (pe_def Dread_word (hr.mono (by decide)) rfl (pa_cons (pe_ix (ix_seqK (K := K) rfl) (pv 1) (pv 0) (fun _ _ => rfl)) (pa_cons (pe_ix (ix_seqK (K := K) rfl) (pv 2) (pe_op op_add pe_int (pv 0)) (fun _ _ => rfl)) pa_nil)))))
      (pss_cons (ps_if (PW.pt (pw_or (pt_cmpR (op_in_seqK (K := K) rfl) pe_non (pv 3) (by with_unfolding_all rfl)) (pw_or1 (PW.pt (pw_and (pt_cmpR op_eq (pe_ix (ix_seqK (K := K) rfl) (pv 1) pe_int (fun _ _ => rfl)) pe_str (nomark _)) (pw_and1 (pt_cmpR op_eq (pe_ix (ix_seqK (K := K) rfl) (pv 3) pe_int (fun _ _ => rfl)) (pe_ix (ix_seqK (K := K) rfl) (pv 3) pe_int (fun _ _ => rfl)) (nomark _)))))))) (pss_one (ps_ret pe_non)) pss_nil)
      (pss_one (ps_ret (pe_callTy call_tuple_of (by rfl) T.tuple boot_tuple' (pa_cons (pe_op op_cat' (pe_slice (sl_listK (K := K) rfl) (pv 1) po_none (po_some pe_int)) (pv 3)) pa_nil))))))))), ?_⟩
    have hsp := row_split ho
    have hrl := row_len ho
    obtain ⟨kd, ks, vs, wds, hm, rfl, rfl, hw, hnr⟩ := ho.ex
    obtain ⟨tk, htk, hK⟩ := FB.at_ _ hm
    have htk' : TabGet K w fa kd (some (.ref tk)) := htk
    have hK' : TupK K tk (ks.map V.str) := hK
    clear htk hK
    obtain ⟨lv, lwd⟩ := hw.len
    have l3 := (kd_codes hm).2.2.2
    obtain ⟨n1, n2⟩ := hw.non
    generalize Txt.join (Str.ofString " ") (kd :: wds) = r at *
    refine ⟨_, rfl, rfl, r, _, rfl, rfl, by decide +kernel, by omega, fun l H1 n1' => ?_⟩
    have hl1 : H1 l = some (.lst ((kd :: wds).map V.str)) := by rw [n1'.at_, hsp]
    walk_at "go"
    refine ⟨⟨kd, _, htk'⟩, ?_⟩
    walk_at "go"
    refine ixL (SqL.of hl1) (atI_int 0 rfl rfl) ?_
    refine ⟨kd, _, rfl, htk', ?_⟩
    walk_at "go"
    refine ⟨l, _, rfl, .inl (SqL.of hl1), ?_⟩
    walk_at "go"
    refine ⟨tk, _, rfl, .inr hK'.sq, ?_⟩
    walk_at "go"
    refine iteE (by simp; omega) ?_
    walk_at "go"
    refine ⟨tk, _, rfl, .inr hK'.sq, ?_⟩
    rw [List.length_map]
    refine ⟨_, rfl, by omega, by omega, fun D hD => ?_⟩
    rw [Int.toNat_natCast]
    refine compRangeV (fun i => vs.getD i .non) (by rw [sizeLine_eq]; omega) hD (fun i hi H2 N s2 hN => ?_) fun H2 s2 d2 => ?_
    · rw [show (0 : Int) + (i : Int) = (i : Int) by omega]
      obtain ⟨k, v, wd, e1, e2, e3, hk⟩ := hw.at_ hi
      walk_at "go"
      refine ixT hK'.sq (atI_int i rfl (show (ks.map V.str)[i]? = some (.str k) by simp [e1])) ?_
      walk_at "go"
      refine ixL (SqL.of (s2 _ _ hl1)) (atI_int (1 + i) (by omega) (show ((kd :: wds).map V.str)[1 + i]? = some (.str wd) by rw [Nat.add_comm]; simp [e3])) ?_
      refine ⟨k, wd, v, rfl, hk, fun H3 s3 => ?_⟩
      have e : vs.getD i .non = v := by simp [List.getD, e2]
      rw [e] at hN
      exact hN _ s3
    have ev : (List.range ks.length).map (fun i => vs.getD i .non) = vs := by
      rw [← lv]
      refine List.ext_getElem (by simp) fun i a b => ?_
      simp [List.getD, show i < vs.length from b]
    rw [ev] at d2
    have hl2 := s2 _ _ hl1
    walk_at "go"
    refine ⟨D, vs, rfl, .inl (SqL.of d2), rfl, n2, ?_⟩
    rw [if_neg Bool.false_ne_true, n1]
    walk_at "go"
    refine ixL (SqL.of hl2) (atI_int 0 rfl rfl) ?_
    walk_at "go"
    refine ite2 (fun e => ?_) (fun e => ?_)
    · have ekd : kd = Str.ofString "near" := by
        have := of_decide_eq_true e
        injection this
      subst ekd
      have eks : ks = [kN, kN] := near_form hm
      subst eks
      match vs, lv, hw, hnr, d2 with
      | [v0, v1], _, hw, hnr, d2 =>
        have hne : v0 ≠ v1 := fun z => hnr rfl (by rw [z]; rfl)
        have sc : ∃ x0 x1, v0 = .str x0 ∧ v1 = .str x1 := by
          obtain ⟨k, v, wd, e1, e2, _, h0⟩ := hw.at_ (i := 0) (by simp)
          obtain ⟨k', v', wd', e1', e2', _, h1⟩ := hw.at_ (i := 1) (by simp)
          cases e1
          cases e2
          cases e1'
          cases e2'
          exact ⟨_, _, h0.nm, h1.nm⟩
        obtain ⟨x0, x1, rfl, rfl⟩ := sc
        walk_at "go"
        refine ixL (SqL.of d2) rfl ?_
        walk_at "go"
        refine ixL (SqL.of d2) rfl ?_
        walk_at "go"
        refine iteE (decide_eq_false hne) ?_
        walk_at "go"
        refine ⟨l, _, rfl, SqL.of hl2, fun c1 H3 n3 => ?_⟩
        have e3 : H3 c1 = some (.lst [.str (Str.ofString "near")]) := by rw [n3.at_]; rfl
        walk_at "go"
        refine ⟨c1, D, _, _, rfl, rfl, e3, n3.same _ _ d2, by rw [sizeLine_eq]; simp <;> omega, fun c2 H4 n4 => ?_⟩
        walk_at "go"
        refine ⟨c2, _, rfl, .inl ⟨SqL.of n4.at_, fun t ht => ?_⟩⟩
        refine q t _ (fun c o e => ?_) upd_same
        rw [upd_ne (ne_of_none (n4.same _ _ (n3.same _ _ (s2 _ _ (n1'.same _ _ e)))) ht)]
        exact n4.same _ _ (n3.same _ _ (s2 _ _ (n1'.same _ _ e)))
    · walk_at "go"
      refine ⟨l, _, rfl, SqL.of hl2, fun c1 H3 n3 => ?_⟩
      have e3 : H3 c1 = some (.lst [.str kd]) := by rw [n3.at_]; rfl
      walk_at "go"
      refine ⟨c1, D, _, _, rfl, rfl, e3, n3.same _ _ d2, by rw [sizeLine_eq]; simp <;> omega, fun c2 H4 n4 => ?_⟩
      walk_at "go"
      refine ⟨c2, _, rfl, .inl ⟨SqL.of n4.at_, fun t ht => ?_⟩⟩
      refine q t _ (fun c o e => ?_) upd_same
      rw [upd_ne (ne_of_none (n4.same _ _ (n3.same _ _ (s2 _ _ (n1'.same _ _ e)))) ht)]
      exact n4.same _ _ (n3.same _ _ (s2 _ _ (n1'.same _ _ e)))
theorem D_readsheet (T : Txt mg) (S : Src K mg "read_sheet" "read_sheet" s_read_sheet) (Dread_row : Def P w K mg base 6 "read_row" ["row"] sp_readrow) : Def P w K mg base 7 "read_sheet" ["text"] sp_readsheet := by
  refine S.mk' sc_read_sheet (fun vs H Q E h => ?_) (fun _ _ _ _ _ _ us hl => match us, hl with | [_], _ => rfl) (fun f cdv A outer s H vs Q E hr h => ?_)
  · obtain ⟨z, rows, pss, rfl, _⟩ := h
    rfl
  · obtain ⟨z, rows, pss, rfl, hsp, hzl, hrl, hrd, q⟩ := h
    refine ⟨_, (pss_cons (ps_set (i := 1) sc_read_sheet.nd rfl (Or.inl rfl) (pe_lst' pa_nil))
      (pss_cons (ps_set (i := 2) sc_read_sheet.nd rfl (Or.inl rfl) (pe_bmK (K := K) rfl PySem.F.plainAttrs_str PySem.F.slot_str_split PySem.F.type_str_split mt_split (pv 0) (pa_cons pe_str pa_nil)))
      (pss_cons (ps_for PassesOwn.never rfl (pi_range1 rfl T.range (pa_cons (pe_callB (call_lenK (K := K) rfl) (by rfl) T.len boot_len' (pa_cons (pv 2) pa_nil)) pa_nil)) (pg_name (i := 3) sc_read_sheet.nd rfl (Or.inl rfl))
      (pss_one (ps_if (pt_cmpR op_ne (pe_ix (ix_seqK (K := K) rfl) (pv 2) (pv 3) (fun _ _ => rfl)) pe_str (nomark _)) (pss_cons (ps_set (i := 4) sc_read_sheet.nd rfl (Or.inl rfl) (pe_def Dread_row (hr.mono (by decide)) rfl (pa_cons (pe_ix (ix_seqK (K := K) rfl) (pv 2) (pv 3) (fun _ _ => rfl)) pa_nil)))
      (pss_cons (ps_if (pt_cmpR op_isN (pv 4) pe_non (nomark _)) (pss_one (ps_never)) pss_nil)
      (pss_one (ps_expr (pe_bmK (K := K) rfl PySem.F.plainAttrs_list PySem.F.slot_list_append PySem.F.type_list_append mt_append (pv 1) (pa_cons (pv 4) pa_nil)))))) pss_nil)))
      (pss_one (ps_ret (pv 1)))))), ?_⟩
    walk_at "go"
    refine fun lO H1 n1 => ?_
    walk_at "go"
    refine fun lR H2 n2 => ?_
    have hR2 : H2 lR = some (.lst (rows.map V.str)) := by rw [n2.at_, hsp]
    have hO2 := n2.same _ _ n1.at_
    have nRO : lR ≠ lO := fun z => by
      have := n2.none
      rw [z, n1.at_] at this
      cases this
    walk_at "go"
    refine ⟨lR, _, rfl, .inl (SqL.of hR2), ?_⟩
    rw [List.length_map]
    refine ⟨_, rfl, by omega, by omega, ?_⟩
    rw [Int.toNat_natCast]
    refine for_range (fun i σ H' => ∃ (o3 o4 : Option V) (ts : List Addr), σ = [some (.str z), some (.ref lO), some (.ref lR), o3, o4] ∧ Same H H' ∧ H' lR = some (.lst (rows.map V.str)) ∧ H' lO = some (.lst (ts.map V.ref)) ∧ ts.length ≤ i ∧ ts.length ≤ pss.length ∧ Reads (rows.drop i) (pss.drop ts.length) ∧ ∀ (j : Nat) t, ts[j]? = some t → ∃ ps, pss[j]? = some ps ∧ H' t = some (.tup ps)) ⟨_, _, [], rfl, n1.same.trans n2.same, hR2, hO2, by simp, by simp, by simpa using hrd, fun j t e => by simp at e⟩ ?_ ?_
    · rintro i σ H3 hi ⟨o3, o4, ts, rfl, s3, hR3, hO3, ti, tl, hrd3, ht3⟩
      rw [show (0 : Int) + (i : Int) = (i : Int) by omega]
      have gr : (rows.map V.str)[i]? = some (.str rows[i]) := by simp [hi]
      have hdr : rows.drop i = rows[i] :: rows.drop (i + 1) := List.drop_eq_getElem_cons hi
      walk_at "go"
      refine ixL (SqL.of hR3) (atI_int i rfl gr) ?_
      walk_at "go"
      rcases hrd3.at_ hdr with ⟨e0, hr⟩ | ⟨e0, ps, pss', epss, hro, hr⟩
      · refine iteE (by rw [e0]; simp) ?_
        exact ⟨_, _, ts, rfl, s3, hR3, hO3, by omega, tl, hr, ht3⟩
      · refine ite2 (fun _ => ?_) (fun e => absurd (show (!decide (V.str rows[i] = V.str (Str.ofString ""))) = true by simp [e0]) e)
        walk_at "go"
        refine ixL (SqL.of hR3) (atI_int i rfl gr) ?_
        refine ⟨rows[i], ps, rfl, hro, fun t H4 s4 ht => ?_⟩
        walk_at "go"
        have hO4 := s4 _ _ hO3
        refine ⟨.inl ⟨rfl, _, SqL.of hO4⟩, ?_⟩
        walk_at "go"
        refine ⟨lO, _, _, rfl, rfl, hO4, by rw [sizeLine_eq]; simp; omega, ?_⟩
        have tl2 : ts.length < pss.length := by
          have := congrArg List.length epss
          rw [List.length_drop, List.length_cons] at this
          omega
        have ep : pss[ts.length]? = some ps := by
          have : (pss.drop ts.length)[0]? = some ps := by rw [epss]; rfl
          simpa using this
        refine ⟨_, _, ts ++ [t], rfl, fun c o e => ?_, ?_, by rw [upd_same, List.map_append]; rfl, by simp; omega, by simp; omega, ?_, fun j t' e => ?_⟩
        · rw [upd_ne (ne_of_none e n1.none)]
          exact s4 _ _ (s3 _ _ e)
        · rw [upd_ne nRO]
          exact s4 _ _ hR3
        · have e2 : pss.drop (ts ++ [t]).length = pss' := by
            rw [List.length_append, List.length_singleton, ← List.drop_drop, epss]
            rfl
          rw [e2]
          exact hr
        · by_cases hj : j < ts.length
          · rw [List.getElem?_append_left hj] at e
            obtain ⟨ps', e1, e2⟩ := ht3 j t' e
            refine ⟨ps', e1, ?_⟩
            have h4 := s4 _ _ e2
            rw [upd_ne (ne_of h4 hO4 (by intro z; cases z))]
            exact h4
          · have ej : j = ts.length := by
              have := (List.getElem?_eq_some_iff.mp e).1
              simp at this
              omega
            subst ej
            have et : t' = t := by simpa using e.symm
            subst et
            refine ⟨ps, ep, ?_⟩
            rw [upd_ne (ne_of ht hO4 (by intro z; cases z))]
            exact ht
    · rintro σ H3 ⟨o3, o4, ts, rfl, s3, hR3, hO3, ti, tl, hrd3, ht3⟩
      walk_at "go"
      refine q lO ts H3 s3 hO3 ?_ ht3
      rw [List.drop_length] at hrd3
      have := reads_nil hrd3
      have h2 := congrArg List.length this
      rw [List.length_drop] at h2
      simp at h2
      omega
theorem D_lname (T : Txt mg) (S : Src K mg "_law_name" "_law_name" s__law_name) : Def P w K mg base 1 "_law_name" ["_law_seed", "_law_k"] sp_lname := by
  refine S.mk' sc__law_name (fun vs H Q E h => ?_) (fun _ _ _ _ _ _ us hl => match us, hl with | [_, _], _ => rfl) (fun f cdv A outer s H vs Q E hr h => ?_)
  · obtain ⟨s, k, rfl, _⟩ := h
    rfl
  · obtain ⟨s, k, rfl, s0, k0, q⟩ := h
    refine ⟨_, (pss_cons (ps_set (i := 2) sc__law_name.nd rfl (Or.inl rfl) (pe_slice sl_str pe_str po_none (po_some (pe_op op_mod (pv 0) pe_int))))
      (pss_cons (ps_set (i := 3) sc__law_name.nd rfl (Or.inl rfl) (pe_op op_mod (pe_op op_fdivW (pv 0) pe_int) (pe_op op_add (pe_callB call_len_str (by rfl) T.len boot_len' (pa_cons (pv 2) pa_nil)) pe_int)))
      (pss_one (ps_ret (pe_op op_add_str (pe_op op_add_str (pe_slice sl_str (pv 2) po_none (po_some (pv 3))) (pe_ix (ix_seqK (K := K) rfl) pe_str (pe_op op_mod (pv 1) pe_int) (fun _ _ => rfl))) (pe_slice sl_str (pv 2) (po_some (pv 3)) po_none)))))), ?_⟩
    have em : cod (Str.ofString "mmmmmmm") = List.replicate 7 109 := by decide +kernel
    obtain ⟨n, hn⟩ : ∃ n : Nat, s % 8 = (n : Int) := ⟨(s % 8).toNat, by omega⟩
    have n7 : n ≤ 7 := by omega
    walk_at "go"
    refine fun y hy => ?_
    rw [hn, cutC_to, em] at hy
    have hy' : cod y = List.replicate n 109 := by rw [hy, List.take_replicate, Nat.min_eq_left n7]
    have ly : y.length = n := by rw [← cod_len, hy']; simp
    walk_at "go"
    refine ⟨by rw [sizeLine_eq]; omega, ?_⟩
    obtain ⟨p, hp⟩ : ∃ p : Nat, s / 8 % ((n : Int) + 1) = (p : Int) := ⟨(s / 8 % ((n : Int) + 1)).toNat, by
      have := Int.emod_nonneg (s / 8) (show (n : Int) + 1 ≠ 0 by omega)
      omega⟩
    have hpn : p ≤ n := by
      have := Int.emod_lt_of_pos (s / 8) (show (0 : Int) < (n : Int) + 1 by omega)
      omega
    walk_at "go"
    refine ⟨by rw [sizeLine_eq]; omega, fun y1 hy1 => ?_⟩
    have h1 : cod y1 = List.replicate p 109 := by
      rw [hy1, ly, hp, cutC_to, hy', List.take_replicate, Nat.min_eq_left hpn]
    walk_at "go"
    refine ixLet (show 0 ≤ k % 25 by omega) (show k % 25 < 25 by omega) ?_
    have l1 : y1.length = p := by rw [← cod_len, h1]; simp
    refine ⟨_, _, rfl, rfl, by rw [sizeLine_eq, l1]; show p + 1 ≤ _; omega, ?_⟩
    walk_at "go"
    refine ⟨by rw [sizeLine_eq]; omega, fun y2 hy2 => ?_⟩
    have h2 : cod y2 = List.replicate (n - p) 109 := by
      rw [hy2, ly, hp, cutC_from, hy']
      simp
    have l2 : y2.length = n - p := by rw [← cod_len, h2]; simp
    have l3 : (y1 ++ (⟨#[letC (k % 25).toNat]⟩ : Str)).length = p + 1 := by rw [← cod_len, cod_app, List.length_append, cod_len, l1]; rfl
    refine ⟨_, _, rfl, rfl, by rw [sizeLine_eq, l2, l3]; omega, ?_⟩
    refine q _ ?_
    rw [cod_app, cod_app, h1, h2]
    unfold nmC
    rw [hn, hp, Int.toNat_natCast, Int.toNat_natCast, List.append_assoc]
    rfl
theorem D_lorder (T : Txt mg) (S : Src K mg "_law_order" "_law_order" s__law_order) (D_law_mixed : Def P w K mg base 1 "_law_mixed" ["_law_cell", "_law_k"] sp_mixed) (D_law_name : Def P w K mg base 1 "_law_name" ["_law_seed", "_law_k"] sp_lname) (D_law_number : Def P w K mg base 2 "_law_number" ["_law_cell", "_law_k", "_law_most"] sp_number) : Def P w K mg base 3 "_law_order" ["_law_cell", "_law_k", "_law_seed"] sp_lorder := by
  refine S.mk' sc__law_order (fun vs H Q E h => ?_) (fun _ _ _ _ _ _ us hl => match us, hl with | [_, _, _], _ => rfl) (fun f cdv A outer s H vs Q E hr h => ?_)
  · obtain ⟨c, k, s, rfl, _⟩ := h
    rfl
  · obtain ⟨c, k, s, rfl, k0, k1, s0, q⟩ := h
    refine ⟨_, (pss_cons (ps_set (i := 3) sc__law_order.nd rfl (Or.inl rfl) (pe_def D_law_mixed (hr.mono (by decide)) rfl (pa_cons (pv 0) (pa_cons (pe_op op_add (pv 1) pe_int) pa_nil))))
      (pss_cons (ps_set (i := 4) sc__law_order.nd rfl (Or.inl rfl) (pe_def D_law_name (hr.mono (by decide)) rfl (pa_cons (pv 2) (pa_cons (pe_op op_mod (pe_op op_fdivW (pv 3) pe_int) pe_int) pa_nil))))
      (pss_cons (ps_set (i := 5) sc__law_order.nd rfl (Or.inl rfl) (pe_def D_law_name (hr.mono (by decide)) rfl (pa_cons (pv 2) (pa_cons (pe_op op_add (pe_op op_add (pe_op op_mod (pe_op op_fdivW (pv 3) pe_int) pe_int) pe_int) (pe_op op_mod (pe_op op_fdivW (pv 3) pe_int) pe_int)) pa_nil))))
      (pss_cons (ps_set (i := 6) sc__law_order.nd rfl (Or.inl rfl) (pe_def D_law_number (hr.mono (by decide)) rfl (pa_cons (pv 0) (pa_cons (pv 1) (pa_cons (pe_op op_sub (pe_op op_pow pe_int pe_int) pe_int) pa_nil)))))
      (pss_cons (ps_set (i := 7) sc__law_order.nd rfl (Or.inl rfl) (pe_op op_add pe_int (pe_op op_mod (pe_op op_fdivW (pv 3) pe_int) pe_int)))
      (pss_cons (ps_set (i := 8) sc__law_order.nd rfl (Or.inl rfl) (pe_lst' (pa_cons (pe_tup' (pa_cons pe_str (pa_cons (pv 4) (pa_cons (pv 7) (pa_cons (pv 5) pa_nil))))) (pa_cons (pe_tup' (pa_cons pe_str (pa_cons (pv 4) pa_nil))) (pa_cons (pe_tup' (pa_cons pe_str (pa_cons (pv 6) pa_nil))) (pa_cons (pe_tup' (pa_cons pe_str (pa_cons (pv 4) (pa_cons (pv 5) (pa_cons (pv 6) pa_nil))))) pa_nil))))))
      (pss_cons (ps_set (i := 8) sc__law_order.nd rfl (Or.inl rfl) (pe_op op_cat' (pv 8) (pe_lst' (pa_cons (pe_tup' (pa_cons pe_str (pa_cons (pv 4) (pa_cons (pv 6) pa_nil)))) (pa_cons (pe_tup' (pa_cons pe_str (pa_cons (pv 4) pa_nil))) (pa_cons (pe_tup' (pa_cons pe_str (pa_cons (pv 4) (pa_cons (pv 5) pa_nil)))) (pa_cons (pe_tup' (pa_cons pe_str (pa_cons (pv 4) pa_nil))) (pa_cons (pe_tup' (pa_cons pe_str pa_nil)) (pa_cons (pe_tup' (pa_cons pe_str pa_nil)) pa_nil)))))))))
      (pss_one (ps_ret (pe_ix (ix_seqK (K := K) rfl) (pe_op op_cat' (pv 8) (pe_lst' (pa_cons (pe_tup' (pa_cons pe_str pa_nil)) (pa_cons (pe_tup' (pa_cons pe_str pa_nil)) pa_nil)))) (pe_op op_mod (pv 3) pe_int) (fun _ _ => rfl))))))))))), ?_⟩
    walk_at "go"
    refine ⟨c, _, rfl, by omega, by omega, fun m m0 m1 => ?_⟩
    walk_at "go"
    refine ⟨s, _, rfl, s0, by omega, fun z1 hz1 => ?_⟩
    walk_at "go"
    refine ⟨s, _, rfl, s0, by omega, fun z2 hz2 => ?_⟩
    have ok1 := nm_ok s0 (by omega) hz1
    have ok2 := nm_ok s0 (by omega) hz2
    have hne : z1 ≠ z2 := nm_ne (by omega) (by omega) hz1 hz2 (by omega)
    walk_at "go"
    refine ⟨c, k, _, rfl, k0, by omega, by decide +kernel, by decide +kernel, fun nu H1 nl nh s1 => ?_⟩
    have hnu : nu.natAbs < 10 ^ 40 := by
      have e : max ((10 : Int) ^ 40 - 1) (10 ^ 20) = 10 ^ 40 - 1 := by decide +kernel
      have nl' : -(max ((10 : Int) ^ 40 - 1) (10 ^ 20)) ≤ nu := nl
      have nh' : nu ≤ max ((10 : Int) ^ 40 - 1) (10 ^ 20) := nh
      rw [e] at nl' nh'
      omega
    obtain ⟨bb, ebb⟩ : ∃ bb : Nat, V.int (1 + m / 300 % 4 : Int) = .int (bb : Int) := ⟨(1 + m / 300 % 4).toNat, by congr 1; omega⟩
    have hb : (1 + m / 300 % 4 : Int) = (bb : Int) := by injection ebb
    have hb1 : 1 ≤ bb := by omega
    have hb4 : bb ≤ 4 := by omega
    walk_at "go"
    refine fun t0 A0 a0 => ?_
    walk_at "go"
    refine fun t1 A1 a1 => ?_
    walk_at "go"
    refine fun t2 A2 a2 => ?_
    walk_at "go"
    refine fun t3 A3 a3 => ?_
    refine ⟨len_small (by simp), fun l1 B1 b1 => ?_⟩
    walk_at "go"
    refine fun t4 A4 a4 => ?_
    walk_at "go"
    refine fun t5 A5 a5 => ?_
    walk_at "go"
    refine fun t6 A6 a6 => ?_
    walk_at "go"
    refine fun t7 A7 a7 => ?_
    walk_at "go"
    refine fun t8 A8 a8 => ?_
    walk_at "go"
    refine fun t9 A9 a9 => ?_
    refine ⟨len_small (by simp), fun l2 B2 b2 => ?_⟩
    have SB : Same A4 B2 := ((((a5.same.trans a6.same).trans a7.same).trans a8.same).trans a9.same).trans b2.same
    refine ⟨l1, l2, _, _, rfl, rfl, SB _ _ (a4.same _ _ b1.at_), b2.at_, by rw [sizeLine_eq]; simp, fun l3 B3 b3 => ?_⟩
    walk_at "go"
    refine fun t10 A10 a10 => ?_
    walk_at "go"
    refine fun t11 A11 a11 => ?_
    refine ⟨len_small (by simp), fun l4 B4 b4 => ?_⟩
    refine ⟨l3, l4, _, _, rfl, rfl, b4.same _ _ (a11.same _ _ (a10.same _ _ b3.at_)), b4.at_, by rw [sizeLine_eq]; simp, fun l5 B5 b5 => ?_⟩
    walk_at "go"
    have S11 : Same A11 B5 := b4.same.trans b5.same
    have S10 : Same A10 B5 := a11.same.trans S11
    have S9 : Same A9 B5 := ((b2.same.trans b3.same).trans a10.same).trans S10
    have S8 : Same A8 B5 := a9.same.trans S9
    have S7 : Same A7 B5 := a8.same.trans S8
    have S6 : Same A6 B5 := a7.same.trans S7
    have S5 : Same A5 B5 := a6.same.trans S6
    have S4 : Same A4 B5 := a5.same.trans S5
    have S3 : Same A3 B5 := (b1.same.trans a4.same).trans S4
    have S2 : Same A2 B5 := a3.same.trans S3
    have S1 : Same A1 B5 := a2.same.trans S2
    have S0 : Same A0 B5 := a1.same.trans S1
    have SH : Same H B5 := (s1.trans a0.same).trans S0
    have hj : m % 12 = 0 ∨ m % 12 = 1 ∨ m % 12 = 2 ∨ m % 12 = 3 ∨ m % 12 = 4 ∨ m % 12 = 5 ∨ m % 12 = 6 ∨ m % 12 = 7 ∨ m % 12 = 8 ∨ m % 12 = 9 ∨ m % 12 = 10 ∨ m % 12 = 11 := by omega
    rcases hj with e | e | e | e | e | e | e | e | e | e | e | e
    · refine ixL (SqL.of b5.at_) (atI_int 0 e rfl) ?_
      exact q t0 _ B5 SH (S0 _ _ a0.at_) ⟨Str.ofString "room", _, _, by simp [formsL], rfl, .cons (.inl ⟨rfl, _, rfl, ok1⟩) (.cons (.inr (.inl ⟨rfl, bb, hb1, hb4, ebb⟩)) (.cons (.inl ⟨rfl, _, rfl, ok2⟩) (.nil))), fun z => absurd z (by decide +kernel)⟩
    · refine ixL (SqL.of b5.at_) (atI_int 1 e rfl) ?_
      exact q t1 _ B5 SH (S1 _ _ a1.at_) ⟨Str.ofString "person", _, _, by simp [formsL], rfl, .cons (.inl ⟨rfl, _, rfl, ok1⟩) (.nil), fun z => absurd z (by decide +kernel)⟩
    · refine ixL (SqL.of b5.at_) (atI_int 2 e rfl) ?_
      exact q t2 _ B5 SH (S2 _ _ a2.at_) ⟨Str.ofString "rent", _, _, by simp [formsL], rfl, .cons (.inr (.inr ⟨rfl, _, rfl, hnu⟩)) (.nil), fun z => absurd z (by decide +kernel)⟩
    · refine ixL (SqL.of b5.at_) (atI_int 3 e rfl) ?_
      exact q t3 _ B5 SH (S3 _ _ a3.at_) ⟨Str.ofString "worth", _, _, by simp [formsL], rfl, .cons (.inl ⟨rfl, _, rfl, ok1⟩) (.cons (.inl ⟨rfl, _, rfl, ok2⟩) (.cons (.inr (.inr ⟨rfl, _, rfl, hnu⟩)) (.nil))), fun z => absurd z (by decide +kernel)⟩
    · refine ixL (SqL.of b5.at_) (atI_int 4 e rfl) ?_
      exact q t4 _ B5 SH (S4 _ _ a4.at_) ⟨Str.ofString "purse", _, _, by simp [formsL], rfl, .cons (.inl ⟨rfl, _, rfl, ok1⟩) (.cons (.inr (.inr ⟨rfl, _, rfl, hnu⟩)) (.nil)), fun z => absurd z (by decide +kernel)⟩
    · refine ixL (SqL.of b5.at_) (atI_int 5 e rfl) ?_
      exact q t5 _ B5 SH (S5 _ _ a5.at_) ⟨Str.ofString "free", _, _, by simp [formsL], rfl, .cons (.inl ⟨rfl, _, rfl, ok1⟩) (.nil), fun z => absurd z (by decide +kernel)⟩
    · refine ixL (SqL.of b5.at_) (atI_int 6 e rfl) ?_
      exact q t6 _ B5 SH (S6 _ _ a6.at_) ⟨Str.ofString "near", _, _, by simp [formsL], rfl, .cons (.inl ⟨rfl, _, rfl, ok1⟩) (.cons (.inl ⟨rfl, _, rfl, ok2⟩) (.nil)), fun _ z => hne (by injection z with z; injection z)⟩
    · refine ixL (SqL.of b5.at_) (atI_int 7 e rfl) ?_
      exact q t7 _ B5 SH (S7 _ _ a7.at_) ⟨Str.ofString "leave", _, _, by simp [formsL], rfl, .cons (.inl ⟨rfl, _, rfl, ok1⟩) (.nil), fun z => absurd z (by decide +kernel)⟩
    · refine ixL (SqL.of b5.at_) (atI_int 8 e rfl) ?_
      exact q t8 _ B5 SH (S8 _ _ a8.at_) ⟨Str.ofString "share", _, _, by simp [formsL], rfl, .nil, fun z => absurd z (by decide +kernel)⟩
    · refine ixL (SqL.of b5.at_) (atI_int 9 e rfl) ?_
      exact q t9 _ B5 SH (S9 _ _ a9.at_) ⟨Str.ofString "even", _, _, by simp [formsL], rfl, .nil, fun z => absurd z (by decide +kernel)⟩
    · refine ixL (SqL.of b5.at_) (atI_int 10 e rfl) ?_
      exact q t10 _ B5 SH (S10 _ _ a10.at_) ⟨Str.ofString "within", _, _, by simp [formsL], rfl, .nil, fun z => absurd z (by decide +kernel)⟩
    · refine ixL (SqL.of b5.at_) (atI_int 11 e rfl) ?_
      exact q t11 _ B5 SH (S11 _ _ a11.at_) ⟨Str.ofString "close", _, _, by simp [formsL], rfl, .nil, fun z => absurd z (by decide +kernel)⟩
theorem D_lrow (T : Txt mg) (S : Src K mg "_law_row" "_law_row" s__law_row) (D_law_written : Def P w K mg base 1 "_law_written" ["_law_number_here"] sp_shown) : Def P w K mg base 2 "_law_row" ["_law_order_here"] sp_lrow := by
  refine S.mk' sc__law_row (fun vs H Q E h => ?_) (fun _ _ _ _ _ _ us hl => match us, hl with | [_], _ => rfl) (fun f cdv A outer s H vs Q E hr h => ?_)
  · obtain ⟨t, ps, rfl, _⟩ := h
    rfl
  · obtain ⟨t, ps, rfl, ht, hd, q⟩ := h
    refine ⟨_, (pss_cons (ps_set (i := 1) sc__law_row.nd rfl (Or.inl rfl) (pe_lst' pa_nil))
      (pss_cons (ps_for PassesOwn.never rfl (pi_enumTK (K := K) rfl rfl T.enumerate (pa_cons (pv 0) pa_nil)) (pg_tupK (K := K) (n := 2) rfl rfl (pgs_cons (pg_name (i := 2) sc__law_row.nd rfl (Or.inl rfl)) (pgs_cons (pg_name (i := 3) sc__law_row.nd rfl (Or.inl rfl)) pgs_nil)))
      (pss_one (ps_if (pt_val (pe_callB (call_isinstK (K := K) rfl) (by rfl) T.isinstance boot_isinstance' (pa_cons (pv 3) (pa_cons (pe_bltn (v := .ty "str") rfl T.str boot_str' rfl) pa_nil)))) (pss_one (ps_expr (pe_bmK (K := K) rfl PySem.F.plainAttrs_list PySem.F.slot_list_append PySem.F.type_list_append mt_append (pv 1) (pa_cons (pv 3) pa_nil)))) (pss_one (ps_if (PW.pt (pw_and (pt_cmpR op_eq (pe_ix (ix_seqK (K := K) rfl) (pv 0) pe_int (fun _ _ => rfl)) pe_str (nomark _)) (pw_and1 (pt_cmpR op_eq (pv 2) pe_int (nomark _))))) (pss_one (ps_expr (pe_bmK (K := K) rfl PySem.F.plainAttrs_list PySem.F.slot_list_append PySem.F.type_list_append mt_append (pv 1) (pa_cons (pe_callTy call_str_int (by rfl) T.str boot_str' (pa_cons (pv 3) pa_nil)) pa_nil)))) (pss_one (ps_expr (pe_bmK (K := K) rfl PySem.F.plainAttrs_list PySem.F.slot_list_append PySem.F.type_list_append mt_append (pv 1) (pa_cons (pe_def D_law_written (hr.mono (by decide)) rfl (pa_cons (pv 3) pa_nil)) pa_nil)))))))))
      (pss_one (ps_ret (pe_bmK (K := K) rfl PySem.F.plainAttrs_str PySem.F.slot_str_join PySem.F.type_str_join (mt_joinK (K := K) rfl) pe_str (pa_cons (pv 1) pa_nil)))))), ?_⟩
    obtain ⟨kd, ks, vs, hm, rfl, hpa, hnr⟩ := hd.ex
    have hpv := parts_v hpa
    have lk := (kd_codes hm).2.2.2
    have lvs : vs.length ≤ 3 := by have := parts_len hpa; omega
    walk_at "go"
    refine fun l H1 n1 => ?_
    walk_at "go"
    refine ⟨⟨_, SqT.of (n1.same _ _ ht)⟩, ?_⟩
    refine for_enumT (xs := .str kd :: vs) (fun i σ H' => ∃ (o2 o3 : Option V) (ws : List Str), σ = [some (.ref t), some (.ref l), o2, o3] ∧ Same H H' ∧ H' l = some (.lst (ws.map V.str)) ∧ ws.length = i ∧ ∀ j p wd, (V.str kd :: vs)[j]? = some p → ws[j]? = some wd → PartW kd j p wd) ⟨_, _, [], rfl, n1.same, n1.at_, rfl, fun j p wd _ e => by simp at e⟩ (fun i σ H' _ ⟨_, _, _, _, s, _⟩ => SqT.of (s _ _ ht)) ?_ ?_
    · rintro i x σ H2 tt hx ⟨o2, o3, ws, rfl, s2, hl2, lw, hpw⟩ htt
      have ht2 := s2 _ _ ht
      have hi4 : i < 4 := by
        have := (List.getElem?_eq_some_iff.mp hx).1
        simp at this
        omega
      have sT : Same H2 (upd H2 tt (.tup [.int (i : Int), x])) := same_upd' htt
      refine ⟨tt, _, rfl, SqT.of upd_same, rfl, _, _, rfl, _, _, rfl, rfl, ?_⟩
      have ht3 := sT _ _ ht2
      have hl3 := sT _ _ hl2
      have s3 : Same H (upd H2 tt (.tup [.int (i : Int), x])) := s2.trans sT
      generalize upd H2 tt (.tup [.int (i : Int), x]) = H3 at *
      have fin : ∀ (wd : Str) (H4 : Hp), Same H3 H4 → PartW kd i x wd → (∃ (o2 o3 : Option V) (ws' : List Str), [some (V.ref t), some (V.ref l), some (V.int (i : Int)), some x] = [some (V.ref t), some (V.ref l), o2, o3] ∧ Same H (upd H4 l (.lst (ws.map V.str ++ [.str wd]))) ∧ upd H4 l (.lst (ws.map V.str ++ [.str wd])) l = some (.lst (ws'.map V.str)) ∧ ws'.length = i + 1 ∧ ∀ j p wd, (V.str kd :: vs)[j]? = some p → ws'[j]? = some wd → PartW kd j p wd) := fun wd H4 s4 hw => by
        refine ⟨_, _, ws ++ [wd], rfl, fun c o e => ?_, by rw [upd_same, List.map_append]; rfl, by simp [lw], fun j p wd' ep ew => ?_⟩
        · rw [upd_ne (ne_of_none e n1.none)]
          exact s4 _ _ (s3 _ _ e)
        · by_cases hj : j < ws.length
          · rw [List.getElem?_append_left hj] at ew
            exact hpw j p wd' ep ew
          · have ej : j = ws.length := by
              have := (List.getElem?_eq_some_iff.mp ew).1
              simp at this
              omega
            have ei : j = i := by omega
            subst ej
            have e1 : wd' = wd := by simpa using ew.symm
            subst e1
            rw [ei] at ep ⊢
            rw [hx] at ep
            have e2 : x = p := Option.some.inj ep
            rw [← e2]
            exact hw
      have hxc : (∃ y, x = .str y) ∨ ∃ n : Int, x = .int n ∧ n.natAbs < 10 ^ 40 ∧ (0 ≤ n ∨ kA ∈ ks) := by
        cases i with
        | zero => exact .inl ⟨kd, by simpa using hx.symm⟩
        | succ i => exact hpv x (List.mem_of_getElem? (by simpa using hx))
      have hsz : (ws.map V.str).length < sizeLine := by rw [sizeLine_eq, List.length_map]; omega
      rcases hxc with ⟨y, rfl⟩ | ⟨n, rfl, hn, hn2⟩
      · walk_at "go"
        refine ⟨_, _, _, true, rfl, .str _, kit_same _ _, _, rfl, iteT ?_⟩
        walk_at "go"
        refine ⟨.inl ⟨rfl, _, SqL.of hl3⟩, ?_⟩
        walk_at "go"
        refine ⟨l, _, _, rfl, rfl, hl3, hsz, ?_⟩
        exact fin y _ (Same.refl _) (.inl rfl)
      · walk_at "go"
        refine ⟨_, _, _, false, rfl, .int _, kit_is _, _, rfl, iteF ?_⟩
        walk_at "go"
        refine ixT (SqT.of ht3) (atI_int 0 rfl rfl) ?_
        walk_at "go"
        refine ite2 (fun e => ?_) (fun e => ?_)
        · have ekd : kd = Str.ofString "room" := by
            have := of_decide_eq_true e
            injection this
          walk_at "go"
          refine ite2 (fun e2 => ?_) (fun e2 => ?_)
          · have ei : i = 2 := by
              have := of_decide_eq_true e2
              injection this with this
              omega
            have n0 : 0 ≤ n := by
              rcases hn2 with h | h
              · exact h
              · subst ekd
                exact absurd h (room_form hm)
            walk_at "go"
            refine ⟨.inl ⟨rfl, _, SqL.of hl3⟩, ?_⟩
            walk_at "go"
            refine ⟨log_small ⟨by omega, by omega⟩, ?_⟩
            walk_at "go"
            refine ⟨l, _, _, rfl, rfl, hl3, hsz, ?_⟩
            exact fin _ _ (Same.refl _) (.inr (.inl ⟨n, rfl, ekd, ei, cod_num n0⟩))
          · have hno : ¬ (kd = Str.ofString "room" ∧ i = 2) := fun z => e2 (decide_eq_true (by rw [z.2]; rfl))
            walk_at "go"
            refine ⟨.inl ⟨rfl, _, SqL.of hl3⟩, ?_⟩
            walk_at "go"
            refine fun y hy => ?_
            refine ⟨l, _, _, rfl, rfl, hl3, hsz, ?_⟩
            exact fin y _ (Same.refl _) (.inr (.inr ⟨n, rfl, hno, hy⟩))
        · have hno : ¬ (kd = Str.ofString "room" ∧ i = 2) := fun z => e (decide_eq_true (by rw [z.1]))
          walk_at "go"
          refine ⟨.inl ⟨rfl, _, SqL.of hl3⟩, ?_⟩
          walk_at "go"
          refine fun y hy => ?_
          refine ⟨l, _, _, rfl, rfl, hl3, hsz, ?_⟩
          exact fin y _ (Same.refl _) (.inr (.inr ⟨n, rfl, hno, hy⟩))
    · rintro σ H2 ⟨o2, o3, ws, rfl, s2, hl2, lw, hpw⟩
      have ho := ord_of hd (by rw [lw]; rfl) hpw
      walk_at "go"
      refine ⟨_, l, ws, rfl, rfl, SqL.of hl2, ?_, ?_⟩
      · unfold JoinOk
        rw [StrLaws.joinFits (B := 110) (fun x hx => (ho.free.1 x hx).2) (by
          have h3 := ho.free.2.2
          have h4 : (Str.ofString " ").length = 1 := by decide +kernel
          rw [h4]
          omega)]
        rfl
      · exact q _ _ s2 ⟨ws, rfl, ho⟩
theorem D_lsame (T : Txt mg) (S : Src K mg "_law_same" "_law_same" s__law_same) (D_law_whole : Def P w K mg base 1 "_law_whole" ["_law_found"] sp_whole) : Def P w K mg base 2 "_law_same" ["_law_found", "_law_due"] sp_lsame := by
  refine S.mk' sc__law_same (fun vs H Q E h => ?_) (fun _ _ _ _ _ _ us hl => match us, hl with | [_, _], _ => rfl) (fun f cdv A outer s H vs Q E hr h => ?_)
  · obtain ⟨t, t', ps, rfl, _⟩ := h
    rfl
  · obtain ⟨t, t', ps, rfl, ht, ht', hd, q⟩ := h
    refine ⟨_, (pss_cons (ps_if (PW.pt (pw_or (pt_not (pt_val (pe_callB (call_isinstK (K := K) rfl) (by rfl) T.isinstance boot_isinstance' (pa_cons (pv 0) (pa_cons (pe_bltn (v := .ty "tuple") rfl T.tuple boot_tuple' rfl) pa_nil))))) (pw_or1 (pt_cmpR op_ne (pe_callB (call_lenK (K := K) rfl) (by rfl) T.len boot_len' (pa_cons (pv 0) pa_nil)) (pe_callB (call_lenK (K := K) rfl) (by rfl) T.len boot_len' (pa_cons (pv 1) pa_nil)) (nomark _))))) (pss_one (ps_ret pe_bl)) pss_nil)
      (pss_cons (ps_for PassesOwn.never rfl (pi_zipTK (K := K) rfl rfl T.zip (pa_cons (pv 0) (pa_cons (pv 1) pa_nil))) (pg_tupK (K := K) (n := 2) rfl rfl (pgs_cons (pg_name (i := 2) sc__law_same.nd rfl (Or.inl rfl)) (pgs_cons (pg_name (i := 3) sc__law_same.nd rfl (Or.inl rfl)) pgs_nil)))
      (pss_cons (ps_if (PW.pt (pw_and (pt_val (pe_callB (call_isinstK (K := K) rfl) (by rfl) T.isinstance boot_isinstance' (pa_cons (pv 3) (pa_cons (pe_bltn (v := .ty "str") rfl T.str boot_str' rfl) pa_nil)))) (pw_and1 (pt_not (pt_val (pe_callB (call_isinstK (K := K) rfl) (by rfl) T.isinstance boot_isinstance' (pa_cons (pv 2) (pa_cons (pe_bltn (v := .ty "str") rfl T.str boot_str' rfl) pa_nil)))))))) (pss_one (ps_ret pe_bl)) pss_nil)
      (pss_one (ps_if (PW.pt (pw_and (pt_not (pt_val (pe_callB (call_isinstK (K := K) rfl) (by rfl) T.isinstance boot_isinstance' (pa_cons (pv 3) (pa_cons (pe_bltn (v := .ty "str") rfl T.str boot_str' rfl) pa_nil))))) (pw_and1 (pt_not (pt_val (pe_def D_law_whole (hr.mono (by decide)) rfl (pa_cons (pv 2) pa_nil))))))) (pss_one (ps_ret pe_bl)) pss_nil))))
      (pss_one (ps_ret (pe_cmpR (op_eqDK (K := K) rfl hr.units) (pv 0) (pv 1) (nomark _)))))), ?_⟩
    have hpc : ∀ p ∈ ps, (∃ x, p = .str x) ∨ ∃ n : Int, p = .int n := by
      obtain ⟨kd, ks, vs, hm, rfl, hpa, hnr⟩ := hd.ex
      intro p hp
      rcases List.mem_cons.mp hp with e | hp
      · exact .inl ⟨kd, e⟩
      · rcases parts_v hpa p hp with h | ⟨n, h, _⟩
        · exact .inl h
        · exact .inr ⟨n, h⟩
    walk_at "go"
    refine ⟨_, _, _, true, rfl, .tup ht, kit_same _ _, ?_⟩
    walk_at "go"
    refine ⟨t, _, rfl, .inr (SqT.of ht), ?_⟩
    walk_at "go"
    refine ⟨t', _, rfl, .inr (SqT.of ht'), ?_⟩
    walk_at "go"
    refine iteE (by simp) ?_
    walk_at "go"
    refine ⟨t, t', rfl, ⟨_, SqT.of ht⟩, ⟨_, SqT.of ht'⟩, ?_⟩
    refine for_zipT (xs := ps) (ys := ps) (fun i σ H' => (∃ o2 o3 : Option V, σ = [some (.ref t), some (.ref t'), o2, o3]) ∧ Same H H') rfl ⟨⟨_, _, rfl⟩, Same.refl _⟩ (fun i σ H' _ h => ⟨SqT.of (h.2 _ _ ht), SqT.of (h.2 _ _ ht')⟩) ?_ ?_
    · rintro i x y σ H2 tt hx hy ⟨⟨o2, o3, rfl⟩, s2⟩ htt
      rw [hx] at hy
      have exy : x = y := Option.some.inj hy
      subst exy
      have sT : Same H2 (upd H2 tt (.tup [x, x])) := same_upd' htt
      refine ⟨tt, _, rfl, SqT.of upd_same, rfl, _, _, rfl, _, _, rfl, rfl, ?_⟩
      have s3 : Same H (upd H2 tt (.tup [x, x])) := s2.trans sT
      generalize upd H2 tt (.tup [x, x]) = H3 at *
      rcases hpc x (List.mem_of_getElem? hx) with ⟨z, rfl⟩ | ⟨n, rfl⟩
      · walk_at "go"
        refine ⟨_, _, _, true, rfl, .str _, kit_same _ _, _, rfl, ?_⟩
        walk_at "go"
        refine ⟨_, _, _, true, rfl, .str _, kit_same _ _, ?_⟩
        walk_at "go"
        refine ⟨_, _, _, true, rfl, .str _, kit_same _ _, ?_⟩
        walk_at "go"
        exact ⟨⟨_, _, rfl⟩, s3⟩
      · walk_at "go"
        refine ⟨_, _, _, false, rfl, .int _, kit_is _, _, rfl, ?_⟩
        walk_at "go"
        refine ⟨_, _, _, false, rfl, .int _, kit_is _, ?_⟩
        walk_at "go"
        exact ⟨⟨_, _, rfl⟩, s3⟩
    · rintro σ H2 ⟨⟨o2, o3, rfl⟩, s2⟩
      walk_at "go"
      refine ⟨_, _, rv_tup (SqT.of (s2 _ _ ht)) (rv_parts hd.flat), rv_tup (SqT.of (s2 _ _ ht')) (rv_parts hd.flat), parts_shaped hd.flat, parts_shaped hd.flat, ?_⟩
      rw [if_neg Bool.false_ne_true, parts_eqv hd.flat]
      exact q _ s2
theorem D_law (T : Txt mg) (S : Src K mg "law" "law" s_law) (D_law_mixed : Def P w K mg base 1 "_law_mixed" ["_law_cell", "_law_k"] sp_mixed) (D_law_cell_at : Def P w K mg base 1 "_law_cell_at" ["_law_script", "_law_k"] (sp_cell K)) (D_law_order : Def P w K mg base 3 "_law_order" ["_law_cell", "_law_k", "_law_seed"] sp_lorder) (D_law_row : Def P w K mg base 2 "_law_row" ["_law_order_here"] sp_lrow) (D_law_same : Def P w K mg base 2 "_law_same" ["_law_found", "_law_due"] sp_lsame) (Dread_sheet : Def P w K mg base 7 "read_sheet" ["text"] sp_readsheet) : Def P w K mg base 8 "law" ["_law_script"] (sp_law K) := by
  refine S.mk' sc_law (fun vs H Q E h => ?_) (fun _ _ _ _ _ _ us hl => match us, hl with | [_], _ => rfl) (fun f cdv A outer s H vs Q E hr h => ?_)
  · obtain ⟨a, ns, rfl, _⟩ := h
    rfl
  · obtain ⟨a, ns, rfl, hS, hlen, q⟩ := h
    refine ⟨_, (pss_cons (ps_set (i := 1) sc_law.nd rfl (Or.inl rfl) (pe_def D_law_mixed (hr.mono (by decide)) rfl (pa_cons (pe_def D_law_cell_at (hr.mono (by decide)) rfl (pa_cons (pv 0) (pa_cons pe_int pa_nil))) (pa_cons pe_int pa_nil))))
      (pss_cons (ps_set (i := 2) sc_law.nd rfl (Or.inl rfl) (pe_lst' pa_nil))
      (pss_cons (ps_set (i := 3) sc_law.nd rfl (Or.inl rfl) (pe_lst' pa_nil))
      (pss_cons (ps_for PassesOwn.never rfl (pi_enumK (K := K) rfl rfl T.enumerate (pa_cons (pe_slice (sl_listK (K := K) rfl) (pv 0) po_none (po_some pe_int)) pa_nil)) (pg_tupK (K := K) (n := 2) rfl rfl (pgs_cons (pg_name (i := 4) sc_law.nd rfl (Or.inl rfl)) (pgs_cons (pg_name (i := 5) sc_law.nd rfl (Or.inl rfl)) pgs_nil)))
      (pss_cons (ps_expr (pe_bmK (K := K) rfl PySem.F.plainAttrs_list PySem.F.slot_list_append PySem.F.type_list_append mt_append (pv 2) (pa_cons (pe_def D_law_order (hr.mono (by decide)) rfl (pa_cons (pv 5) (pa_cons (pv 4) (pa_cons (pv 1) pa_nil)))) pa_nil)))
      (pss_cons (ps_expr (pe_bmK (K := K) rfl PySem.F.plainAttrs_list PySem.F.slot_list_append PySem.F.type_list_append mt_append (pv 3) (pa_cons (pe_def D_law_row (hr.mono (by decide)) rfl (pa_cons (pe_ix (ix_seqK (K := K) rfl) (pv 2) (pv 4) (fun _ _ => rfl)) pa_nil)) pa_nil)))
      (pss_one (ps_if (pt_cmpR op_eq (pe_op op_mod (pe_def D_law_mixed (hr.mono (by decide)) rfl (pa_cons (pv 5) (pa_cons (pe_op op_add (pv 4) pe_int) pa_nil))) pe_int) pe_int (nomark _)) (pss_one (ps_expr (pe_bmK (K := K) rfl PySem.F.plainAttrs_list PySem.F.slot_list_insert PySem.F.type_list_insert mt_insert (pv 3) (pa_cons (pe_op op_mod (pe_def D_law_mixed (hr.mono (by decide)) rfl (pa_cons (pv 5) (pa_cons (pe_op op_add (pv 4) pe_int) pa_nil))) (pe_op op_add (pe_callB (call_lenK (K := K) rfl) (by rfl) T.len boot_len' (pa_cons (pv 3) pa_nil)) pe_int)) (pa_cons pe_str pa_nil))))) pss_nil)))))
      (pss_cons (ps_set (i := 6) sc_law.nd rfl (Or.inl rfl) (pe_def Dread_sheet (hr.mono (by decide)) rfl (pa_cons (pe_bmK (K := K) rfl PySem.F.plainAttrs_str PySem.F.slot_str_join PySem.F.type_str_join (mt_joinK (K := K) rfl) pe_str (pa_cons (pv 3) pa_nil)) pa_nil)))
      (pss_cons (ps_if (PW.pt (pw_or (pt_not (pt_val (pe_callB (call_isinstK (K := K) rfl) (by rfl) T.isinstance boot_isinstance' (pa_cons (pv 6) (pa_cons (pe_bltn (v := .ty "list") rfl T.list boot_list' rfl) pa_nil))))) (pw_or1 (pt_cmpR op_ne (pe_callB (call_lenK (K := K) rfl) (by rfl) T.len boot_len' (pa_cons (pv 6) pa_nil)) (pe_callB (call_lenK (K := K) rfl) (by rfl) T.len boot_len' (pa_cons (pv 2) pa_nil)) (nomark _))))) (pss_one (ps_ret pe_bl)) pss_nil)
      (pss_cons (ps_for PassesOwn.never rfl (pi_range1 rfl T.range (pa_cons (pe_callB (call_lenK (K := K) rfl) (by rfl) T.len boot_len' (pa_cons (pv 2) pa_nil)) pa_nil)) (pg_name (i := 4) sc_law.nd rfl (Or.inl rfl))
      (pss_one (ps_if (pt_not (pt_val (pe_def D_law_same (hr.mono (by decide)) rfl (pa_cons (pe_ix (ix_seqK (K := K) rfl) (pv 6) (pv 4) (fun _ _ => rfl)) (pa_cons (pe_ix (ix_seqK (K := K) rfl) (pv 2) (pv 4) (fun _ _ => rfl)) pa_nil))))) (pss_one (ps_ret pe_bl)) pss_nil)))
      (pss_one (ps_ret pe_bl))))))))), ?_⟩
    walk_at "go"
    refine ⟨a, ns, _, rfl, hS, by decide, fun z0 => ?_⟩
    walk_at "go"
    refine ⟨z0, _, rfl, by decide, by decide, fun sd sd0 sd1 => ?_⟩
    walk_at "go"
    refine fun lD H1 n1 => ?_
    walk_at "go"
    refine fun lR H2 n2 => ?_
    have hD2 := n2.same _ _ n1.at_
    have nDR : lD ≠ lR := fun z => by
      have := n2.none
      rw [← z, n1.at_] at this
      cases this
    have S2 : Same H H2 := n1.same.trans n2.same
    walk_at "go"
    refine ⟨a, _, rfl, S2.seq hS, fun c1 H3 n3 => ?_⟩
    obtain ⟨ms, em, lm⟩ := cut_ints ns none (some 80)
    rw [em] at n3
    have nc1 : c1 ≠ lD ∧ c1 ≠ lR := ⟨(fun z => by have := n3.none; rw [z, hD2] at this; cases this), (fun z => by have := n3.none; rw [z, n2.at_] at this; cases this)⟩
    walk_at "go"
    refine ⟨⟨_, SqL.of n3.at_⟩, ?_⟩
    refine for_enum (xs := ms.map V.int) (fun i σ H' => ∃ (o4 o5 : Option V) (ds : List Addr) (rows : List Str) (pss : List (List V)), σ = [some (.ref a), some (.int sd), some (.ref lD), some (.ref lR), o4, o5, none] ∧ Same H H' ∧ H' c1 = some (.lst (ms.map V.int)) ∧ H' lD = some (.lst (ds.map V.ref)) ∧ H' lR = some (.lst (rows.map V.str)) ∧ ds.length = i ∧ pss.length = i ∧ rows.length ≤ 2 * i ∧ Reads rows pss ∧ ∀ (j : Nat) t, ds[j]? = some t → ∃ ps, pss[j]? = some ps ∧ Due ps ∧ H' t = some (.tup ps)) ⟨_, _, [], [], [], rfl, S2.trans n3.same, n3.at_, n3.same _ _ hD2, n3.same _ _ n2.at_, rfl, rfl, by simp, .nil, fun j t e => by simp at e⟩ (fun i σ H' _ ⟨_, _, _, _, _, _, _, h, _⟩ => SqL.of h) ?_ ?_
    · rintro i x σ H4 tt hx ⟨o4, o5, ds, rows, pss, rfl, s4, hc4, hD4, hR4, ld, lp, lr, hrd, hds⟩ htt
      obtain ⟨cl, hcl, rfl⟩ := int_at hx
      have hi : i < 63 := by
        have := (List.getElem?_eq_some_iff.mp hcl).1
        omega
      have sT : Same H4 (upd H4 tt (.tup [.int (i : Int), .int cl])) := same_upd' htt
      refine ⟨tt, _, rfl, SqT.of upd_same, rfl, _, _, rfl, _, _, rfl, rfl, ?_⟩
      have s5 : Same H (upd H4 tt (.tup [.int (i : Int), .int cl])) := s4.trans sT
      have hc5 := sT _ _ hc4
      have hD5 := sT _ _ hD4
      have hR5 := sT _ _ hR4
      have hds5 : ∀ (j : Nat) t, ds[j]? = some t → ∃ ps, pss[j]? = some ps ∧ Due ps ∧ upd H4 tt (.tup [.int (i : Int), .int cl]) t = some (.tup ps) := fun j t e => by
        obtain ⟨ps, h1, h2, h3⟩ := hds j t e
        exact ⟨ps, h1, h2, sT _ _ h3⟩
      clear hds hc4 hD4 hR4 s4
      generalize upd H4 tt (.tup [.int (i : Int), .int cl]) = H5 at *
      walk_at "go"
      refine ⟨.inl ⟨rfl, _, SqL.of hD5⟩, ?_⟩
      walk_at "go"
      refine ⟨cl, _, sd, rfl, by omega, by omega, sd0, fun t ps H6 s6 ht hdu => ?_⟩
      have hD6 := s6 _ _ hD5
      refine ⟨lD, _, _, rfl, rfl, hD6, by rw [sizeLine_eq, List.length_map]; omega, ?_⟩
      have eD7 : upd H6 lD (.lst (ds.map V.ref ++ [.ref t])) lD = some (.lst ((ds ++ [t]).map V.ref)) := by rw [upd_same, List.map_append]; rfl
      have k7 : ∀ c o, H6 c = some o → c ≠ lD → upd H6 lD (.lst (ds.map V.ref ++ [.ref t])) c = some o := fun c o e hc => by rw [upd_ne hc]; exact e
      have s7 : Same H (upd H6 lD (.lst (ds.map V.ref ++ [.ref t]))) := fun c o e => k7 c o (s6 _ _ (s5 _ _ e)) (ne_of_none e n1.none)
      have hc7 := k7 _ _ (s6 _ _ hc5) nc1.1
      have hR7 := k7 _ _ (s6 _ _ hR5) nDR.symm
      have ht7 := k7 _ _ ht (ne_of ht hD6 (by intro z; cases z))
      have hds7 : ∀ (j : Nat) t', (ds ++ [t])[j]? = some t' → ∃ ps', (pss ++ [ps])[j]? = some ps' ∧ Due ps' ∧ upd H6 lD (.lst (ds.map V.ref ++ [.ref t])) t' = some (.tup ps') := fun j t' e => by
        by_cases hj : j < ds.length
        · rw [List.getElem?_append_left hj] at e
          obtain ⟨ps', h1, h2, h3⟩ := hds5 j t' e
          have h4 := s6 _ _ h3
          exact ⟨ps', by rw [List.getElem?_append_left (by omega)]; exact h1, h2, k7 _ _ h4 (ne_of h4 hD6 (by intro z; cases z))⟩
        · have ej : j = ds.length := by
            have := (List.getElem?_eq_some_iff.mp e).1
            simp at this
            omega
          subst ej
          have et : t' = t := by simpa using e.symm
          subst et
          exact ⟨ps, by rw [ld, ← lp]; simp, hdu, ht7⟩
      clear hds5 hD6 hD5 hR5 hc5 k7 ht
      generalize upd H6 lD (.lst (ds.map V.ref ++ [.ref t])) = H7 at *
      walk_at "go"
      refine ⟨.inl ⟨rfl, _, SqL.of hR7⟩, ?_⟩
      walk_at "go"
      refine ixL (SqL.of eD7) (atI_int i rfl (show ((ds ++ [t]).map V.ref)[i]? = some (.ref t) by rw [← ld]; simp)) ?_
      refine ⟨t, ps, rfl, ht7, hdu, fun r H8 s8 hro => ?_⟩
      have hR8 := s8 _ _ hR7
      refine ⟨lR, _, _, rfl, rfl, hR8, by rw [sizeLine_eq, List.length_map]; omega, ?_⟩
      have eR9 : upd H8 lR (.lst (rows.map V.str ++ [.str r])) lR = some (.lst ((rows ++ [r]).map V.str)) := by rw [upd_same, List.map_append]; rfl
      have k9 : ∀ c o, H8 c = some o → c ≠ lR → upd H8 lR (.lst (rows.map V.str ++ [.str r])) c = some o := fun c o e hc => by rw [upd_ne hc]; exact e
      have hn2 : H lR = none := n1.same.free n2.none
      have s9 : Same H (upd H8 lR (.lst (rows.map V.str ++ [.str r]))) := fun c o e => k9 c o (s8 _ _ (s7 _ _ e)) (ne_of_none e hn2)
      have hc9 := k9 _ _ (s8 _ _ hc7) nc1.2
      have hD9 := k9 _ _ (s8 _ _ eD7) nDR
      have hds9 : ∀ (j : Nat) t', (ds ++ [t])[j]? = some t' → ∃ ps', (pss ++ [ps])[j]? = some ps' ∧ Due ps' ∧ upd H8 lR (.lst (rows.map V.str ++ [.str r])) t' = some (.tup ps') := fun j t' e => by
        obtain ⟨ps', h1, h2, h3⟩ := hds7 j t' e
        have h4 := s8 _ _ h3
        exact ⟨ps', h1, h2, k9 _ _ h4 (ne_of h4 hR8 (by intro z; cases z))⟩
      have hrd9 : Reads (rows ++ [r]) (pss ++ [ps]) := hrd.app (.cons hro hro.free.2.1 .nil)
      have lr9 : (rows ++ [r]).length ≤ 2 * i + 1 := by simp; omega
      have ld9 : (ds ++ [t]).length = i + 1 := by simp [ld]
      have lp9 : (pss ++ [ps]).length = i + 1 := by simp [lp]
      clear hds7 hR8 hR7 hc7 k9 eD7 hrd
      generalize upd H8 lR (.lst (rows.map V.str ++ [.str r])) = H9 at *
      generalize rows ++ [r] = rows9 at *
      generalize ds ++ [t] = ds9 at *
      generalize pss ++ [ps] = pss9 at *
      walk_at "go"
      refine ⟨cl, _, rfl, by omega, by omega, fun m1 m10 m11 => ?_⟩
      walk_at "go"
      refine ite2 (fun _ => ?_) (fun _ => ?_)
      · walk_at "go"
        refine ⟨.inl ⟨rfl, _, SqL.of eR9⟩, ?_⟩
        walk_at "go"
        refine ⟨cl, _, rfl, by omega, by omega, fun m2 m20 m21 => ?_⟩
        walk_at "go"
        refine ⟨lR, _, rfl, .inl (SqL.of eR9), ?_⟩
        rw [List.length_map]
        walk_at "go"
        obtain ⟨p, hp⟩ : ∃ p : Nat, m2 % ((rows9.length : Int) + 1) = (p : Int) := ⟨(m2 % ((rows9.length : Int) + 1)).toNat, by
          have := Int.emod_nonneg m2 (show (rows9.length : Int) + 1 ≠ 0 by omega)
          omega⟩
        have hpl : p ≤ rows9.length := by
          have := Int.emod_lt_of_pos m2 (show (0 : Int) < (rows9.length : Int) + 1 by omega)
          omega
        refine ⟨lR, rows9.map V.str, p, .str (Str.ofString ""), rfl, by rw [← hp], eR9, by rw [List.length_map]; exact hpl, by rw [sizeLine_eq, List.length_map]; omega, ?_⟩
        refine ⟨_, _, ds9, rows9.take p ++ Str.ofString "" :: rows9.drop p, pss9, rfl, fun c o e => ?_, ?_, ?_, ?_, ld9, lp9, by simp; omega, hrd9.ins p, fun j t' e => ?_⟩
        · rw [upd_ne (ne_of_none e hn2)]
          exact s9 _ _ e
        · rw [upd_ne nc1.2]
          exact hc9
        · rw [upd_ne nDR]
          exact hD9
        · rw [upd_same, List.map_append, List.map_take, List.map_cons, List.map_drop]
        · obtain ⟨ps', h1, h2, h3⟩ := hds9 j t' e
          refine ⟨ps', h1, h2, ?_⟩
          rw [upd_ne (ne_of h3 eR9 (by intro z; cases z))]
          exact h3
      · exact ⟨_, _, ds9, rows9, pss9, rfl, s9, hc9, hD9, eR9, ld9, lp9, by omega, hrd9, hds9⟩
    · rintro σ H4 ⟨o4, o5, ds, rows, pss, rfl, s4, hc4, hD4, hR4, ld, lp, lr, hrd, hds⟩
      rw [List.length_map] at ld lp lr
      obtain ⟨rows', er, hrd', lr'⟩ := sheet_split hrd
      obtain ⟨l1, l2⟩ := sheet_len hrd (by omega)
      walk_at "go"
      refine ⟨_, lR, rows, rfl, rfl, SqL.of hR4, l2, ?_⟩
      walk_at "go"
      refine ⟨_, rows', pss, rfl, er, l1, by omega, hrd', fun lF ts H5 s5 hF lF' htf => ?_⟩
      have hD5 := s5 _ _ hD4
      walk_at "go"
      refine ⟨_, _, _, true, rfl, .lst hF, kit_same _ _, ?_⟩
      walk_at "go"
      refine ⟨lF, _, rfl, .inl (SqL.of hF), ?_⟩
      walk_at "go"
      refine ⟨lD, _, rfl, .inl (SqL.of hD5), ?_⟩
      walk_at "go"
      refine iteE (by simp; omega) ?_
      walk_at "go"
      refine ⟨lD, _, rfl, .inl (SqL.of hD5), ?_⟩
      rw [List.length_map]
      refine ⟨_, rfl, by omega, by omega, ?_⟩
      rw [Int.toNat_natCast]
      refine for_range (fun i σ H' => (∃ o4 : Option V, σ = [some (.ref a), some (.int sd), some (.ref lD), some (.ref lR), o4, o5, some (.ref lF)]) ∧ Same H5 H') ⟨⟨_, rfl⟩, Same.refl _⟩ ?_ ?_
      · rintro i σ H6 hi ⟨⟨o4', rfl⟩, s6⟩
        rw [show (0 : Int) + (i : Int) = (i : Int) by omega]
        have hdi : ds[i]? = some ds[i] := by simp [hi]
        have hit : i < ts.length := by omega
        have hti : ts[i]? = some ts[i] := by simp [hit]
        obtain ⟨ps, e1, hdu, h1⟩ := hds i _ hdi
        obtain ⟨ps', e2, h2⟩ := htf i _ hti
        rw [e1] at e2
        have ep : ps = ps' := Option.some.inj e2
        subst ep
        walk_at "go"
        refine ixL (SqL.of (s6 _ _ hF)) (atI_int i rfl (show (ts.map V.ref)[i]? = some (.ref ts[i]) by simp [hit])) ?_
        walk_at "go"
        refine ixL (SqL.of (s6 _ _ hD5)) (atI_int i rfl (show (ds.map V.ref)[i]? = some (.ref ds[i]) by simp [hi])) ?_
        refine ⟨_, _, ps, rfl, s6 _ _ h2, s6 _ _ (s5 _ _ h1), hdu, fun H7 s7 => ?_⟩
        walk_at "go"
        exact ⟨⟨_, rfl⟩, s6.trans s7⟩
      · rintro σ H6 ⟨⟨o4', rfl⟩, s6⟩
        walk_at "go"
        exact q H6
end
theorem walk {l : PySem.W.OpenLaw} {q : Program} {loose : List Str} {XP : (Str → Option Value) → Heap → Prop} {YP : World → Heap → Prop} {d : DefRec} {K : Params → PySem.W.Frag} (hn : l.most = some 63) (hdf : d.params.defaults = [])
    (hY : ∀ (w : World) (h : Heap), YP w h → (K w.params).In h)
    (F : ∀ (w : World) (mg : Str → Option Value) (fa : Addr) (h : Heap), (K w.params).In h → h.Ns mainGlobals mg → mg d.name = some (.ref fa) →
      ∃ fd : FuncData, (∀ (s : Shared) (u : Value), BindsTo s fd ⟨[u], []⟩ [("_law_script", u)]) ∧ ∀ base : Heap, (K w.params).In base → base.Ns mainGlobals mg → FnOk l.prog w (K w.params) mg base CX0 8 fa fd ["_law_script"] (sp_law (K w.params))) :
    PySem.W.WalkO q loose XP YP l.row.toRowW d [] (fun f vs => PySem.call f vs) :=
  L2.walk_of (n := 63) (k := 8) (x := "_law_script") (CX := fun _ => CX0) (sp := fun w => sp_law (K w.params)) hn (by decide) hdf ⟨rfl, by decide, by decide⟩ hY F (fun _ _ a ns hl _ hS => ⟨a, ns, rfl, hS, hl, fun _ => rfl⟩) fun _ _ _ _ _ z => z
end My
open PySem PySem.W PyProof.Rows
set_option maxRecDepth 100000 in
set_option maxHeartbeats 0 in
theorem PySem.Challenge.cw_rentshare_k81_orders_read_holds : PySem.Challenge.rw_rentshare_k81_orders_read.Holds := by
  w_on; o_law; k_head; (case hw => w_witness2)
  k_fill
  refine My.walk (l := PySem.Challenge.rw_rentshare_k81_orders_read) rfl rfl (fun w h Y => PySem.W.kIn_of Y) ?F
  case F =>
    intro w mg fa h KX G hmg
    obtain ⟨bA, hBE, hBK⟩ : ∃ bA, mg "BEDS" = some (.ref bA) ∧ L2.TupK (L2.KOf KX) bA L2.bedsL := by
      dsimp only [L2.KOf]
      refine' ⟨_, PySem.W.mg_of KX G ?qa, L2.tupK_mk ?ql ?qc ?qd ?qs ?qv⟩
      (case qa => k_is); (case ql => k_is); (case qc => rfl); (case qd => rfl); (case qs => decide); (case qv => exact .cons ⟨_, rfl⟩ (.cons ⟨_, rfl⟩ (.cons ⟨_, rfl⟩ (.cons ⟨_, rfl⟩ .nil))))
    obtain ⟨ra, TB⟩ : ∃ ra, L2.Readers (L2.KOf KX) w mg ra := by
      dsimp only [L2.KOf]
      refine' ⟨_, L2.readers_mk (PySem.W.mg_of KX G ?qa) ?ql ?qk ?qo (PySem.W.mg_of KX G ?qg0) ?qe0 (PySem.W.mg_of KX G ?qg1) ?qe1 (PySem.W.mg_of KX G ?qg2) ?qe2⟩
      (case qa => k_is); (case ql => k_is); (case qk => k_keys); (case qo => decide); (case qg0 => k_is); (case qe0 => k_is); (case qg1 => k_is); (case qe1 => k_is); (case qg2 => k_is); (case qe2 => k_is)
    obtain ⟨fA, FB⟩ : ∃ fA, L2.Forms (L2.KOf KX) w mg fA := by
      dsimp only [L2.KOf]
      refine' ⟨_, L2.forms_mk (PySem.W.mg_of KX G ?qa) ?ql ?qk ?qo ?qe0 (L2.tupK_mk ?ql0 ?qc0 ?qd0 ?qs0 ?qv0) ?qe1 (L2.tupK_mk ?ql1 ?qc1 ?qd1 ?qs1 ?qv1) ?qe2 (L2.tupK_mk ?ql2 ?qc2 ?qd2 ?qs2 ?qv2) ?qe3 (L2.tupK_mk ?ql3 ?qc3 ?qd3 ?qs3 ?qv3) ?qe4 (L2.tupK_mk ?ql4 ?qc4 ?qd4 ?qs4 ?qv4) ?qe5 (L2.tupK_mk ?ql5 ?qc5 ?qd5 ?qs5 ?qv5) ?qe6 (L2.tupK_mk ?ql6 ?qc6 ?qd6 ?qs6 ?qv6) ?qe7 (L2.tupK_mk ?ql7 ?qc7 ?qd7 ?qs7 ?qv7) ?qe8 (L2.tupK_mk ?ql8 ?qc8 ?qd8 ?qs8 ?qv8) ?qe9 (L2.tupK_mk ?ql9 ?qc9 ?qd9 ?qs9 ?qv9) ?qe10 (L2.tupK_mk ?ql10 ?qc10 ?qd10 ?qs10 ?qv10) ?qe11 (L2.tupK_mk ?ql11 ?qc11 ?qd11 ?qs11 ?qv11)⟩
      (case qa => k_is); (case ql => k_is); (case qk => k_keys); (case qo => decide)
      (case qe0 => k_is); (case ql0 => k_is); (case qc0 => rfl); (case qd0 => rfl); (case qs0 => decide); (case qv0 => exact .cons ⟨_, rfl⟩ (.cons ⟨_, rfl⟩ (.cons ⟨_, rfl⟩ (.nil))))
      (case qe1 => k_is); (case ql1 => k_is); (case qc1 => rfl); (case qd1 => rfl); (case qs1 => decide); (case qv1 => exact .cons ⟨_, rfl⟩ (.nil))
      (case qe2 => k_is); (case ql2 => k_is); (case qc2 => rfl); (case qd2 => rfl); (case qs2 => decide); (case qv2 => exact .cons ⟨_, rfl⟩ (.nil))
      (case qe3 => k_is); (case ql3 => k_is); (case qc3 => rfl); (case qd3 => rfl); (case qs3 => decide); (case qv3 => exact .cons ⟨_, rfl⟩ (.cons ⟨_, rfl⟩ (.cons ⟨_, rfl⟩ (.nil))))
      (case qe4 => k_is); (case ql4 => k_is); (case qc4 => rfl); (case qd4 => rfl); (case qs4 => decide); (case qv4 => exact .cons ⟨_, rfl⟩ (.cons ⟨_, rfl⟩ (.nil)))
      (case qe5 => k_is); (case ql5 => k_is); (case qc5 => rfl); (case qd5 => rfl); (case qs5 => decide); (case qv5 => exact .cons ⟨_, rfl⟩ (.nil))
      (case qe6 => k_is); (case ql6 => k_is); (case qc6 => rfl); (case qd6 => rfl); (case qs6 => decide); (case qv6 => exact .cons ⟨_, rfl⟩ (.cons ⟨_, rfl⟩ (.nil)))
      (case qe7 => k_is); (case ql7 => k_is); (case qc7 => rfl); (case qd7 => rfl); (case qs7 => decide); (case qv7 => exact .cons ⟨_, rfl⟩ (.nil))
      (case qe8 => k_is); (case ql8 => k_is); (case qc8 => rfl); (case qd8 => rfl); (case qs8 => decide); (case qv8 => exact .nil)
      (case qe9 => k_is); (case ql9 => k_is); (case qc9 => rfl); (case qd9 => rfl); (case qs9 => decide); (case qv9 => exact .nil)
      (case qe10 => k_is); (case ql10 => k_is); (case qc10 => rfl); (case qd10 => rfl); (case qs10 => decide); (case qv10 => exact .nil)
      (case qe11 => k_is); (case ql11 => k_is); (case qc11 => rfl); (case qd11 => rfl); (case qs11 => decide); (case qv11 => exact .nil)
    have S_show_amount : L2.Src (L2.KOf KX) mg "show_amount" "show_amount" My.s_show_amount := by
      dsimp only [L2.KOf]
      refine' L2.src_mk KX G ?a ?l ?c ?k
      (case a => k_is); (case l => k_is); (case c => k_is); (case k => k_is)
    have S_are_figures : L2.Src (L2.KOf KX) mg "are_figures" "are_figures" My.s_are_figures := by
      dsimp only [L2.KOf]
      refine' L2.src_mk KX G ?a ?l ?c ?k
      (case a => k_is); (case l => k_is); (case c => k_is); (case k => k_is)
    have S_has_form : L2.Src (L2.KOf KX) mg "has_form" "has_form" My.s_has_form := by
      dsimp only [L2.KOf]
      refine' L2.src_mk KX G ?a ?l ?c ?k
      (case a => k_is); (case l => k_is); (case c => k_is); (case k => k_is)
    have S_read_amount : L2.Src (L2.KOf KX) mg "read_amount" "read_amount" My.s_read_amount := by
      dsimp only [L2.KOf]
      refine' L2.src_mk KX G ?a ?l ?c ?k
      (case a => k_is); (case l => k_is); (case c => k_is); (case k => k_is)
    have S_name_in : L2.Src (L2.KOf KX) mg "name_in" "name_in" My.s_name_in := by
      dsimp only [L2.KOf]
      refine' L2.src_mk KX G ?a ?l ?c ?k
      (case a => k_is); (case l => k_is); (case c => k_is); (case k => k_is)
    have S_beds_in : L2.Src (L2.KOf KX) mg "beds_in" "beds_in" My.s_beds_in := by
      dsimp only [L2.KOf]
      refine' L2.src_mk KX G ?a ?l ?c ?k
      (case a => k_is); (case l => k_is); (case c => k_is); (case k => k_is)
    have S_amount_in : L2.Src (L2.KOf KX) mg "amount_in" "amount_in" My.s_amount_in := by
      dsimp only [L2.KOf]
      refine' L2.src_mk KX G ?a ?l ?c ?k
      (case a => k_is); (case l => k_is); (case c => k_is); (case k => k_is)
    have S_read_word : L2.Src (L2.KOf KX) mg "read_word" "read_word" My.s_read_word := by
      dsimp only [L2.KOf]
      refine' L2.src_mk KX G ?a ?l ?c ?k
      (case a => k_is); (case l => k_is); (case c => k_is); (case k => k_is)
    have S_read_row : L2.Src (L2.KOf KX) mg "read_row" "read_row" My.s_read_row := by
      dsimp only [L2.KOf]
      refine' L2.src_mk KX G ?a ?l ?c ?k
      (case a => k_is); (case l => k_is); (case c => k_is); (case k => k_is)
    have S_read_sheet : L2.Src (L2.KOf KX) mg "read_sheet" "read_sheet" My.s_read_sheet := by
      dsimp only [L2.KOf]
      refine' L2.src_mk KX G ?a ?l ?c ?k
      (case a => k_is); (case l => k_is); (case c => k_is); (case k => k_is)
    have S__law_cell_at : L2.Src (L2.KOf KX) mg "_law_cell_at" "_law_cell_at" My.s__law_cell_at := by
      dsimp only [L2.KOf]
      refine' L2.src_mk KX G ?a ?l ?c ?k
      (case a => k_is); (case l => k_is); (case c => k_is); (case k => k_is)
    have S__law_mixed : L2.Src (L2.KOf KX) mg "_law_mixed" "_law_mixed" My.s__law_mixed := by
      dsimp only [L2.KOf]
      refine' L2.src_mk KX G ?a ?l ?c ?k
      (case a => k_is); (case l => k_is); (case c => k_is); (case k => k_is)
    have S__law_number : L2.Src (L2.KOf KX) mg "_law_number" "_law_number" My.s__law_number := by
      dsimp only [L2.KOf]
      refine' L2.src_mk KX G ?a ?l ?c ?k
      (case a => k_is); (case l => k_is); (case c => k_is); (case k => k_is)
    have S__law_written : L2.Src (L2.KOf KX) mg "_law_written" "_law_written" My.s__law_written := by
      dsimp only [L2.KOf]
      refine' L2.src_mk KX G ?a ?l ?c ?k
      (case a => k_is); (case l => k_is); (case c => k_is); (case k => k_is)
    have S__law_whole : L2.Src (L2.KOf KX) mg "_law_whole" "_law_whole" My.s__law_whole := by
      dsimp only [L2.KOf]
      refine' L2.src_mk KX G ?a ?l ?c ?k
      (case a => k_is); (case l => k_is); (case c => k_is); (case k => k_is)
    have S__law_name : L2.Src (L2.KOf KX) mg "_law_name" "_law_name" My.s__law_name := by
      dsimp only [L2.KOf]
      refine' L2.src_mk KX G ?a ?l ?c ?k
      (case a => k_is); (case l => k_is); (case c => k_is); (case k => k_is)
    have S__law_order : L2.Src (L2.KOf KX) mg "_law_order" "_law_order" My.s__law_order := by
      dsimp only [L2.KOf]
      refine' L2.src_mk KX G ?a ?l ?c ?k
      (case a => k_is); (case l => k_is); (case c => k_is); (case k => k_is)
    have S__law_row : L2.Src (L2.KOf KX) mg "_law_row" "_law_row" My.s__law_row := by
      dsimp only [L2.KOf]
      refine' L2.src_mk KX G ?a ?l ?c ?k
      (case a => k_is); (case l => k_is); (case c => k_is); (case k => k_is)
    have S__law_same : L2.Src (L2.KOf KX) mg "_law_same" "_law_same" My.s__law_same := by
      dsimp only [L2.KOf]
      refine' L2.src_mk KX G ?a ?l ?c ?k
      (case a => k_is); (case l => k_is); (case c => k_is); (case k => k_is)
    have S_law : L2.Src (L2.KOf KX) mg "law" "law" My.s_law := by
      dsimp only [L2.KOf]
      refine' L2.src_mk KX G ?a ?l ?c ?k
      (case a => k_is); (case l => k_is); (case c => k_is); (case k => k_is)
    have T : My.Txt mg := by
      refine' ⟨PySem.W.mg_none_of KX G ?z0, PySem.W.mg_none_of KX G ?z1, PySem.W.mg_none_of KX G ?z2, PySem.W.mg_none_of KX G ?z3, PySem.W.mg_none_of KX G ?z4, PySem.W.mg_none_of KX G ?z5, PySem.W.mg_none_of KX G ?z6, PySem.W.mg_none_of KX G ?z7, PySem.W.mg_none_of KX G ?z8, PySem.W.mg_none_of KX G ?z9, PySem.W.mg_none_of KX G ?z10, PySem.W.mg_none_of KX G ?z11, ⟨_, PySem.W.mg_of KX G ?z12, ?y12⟩, ⟨_, PySem.W.mg_of KX G ?z13, ?y13⟩, ⟨_, PySem.W.mg_of KX G ?z14, ?y14⟩, ⟨_, PySem.W.mg_of KX G ?z15, ?y15⟩, ⟨_, PySem.W.mg_of KX G ?z16, ?y16⟩⟩
      (case z0 => k_is); (case z1 => k_is); (case z2 => k_is); (case z3 => k_is); (case z4 => k_is); (case z5 => k_is); (case z6 => k_is); (case z7 => k_is); (case z8 => k_is); (case z9 => k_is); (case z10 => k_is); (case z11 => k_is); (case z12 => k_is); (case z13 => k_is); (case z14 => k_is); (case z15 => k_is); (case z16 => k_is); (case y12 => exact ⟨_, rfl⟩); (case y13 => exact ⟨_, rfl⟩); (case y14 => exact ⟨_, rfl⟩); (case y15 => exact ⟨_, rfl⟩); (case y16 => exact ⟨_, rfl⟩)
    exact L2.law_fd S_law (fun _ _ _ _ _ _ _ => rfl) (fun base => by
      have Dm := My.D_mixed (P := PySem.Challenge.rw_rentshare_k81_orders_read.prog) (w := w) (base := base) S__law_mixed
      have Dr := My.D_read (P := PySem.Challenge.rw_rentshare_k81_orders_read.prog) (w := w) (base := base) T S_read_amount (My.D_form T S_has_form (My.D_figs T S_are_figures)) (My.D_shown T S_show_amount)
      have Dw := My.D_readword (P := PySem.Challenge.rw_rentshare_k81_orders_read.prog) (w := w) (base := base) T TB S_read_word (My.D_namein T S_name_in) (My.D_bedsin T hBE hBK S_beds_in) (My.D_amountin T S_amount_in Dr)
      have Ds := My.D_readsheet (P := PySem.Challenge.rw_rentshare_k81_orders_read.prog) (w := w) (base := base) T S_read_sheet (My.D_readrow T FB S_read_row Dw)
      exact My.D_law T S_law Dm (My.D_cell T S__law_cell_at) (My.D_lorder T S__law_order Dm (My.D_lname T S__law_name) (My.D_number S__law_number Dm)) (My.D_lrow T S__law_row (My.D_written T S__law_written)) (My.D_lsame T S__law_same (My.D_whole T S__law_whole)) Ds) hmg
#print axioms PySem.Challenge.cw_rentshare_k81_orders_read_holds
